import PyProof.Rows.All
import Wide.All
import OpenK.AllK
import Wide.FinOn
import PyProof.EqAt
import PyProof.EqKinds
import PyProof.TupleCall
import KE.BitLaws
import PyProof.NsDelKeeps
import KE.KSuperObj
import PySem.Challenge.RW_farshells_k02_ratios_reckoned
set_option Elab.async false
set_option linter.all false
set_option maxRecDepth 100000
set_option maxHeartbeats 4000000
/-! THE HAND LAYER, for ints, bools, texts, own classes, lists, tuples, dicts, comprehensions, walks over dicts, enumerate, zip, reversed, texts, calls, loops. Paste it whole ahead of your own text; what your proof does not reach may be deleted. -/
namespace L2
open PySem PySem.Spec PyProof.Rows

/-- a key: an int or a str -/
abbrev Key := Sum Int Str
def keyIs : Key → Value → Bool
  | .inl k, v => Value.isInt k v
  | .inr x, v => Value.isStrOf x v
def keyH (w : World) : Key → Int
  | .inl k => hashInt k
  | .inr x => hashStr w x
theorem keyIs_shape : ∀ {k : Key} {v : Value}, keyIs k v = true → (∃ i t, k = Sum.inl i ∧ v = Value.int i t) ∨ (∃ x t, k = Sum.inr x ∧ v = Value.str x t)
  | .inl i, v, h => by
    obtain ⟨t, e⟩ := Value.isInt_shape (k := i) (v := v) h
    exact .inl ⟨i, t, rfl, e⟩
  | .inr x, v, h => by
    obtain ⟨t, e⟩ := Value.isStrOf_shape (x := x) (v := v) h
    exact .inr ⟨x, t, rfl, e⟩
theorem keyIs_int (i : Int) (t : Tok) : keyIs (.inl i) (.int i t) = true := by simp [keyIs, Value.isInt]
theorem keyIs_str (x : Str) (t : Tok) : keyIs (.inr x) (.str x t) = true := by simp [keyIs, Value.isStrOf]
theorem key_ll (a b : Int) : decide ((Sum.inl a : Key) = Sum.inl b) = (a == b) := by
  by_cases e : a = b
  · subst e; simp
  · have h : ¬ (Sum.inl a : Key) = Sum.inl b := fun q => e (Sum.inl.inj q)
    rw [decide_eq_false h]
    exact (beq_eq_false_iff_ne.mpr e).symm
theorem key_rr (a b : Str) : decide ((Sum.inr a : Key) = Sum.inr b) = decide (a = b) := by
  by_cases e : a = b
  · subst e; simp
  · have h : ¬ (Sum.inr a : Key) = Sum.inr b := fun q => e (Sum.inr.inj q)
    rw [decide_eq_false h, decide_eq_false e]
theorem key_lr (a : Int) (b : Str) : decide ((Sum.inl a : Key) = Sum.inr b) = false := decide_eq_false (fun q => nomatch q)
theorem key_rl (a : Str) (b : Int) : decide ((Sum.inr a : Key) = Sum.inl b) = false := decide_eq_false (fun q => nomatch q)

def mixKind (prog : Program) (w : World) : PySem.KeyKind prog w Key where
  is := keyIs
  hash := keyH w
  inj := fun v a b ha hb => by
    rcases keyIs_shape ha with ⟨i, t, rfl, rfl⟩ | ⟨x, t, rfl, rfl⟩
    · rcases keyIs_shape hb with ⟨j, u, rfl, e⟩ | ⟨y, u, rfl, e⟩
      · injection e with e1 _; rw [e1]
      · exact nomatch e
    · rcases keyIs_shape hb with ⟨j, u, rfl, e⟩ | ⟨y, u, rfl, e⟩
      · exact nomatch e
      · injection e with e1 _; rw [e1]
  byValue := fun k v h => by
    rcases keyIs_shape h with ⟨i, t, rfl, rfl⟩ | ⟨x, t, rfl, rfl⟩ <;> rfl
  pyHash := fun hv h => by
    rcases keyIs_shape hv with ⟨i, t, rfl, rfl⟩ | ⟨x, t, rfl, rfl⟩
    · exact wpAny_pyHash_int h
    · exact wpAny_pyHash_str h
  eqBool := fun hu hv h => by
    rcases keyIs_shape hu with ⟨i, t, rfl, rfl⟩ | ⟨x, t, rfl, rfl⟩
    · rcases keyIs_shape hv with ⟨j, u, rfl, rfl⟩ | ⟨y, u, rfl, rfl⟩
      · rw [key_ll] at h; exact wpAny_eqBool_int h
      · rw [key_lr] at h; exact SeqAt.EqAt.int_str i t y u _ _ _ _ h
    · rcases keyIs_shape hv with ⟨j, u, rfl, rfl⟩ | ⟨y, u, rfl, rfl⟩
      · rw [key_rl] at h; exact SeqAt.EqAt.str_int x t j u _ _ _ _ h
      · rw [key_rr] at h; exact wpAny_eqBool_str h
  «strs» := fun k x t v h => by
    rcases keyIs_shape h with ⟨i, u, rfl, e⟩ | ⟨y, u, rfl, e⟩
    · exact nomatch e
    · injection e with e1 _
      subst e1
      cases v <;> rfl

theorem mixKind_is (prog : Program) (w : World) (k : Key) (v : Value) : (mixKind prog w).is k v = keyIs k v := rfl
theorem mixKind_int (prog : Program) (w : World) (i : Int) (t : Tok) : (mixKind prog w).is (.inl i) (.int i t) = true := keyIs_int i t
theorem mixKind_str (prog : Program) (w : World) (x : Str) (t : Tok) : (mixKind prog w).is (.inr x) (.str x t) = true := keyIs_str x t
end L2

namespace L2
open PySem PySem.Spec PyProof.Rows

/-- a value, without the heap -/
inductive V where
  | non | bl (b : Bool) | int (i : Int) | str (x : Str) | byt (b : Array UInt8) | flt (b : UInt64) | ref (a : Addr) | ty (n : String)
  deriving DecidableEq

def RelV : V → Value → Prop
  | .non, u => u = Value.none
  | .bl b, u => u = Value.bool b
  | .int i, u => ∃ t, u = Value.int i t
  | .str x, u => ∃ t, u = Value.str x t
  | .byt b, u => ∃ t, u = Value.bytes b t
  | .flt b, u => ∃ t, u = Value.float b t
  | .ref a, u => u = Value.ref a
  | .ty n, u => u = Value.type n

abbrev Vals : List V → List Value → Prop := Paired RelV
theorem Vals.length {xs : List V} {us : List Value} (r : Vals xs us) : xs.length = us.length := Paired.length r
theorem Vals.get : ∀ {xs : List V} {us : List Value} {i : Nat} {x : V}, Vals xs us → xs[i]? = some x → ∃ u, us[i]? = some u ∧ RelV x u
  | _, _, _, _, .nil, e => by simp at e
  | _, _, 0, _, .cons r _, e => by simp at e; subst e; exact ⟨_, rfl, r⟩
  | _, _, i + 1, x, .cons _ t, e => by
    obtain ⟨u, h1, h2⟩ := Vals.get (i := i) (x := x) t (by simpa using e)
    exact ⟨u, by simpa using h1, h2⟩
theorem Vals.set {x : V} {u : Value} (r : RelV x u) : ∀ {xs : List V} {us : List Value} (i : Nat), Vals xs us → Vals (xs.set i x) (us.set i u)
  | _, _, _, .nil => .nil
  | _, _, 0, .cons _ t => .cons r t
  | _, _, i + 1, .cons q t => .cons q (Vals.set r i t)
theorem Vals.append : ∀ {xs ys : List V} {us ws : List Value}, Vals xs us → Vals ys ws → Vals (xs ++ ys) (us ++ ws)
  | _, _, _, _, .nil, s => s
  | _, _, _, _, .cons r t, s => .cons r (Vals.append t s)
theorem Vals.take : ∀ {xs : List V} {us : List Value} (n : Nat), Vals xs us → Vals (xs.take n) (us.take n)
  | _, _, 0, _ => .nil
  | _, _, _ + 1, .nil => .nil
  | _, _, n + 1, .cons r t => .cons r (Vals.take n t)
theorem Vals.drop : ∀ {xs : List V} {us : List Value} (n : Nat), Vals xs us → Vals (xs.drop n) (us.drop n)
  | _, _, 0, r => r
  | _, _, _ + 1, .nil => .nil
  | _, _, n + 1, .cons _ t => Vals.drop n t
theorem Vals.none_of : ∀ {xs : List V} {us : List Value} {i : Nat}, Vals xs us → xs[i]? = none → us[i]? = none := fun {xs us i} r e => by
  have h1 := r.length
  have h2 : xs.length ≤ i := List.getElem?_eq_none_iff.mp e
  exact List.getElem?_eq_none_iff.mpr (by omega)

def RelO : Option V → Option Value → Prop
  | some v, some u => RelV v u
  | none, none => True
  | _, _ => False
def KV {κ : Type} : List (κ × V) → List (κ × Value) → Prop := Paired fun (p : κ × V) (q : κ × Value) => p.1 = q.1 ∧ RelV p.2 q.2

/-- a key of a dict (00_mix): an int or a text -/
def kV : Key → V
  | .inl i => .int i
  | .inr x => .str x

/-- what stands at a tracked address -/
inductive HO where
  /-- a list -/
  | lst (xs : List V)
  /-- a tuple (never changes) -/
  | tup (xs : List V)
  /-- a dict whose keys are ints and texts; one whose keys are tuples of ints and texts (the empty one is both) -/
  | dK (kvs : List (Key × V)) | dT (kvs : List (List Key × V))
  /-- a set of ints: its members, its size -/
  | set (S : Int → Bool) (n : Nat)
  /-- an instance of the class at C, its dict at dx, its attributes -/
  | ins (C dx : Addr) (fs : List (Str × V))
  /-- the dict of the instance at x -/
  | own (x : Addr)
  /-- the dict of an exception -/
  | xd (fs : List (Str × V))
  /-- a bound method, f of x -/
  | met (f x : Addr)
  /-- a range object lo, lo + 1, .. below hi -/
  | rng (lo hi : Int)
  /-- a thing that is known to the object (the script; a dict while a loop walks it): read, never written while it is so -/
  | frz (o : Obj) (u : HO)
  /-- a code object's table -/
  | tbl (ps : Array Value)
  /-- any other thing, by what is true of its one object (a def of one's own: SetO a S n := HO.ext fun h => ..) -/
  | ext (φ : Heap → Prop)

abbrev Hp := Addr → Option HO
def upd (H : Hp) (a : Addr) (o : HO) : Hp := fun b => if b = a then some o else H b
theorem upd_same {H : Hp} {a : Addr} {o : HO} : upd H a o a = some o := by unfold upd; rw [if_pos rfl]
theorem upd_ne {H : Hp} {a b : Addr} {o : HO} (h : b ≠ a) : upd H a o b = H b := by unfold upd; rw [if_neg h]
theorem upd_upd {H : Hp} {a : Addr} {o u : HO} : upd (upd H a o) a u = upd H a u := by
  funext b; unfold upd; split <;> rfl
/-- two objects of different content stand apart -/
theorem ne_of {H : Hp} {a b : Addr} {o u : HO} (h : H a = some o) (h' : H b = some u) (d : o ≠ u) : a ≠ b := by
  intro e; subst e; rw [h] at h'; exact d (Option.some.inj h')
theorem ne_of_none {H : Hp} {a b : Addr} {o : HO} (h : H a = some o) (h' : H b = none) : a ≠ b := by
  intro e; subst e; rw [h] at h'; cases h'

section
variable (P : Program) (w : World)
def ObjOk (H : Hp) (h : Heap) (a : Addr) : HO → Prop
  | .lst xs => xs.length ≤ sizeLine ∧ ∃ (its : List Value) (n : Nat), Vals xs its ∧ h.get? a = some { cls := .type "list", data := .seq its.toArray n }
  | .tup xs => xs.length ≤ sizeLine ∧ ∃ its : List Value, Vals xs its ∧ IsTup h a its.toArray
  | .dK kvs => kvs.length ≤ sizeLine ∧ (a == sysModules) = false ∧ ∃ vs, KV kvs vs ∧ h.DictOf (mixKind P w) a vs
  | .dT kvs => kvs.length ≤ sizeLine ∧ (a == sysModules) = false ∧ ∃ xs : List (List Key × Addr × Value),
      Paired (fun (p : List Key × V) (q : List Key × Addr × Value) => p.1 = q.1 ∧ H q.2.1 = some (.tup (p.1.map kV)) ∧ RelV p.2 q.2.2) kvs xs ∧
      ∃ o es ep, h.get? a = some o ∧ o.ExactDict ∧ o.data = .dict es ep ∧ es.toList = xs.map (entryOfKey (tupleKind (mixKind P w))) ∧ (xs.map (·.1)).Nodup
  | .set S n => h.SetOf (intKind P w) a S n
  | .ins C dx fs => H dx = some (.own a) ∧ fs.length ≤ 1000 ∧ dx ≠ a ∧ h.get? a = some (PySem.W.instObj C dx) ∧
      ∃ mA, h.Ns1 dx mA ∧ (∀ f, RelO (fs.lookup f) (mA f)) ∧ PySem.Within mA (fs.map (·.1))
  | .own _ => ∃ o, h.get? a = some o
  | .xd fs => ∃ mA, h.Ns1 a mA ∧ ∀ f, RelO (fs.lookup f) (mA f)
  | .rng lo hi => ∃ t u v, h.get? a = some { cls := .type "range", data := .fields #[.int lo t, .int hi u, .int 1 v] }
  | .frz o u => h.get? a = some o ∧ ObjOk H h a u
  | .tbl ps => h.get? a = some { cls := .none, data := .fields ps }
  | .met f x => h.get? a = some (PySem.W.methodObj (.ref f) (.ref x))
  | .ext φ => φ h ∧ (∃ o, h.get? a = some o) ∧ ∀ h1 h2 : Heap, φ h1 → (∀ o, h1.get? a = some o → h2.get? a = some o) → φ h2
/-- the abstract heap is held -/
def HOk (H : Hp) (h : Heap) : Prop := ∀ a o, H a = some o → ObjOk P w H h a o
end

section
variable {P : Program} {w : World} {H H' : Hp} {h h' : Heap} {a : Addr} {o : HO}
theorem ObjOk.lt (x : ObjOk P w H h a o) : a < h.objs.size := by
  cases o with
  | lst xs => obtain ⟨_, _, _, _, e⟩ := x; exact Heap.lt_size e
  | tup xs => obtain ⟨_, _, _, p⟩ := x; exact p.lt
  | dK kvs => obtain ⟨_, _, _, _, o, _, _, e, _⟩ := x; exact Heap.lt_size e
  | dT kvs => obtain ⟨_, _, _, _, o, _, _, e, _⟩ := x; exact Heap.lt_size e
  | set S n => obtain ⟨o, _, _, _, e, _⟩ := x; exact Heap.lt_size e
  | ins C dx fs => obtain ⟨_, _, _, e, _⟩ := x; exact Heap.lt_size e
  | own y => obtain ⟨_, e⟩ := x; exact Heap.lt_size e
  | xd fs => obtain ⟨_, ⟨_, _, _, e, _⟩, _⟩ := x; exact Heap.lt_size e
  | rng lo hi => obtain ⟨_, _, _, e⟩ := x; exact Heap.lt_size e
  | frz ob u => obtain ⟨e, _⟩ := x; exact Heap.lt_size e
  | tbl ps => exact Heap.lt_size (show h.get? a = some _ from x)
  | met f y => exact Heap.lt_size (show h.get? a = some _ from x)
  | ext φ => obtain ⟨_, ⟨_, e⟩, _⟩ := x; exact Heap.lt_size e
theorem Paired.mapP {α β : Type} {F G : α → β → Prop} : ∀ {l₁ : List α} {l₂ : List β}, Paired F l₁ l₂ → (∀ a b, F a b → G a b) → Paired G l₁ l₂
  | _, _, .nil, _ => .nil
  | _, _, .cons r t, f => .cons (f _ _ r) (Paired.mapP t f)
theorem Paired.imp' {α β : Type} {F G : α → β → Prop} (f : ∀ a b, F a b → G a b) {l₁ : List α} {l₂ : List β} (r : Paired F l₁ l₂) : Paired G l₁ l₂ := Paired.mapP r f
/-- what an object's description leans on: its own object, its own dict, the tuples -/
theorem ObjOk.stay (x : ObjOk P w H h a o) (k : ∀ b u, (b = a ∨ H b = some (.own a)) → h.get? b = some u → h'.get? b = some u)
    (ho : ∀ b, H b = some (.own a) → H' b = some (.own a)) (ht : ∀ b xs, H b = some (.tup xs) → H' b = some (.tup xs)) : ObjOk P w H' h' a o := by
  induction o with
  | lst xs => obtain ⟨z, its, n, r, e⟩ := x; exact ⟨z, its, n, r, k _ _ (.inl rfl) e⟩
  | tup xs => obtain ⟨z, its, r, ob, e, c⟩ := x; exact ⟨z, its, r, ob, k _ _ (.inl rfl) e, c⟩
  | dK kvs => obtain ⟨z, y, vs, r, ob, es, ep, e, c⟩ := x; exact ⟨z, y, vs, r, ob, es, ep, k _ _ (.inl rfl) e, c⟩
  | dT kvs =>
    obtain ⟨z, y, xs, r, ob, es, ep, e, c⟩ := x
    exact ⟨z, y, xs, Paired.mapP r fun p q z => ⟨z.1, ht _ _ z.2.1, z.2.2⟩, ob, es, ep, k _ _ (.inl rfl) e, c⟩
  | set S n => obtain ⟨ob, es, ep, t, e, c⟩ := x; exact ⟨ob, es, ep, t, k _ _ (.inl rfl) e, c⟩
  | ins C dx fs =>
    obtain ⟨d, z, ne, e, mA, ⟨od, es, ep, e2, c⟩, r⟩ := x
    exact ⟨ho _ d, z, ne, k _ _ (.inl rfl) e, mA, ⟨od, es, ep, k _ _ (.inr d) e2, c⟩, r⟩
  | own y => obtain ⟨ob, e⟩ := x; exact ⟨ob, k _ _ (.inl rfl) e⟩
  | xd fs => obtain ⟨mA, ⟨od, es, ep, e, c⟩, r⟩ := x; exact ⟨mA, ⟨od, es, ep, k _ _ (.inl rfl) e, c⟩, r⟩
  | rng lo hi => obtain ⟨t, u, v, e⟩ := x; exact ⟨t, u, v, k _ _ (.inl rfl) e⟩
  | frz ob u ih => obtain ⟨e, q⟩ := x; exact ⟨k _ _ (.inl rfl) e, ih q⟩
  | tbl ps =>
    have e : h.get? a = some { cls := .none, data := .fields ps } := x
    show h'.get? a = some { cls := .none, data := .fields ps }
    exact k a _ (.inl rfl) e
  | met f y =>
    have e : h.get? a = some (PySem.W.methodObj (.ref f) (.ref y)) := x
    show h'.get? a = some (PySem.W.methodObj (.ref f) (.ref y))
    exact k a _ (.inl rfl) e
  | ext φ => obtain ⟨p, ⟨o, e⟩, st⟩ := x; exact ⟨st _ _ p fun o q => k _ _ (.inl rfl) q, ⟨o, k _ _ (.inl rfl) e⟩, st⟩
theorem HOk.lt (x : HOk P w H h) (e : H a = some o) : a < h.objs.size := (x a o e).lt
theorem HOk.fresh (x : HOk P w H h) (e : h.objs.size ≤ a) : H a = none := by
  cases q : H a with
  | none => rfl
  | some u => exact absurd (Nat.lt_of_lt_of_le (x.lt q) e) (Nat.lt_irrefl _)
/-- every object of the heap is kept -/
theorem HOk.kept (x : HOk P w H h) (k : ∀ b u, h.get? b = some u → h'.get? b = some u) : HOk P w H h' := fun a o e =>
  (x a o e).stay (fun b u _ q => k b u q) (fun _ q => q) fun _ _ q => q
/-- a new object is laid and tracked -/
theorem HOk.laid (x : HOk P w H h) (k : ∀ b u, h.get? b = some u → h'.get? b = some u) (hp : h.objs.size ≤ a) (new : ObjOk P w (upd H a o) h' a o) : HOk P w (upd H a o) h' := fun b u e => by
  have hn := x.fresh hp
  by_cases hb : b = a
  · subst hb; rw [upd_same] at e; cases e; exact new
  · rw [upd_ne hb] at e
    exact (x b u e).stay (fun c v _ q => k c v q) (fun c q => by rw [upd_ne (ne_of_none q hn)]; exact q) fun c xs q => by rw [upd_ne (ne_of_none q hn)]; exact q
end

/-- what may be read as u: it is u, or a known u -/
def Rd (H : Hp) (a : Addr) (u : HO) : Prop := H a = some u ∨ ∃ o, H a = some (.frz o u)
theorem Rd.of {H : Hp} {a : Addr} {u : HO} (h : H a = some u) : Rd H a u := .inl h
theorem Rd.ok {P : Program} {w : World} {H : Hp} {h : Heap} {a : Addr} {u : HO} (r : Rd H a u) (x : HOk P w H h) : ObjOk P w H h a u := by
  rcases r with r | ⟨o, r⟩
  · exact x a u r
  · obtain ⟨_, q⟩ := x a _ r
    exact q
/-- what may be written -/
def Mut : Option HO → Prop
  | some (.lst _) => True
  | some (.dK _) => True
  | some (.dT _) => True
  | some (.set _ _) => True
  | some (.ins _ _ _) => True
  | some (.ext _) => True
  | _ => False
section
variable {P : Program} {w : World} {H : Hp} {h h' : Heap} {x e : Addr} {o' : HO}
/-- the object at e is changed: x itself, or the dict of the instance x -/
theorem HOk.write (ok : HOk P w H h) (mu : Mut (H x)) (he : e = x ∨ H e = some (.own x)) (k : ∀ b u, b ≠ e → h.get? b = some u → h'.get? b = some u) (heo : ∃ u, h'.get? e = some u)
    (new : ObjOk P w (upd H x o') h' x o') : HOk P w (upd H x o') h' := fun b u q => by
  have nown : ∀ c y, H c = some (.own y) → c ≠ x := fun c y r z => by subst z; rw [r] at mu; exact mu
  have ntup : ∀ c xs, H c = some (.tup xs) → c ≠ x := fun c xs r z => by subst z; rw [r] at mu; exact mu
  by_cases hb : b = x
  · subst hb; rw [upd_same] at q; cases q; exact new
  · rw [upd_ne hb] at q
    by_cases hbe : b = e
    · have q' : H b = some (.own x) := by
        rcases he with z | z
        · exact absurd (hbe.trans z) hb
        · rw [hbe]; exact z
      rw [q] at q'; cases q'
      obtain ⟨v, hv⟩ := heo
      exact ⟨v, by rw [hbe]; exact hv⟩
    · refine (ok b u q).stay (fun c v hc r => k c v ?_ r) (fun c r => by rw [upd_ne (nown c b r)]; exact r) fun c xs r => by rw [upd_ne (ntup c xs r)]; exact r
      rcases hc with rfl | hc
      · exact hbe
      · rintro rfl
        rcases he with z | z
        · exact nown c b hc z
        · rw [hc] at z; cases z; exact hb rfl
end

/-! ### kept unless tracked; of the frames at fs (the callers') the slots may change (an exception that passes writes there); of the records at ex (iterators) nothing is said -/
structure Un (fs ex : List Addr) (H H' : Hp) (h h' : Heap) : Prop where
  keep : ∀ b o, h.get? b = some o → H b = none → b ∉ fs → b ∉ ex → h'.get? b = some o
  slot : ∀ b o, h.get? b = some o → H b = none → b ∈ fs → b ∉ ex → ∃ sl, h'.get? b = some { o with slots := sl }
  free : ∀ b o, h.get? b = some o → H b = none → b ∉ ex → H' b = none
  there : ∀ b o, h.get? b = some o → b ∉ ex → ∃ o', h'.get? b = some o'
  tups : ∀ b xs, H b = some (.tup xs) → H' b = some (.tup xs)
  frzs : ∀ b o u, H b = some (.frz o u) → H' b = some (.frz o u)
  tbls : ∀ b ps, H b = some (.tbl ps) → ∃ more, H' b = some (.tbl (ps ++ more))
section
variable {fs fs' ex ex' : List Addr} {H H1 H2 : Hp} {h h1 h2 h' : Heap} {a x e : Addr} {o : HO}
theorem Un.any (u : Un fs ex H H1 h h1) {b : Addr} {ob : Obj} (q : h.get? b = some ob) (n : H b = none) (hx : b ∉ ex) : ∃ sl, h1.get? b = some { ob with slots := sl } := by
  by_cases hb : b ∈ fs
  · exact u.slot b ob q n hb hx
  · exact ⟨ob.slots, u.keep b ob q n hb hx⟩
theorem Un.trans (a : Un fs ex H H1 h h1) (b : Un fs ex H1 H2 h1 h2) : Un fs ex H H2 h h2 where
  keep := fun c ob q n hc hx => b.keep c ob (a.keep c ob q n hc hx) (a.free c ob q n hx) hc hx
  slot := fun c ob q n hc hx => by
    obtain ⟨sl, e1⟩ := a.slot c ob q n hc hx
    obtain ⟨sl', e2⟩ := b.slot c _ e1 (a.free c ob q n hx) hc hx
    exact ⟨sl', e2⟩
  free := fun c ob q n hx => by
    obtain ⟨o', e1⟩ := a.there c ob q hx
    exact b.free c o' e1 (a.free c ob q n hx) hx
  there := fun c ob q hx => by
    obtain ⟨o', e1⟩ := a.there c ob q hx
    exact b.there c o' e1 hx
  tups := fun c xs q => b.tups c xs (a.tups c xs q)
  frzs := fun c ob xs q => b.frzs c ob xs (a.frzs c ob xs q)
  tbls := fun c ps q => by
    obtain ⟨m1, e1⟩ := a.tbls c ps q
    obtain ⟨m2, e2⟩ := b.tbls c _ e1
    exact ⟨m1 ++ m2, by rw [e2, Array.append_assoc]⟩
theorem Un.kept (k : ∀ b u, h.get? b = some u → h'.get? b = some u) : Un fs ex H H h h' :=
  ⟨fun b ob q _ _ _ => k b ob q, fun b ob q _ _ _ => ⟨ob.slots, k b ob q⟩, fun _ _ _ n _ => n, fun b ob q _ => ⟨ob, k b ob q⟩, fun _ _ q => q, fun _ _ _ q => q, fun _ ps q => ⟨#[], by rw [q]; simp⟩⟩
theorem Un.refl : Un fs ex H H h h := Un.kept fun _ _ q => q
theorem Un.laid (k : ∀ b u, h.get? b = some u → h'.get? b = some u) (hp : h.objs.size ≤ a) (hn : H a = none) : Un fs ex H (upd H a o) h h' where
  keep := fun b u q _ _ _ => k b u q
  slot := fun b u q _ _ _ => ⟨u.slots, k b u q⟩
  free := fun b u q n _ => by rw [upd_ne (Nat.ne_of_lt (Nat.lt_of_lt_of_le (Heap.lt_size q) hp))]; exact n
  there := fun b u q _ => ⟨u, k b u q⟩
  tups := fun b xs q => by rw [upd_ne (ne_of_none q hn)]; exact q
  frzs := fun b u xs q => by rw [upd_ne (ne_of_none q hn)]; exact q
  tbls := fun b ps q => ⟨#[], by rw [upd_ne (ne_of_none q hn), q]; simp⟩
theorem Un.write (mu : Mut (H x)) (he : e = x ∨ H e = some (.own x)) (k : ∀ b u, b ≠ e → h.get? b = some u → h'.get? b = some u) (heo : ∃ u, h'.get? e = some u) : Un fs ex H (upd H x o) h h' := by
  have hx : ∀ b, H b = none → b ≠ x := fun b n z => by subst z; rw [n] at mu; exact mu
  have hb : ∀ b, H b = none → b ≠ e := fun b n z => by
    subst z
    rcases he with r | r
    · exact hx b n r
    · rw [n] at r; cases r
  have hm : ∀ b u, H b = some u → ¬ Mut (some u) → b ≠ x := fun b u q nm z => by subst z; rw [q] at mu; exact nm mu
  refine ⟨fun b u q n _ _ => k b u (hb b n) q, fun b u q n _ _ => ⟨u.slots, k b u (hb b n) q⟩, fun b u q n _ => by rw [upd_ne (hx b n)]; exact n, fun b u q _ => ?_,
    fun b xs q => by rw [upd_ne (hm b _ q fun z => z)]; exact q, fun b u xs q => by rw [upd_ne (hm b _ q fun z => z)]; exact q, fun b ps q => ⟨#[], by rw [upd_ne (hm b _ q fun z => z), q]; simp⟩⟩
  by_cases hbe : b = e
  · subst hbe; exact heo
  · exact ⟨u, k b u hbe q⟩
theorem Un.mono (u : Un fs ex H H1 h h1) (hs : ∀ b ∈ fs, b ∈ fs') (hx : ∀ b ∈ ex, b ∈ ex') : Un fs' ex' H H1 h h1 :=
  ⟨fun b ob q n hb he => u.keep b ob q n (fun z => hb (hs b z)) fun z => he (hx b z), fun _ _ q n _ he => u.any q n fun z => he (hx _ z), fun b ob q n he => u.free b ob q n fun z => he (hx b z), fun b ob q he => u.there b ob q fun z => he (hx b z), u.tups, u.frzs, u.tbls⟩
end

/-! ### the heap without what is tracked -/
def trk (h : Heap) (H : Hp) : List Addr := (List.range h.objs.size).filter fun a => (H a).isSome
def hidT (h : Heap) (H : Hp) : Heap := PySem.W.hideAll h (trk h H)
theorem hidT_size (h : Heap) (H : Hp) : (hidT h H).objs.size = h.objs.size := PySem.W.hideAll_size _ _
theorem hidT_get {h : Heap} {H : Hp} {b : Addr} {o : Obj} (e : h.get? b = some o) (n : H b = none) : (hidT h H).get? b = some o :=
  PySem.W.hideAll_get _ e fun hm => by
    have q : (H b).isSome = true := (List.mem_filter.mp hm).2
    rw [n] at q; simp at q
theorem of_hidT {h : Heap} {H : Hp} {b : Addr} {o : Obj} (e : (hidT h H).get? b = some o) : h.get? b = some o ∧ H b = none := by
  have e' : h.get? b = some o := PySem.W.of_hideAll (trk h H) e
  refine ⟨e', ?_⟩
  cases q : H b with
  | none => rfl
  | some x =>
    have hm : b ∈ trk h H := List.mem_filter.mpr ⟨List.mem_range.mpr (Heap.lt_size e'), by simp [q]⟩
    have z : (hidT h H).get? b = none := PySem.W.hideAll_none (trk h H) hm
    rw [z] at e; cases e

/-! ### OpenK's ledger, filled with every new object but one -/
def allNews (g h : Heap) (L : Addr) : List (Addr × Obj) := (List.range h.objs.size).filterMap fun a => if a = L ∨ (g.get? a).isSome = true then none else (h.get? a).map fun o => (a, o)
theorem mem_allNews {g h : Heap} {L a : Addr} {o : Obj} (h1 : a ≠ L) (h2 : g.get? a = none) (h3 : h.get? a = some o) : (a, o) ∈ allNews g h L :=
  List.mem_filterMap.mpr ⟨a, List.mem_range.mpr (Heap.lt_size h3), by simp [h1, h2, h3]⟩
theorem of_mem_allNews {g h : Heap} {L : Addr} {p : Addr × Obj} (hp : p ∈ allNews g h L) : p.1 ≠ L ∧ g.get? p.1 = none ∧ h.get? p.1 = some p.2 := by
  obtain ⟨b, _, e⟩ := List.mem_filterMap.mp hp
  split at e
  · cases e
  · rename_i hn
    cases q : h.get? b with
    | none => rw [q] at e; simp at e
    | some u =>
      rw [q] at e
      simp only [Option.map_some, Option.some.injEq] at e
      subst e
      refine ⟨fun z => hn (.inl z), ?_, q⟩
      show g.get? b = none
      cases r : g.get? b with
      | none => rfl
      | some v => exact (hn (.inr (by simp [r]))).elim
def rest (g h : Heap) (L d : Addr) : List (Addr × Obj) := (allNews g h L).filter fun p => decide (p.1 ≠ d)
theorem rest_ne {g h : Heap} {L d : Addr} : ∀ p ∈ rest g h L d, p.1 ≠ d := fun p hp => of_decide_eq_true (List.mem_filter.mp hp).2
theorem mem_rest {g h : Heap} {L d a : Addr} {o : Obj} (h1 : a ≠ L) (h2 : g.get? a = none) (h3 : h.get? a = some o) (h4 : a ≠ d) : (a, o) ∈ rest g h L d :=
  List.mem_filter.mpr ⟨mem_allNews h1 h2 h3, decide_eq_true h4⟩
theorem news_all {g h : Heap} {L : Addr} : News g L h (allNews g h L) := fun p hp => let ⟨a, b, c⟩ := of_mem_allNews hp; ⟨c, a, b⟩
theorem news_at {g h : Heap} {L d : Addr} {o : Obj} (h1 : d ≠ L) (h2 : g.get? d = none) (h3 : h.get? d = some o) : News g L h ((d, o) :: rest g h L d) := fun p hp => by
  rcases List.mem_cons.mp hp with rfl | hp
  · exact ⟨h3, h1, h2⟩
  · exact news_all p (List.mem_filter.mp hp).1
/-- behind a rule that changed d alone: all else but the frame is kept -/
theorem kept_of_news {g h h' : Heap} {L d : Addr} {m : Str → Option Value} (k : ∀ b o, g.get? b = some o → h.get? b = some o) (F : Fr g L h' m) (N : News g L h' (rest g h L d)) :
    ∀ b o, b ≠ L → b ≠ d → h.get? b = some o → h'.get? b = some o := fun b o h1 h2 e => by
  cases q : g.get? b with
  | some u =>
    have := k b u q
    rw [e] at this; cases this
    exact F.keep b _ q
  | none => exact (N (b, o) (mem_rest h1 q e h2)).1
end L2

namespace L2
open PySem PySem.Spec PyProof.Rows

/-- the module's facts, over the base: the heap at the law's entry without what is tracked there -/
structure Mod (K : PySem.W.Frag) (mg : Str → Option Value) (base : Heap) : Prop where
  kin : K.In base
  glob : base.Ns mainGlobals mg
  blt : ∃ mb, base.Ns builtinsNs mb ∧ ∀ x : Str, x ≠ "__name__" → mb x = bootBuiltins x
  nolimit : base.NoLimit

/-- the context: a def's body (or a comprehension's block) running. base: fixed through the whole law; s₀, H₀: the entry; outer: the frames whose slots others may change (a def's callers); stack: all frames that run;
   ex: iterators that were made ahead of the entry and are walked here (a comprehension's); fn: the names whose cells were made at the entry (a def: all; a comprehension's block: its own); calm: not within an except suite; pn: pins that every state bears; xe: what is wanted of an exception that leaves the code -/
structure Cx where
  prog : Program
  w : World
  K : PySem.W.Frag
  mg : Str → Option Value
  base : Heap
  A : Around
  N : List Str
  s_0 : Shared
  H_0 : Hp
  env : Env
  outer : List Env
  stack : List Env
  ex : List Addr
  fn : Str → Bool
  calm : Bool
  pn : List (Addr × Obj)
  xe : Value → Shared → Prop
/-- the callers' frames -/
def frs (l : List Env) : List Addr := l.filterMap (·.frame)
abbrev Cx.fs (X : Cx) : List Addr := frs X.outer

def Vis (sc : Scope) (x : Str) : Prop := sc.names.lookup x = some .local ∨ sc.names.lookup x = some .cell ∨ sc.names.lookup x = some .free
def Loc (sc : Scope) (x : Str) : Prop := sc.names.lookup x = some .local ∨ sc.names.lookup x = some .cell
def Look (env : Env) (h : Heap) (m : Str → Option Value) (x : Str) (u : Value) : Prop :=
  (env.kindOf x = some .local ∧ m x = some u) ∨ ((env.kindOf x = some .cell ∨ env.kindOf x = some .free) ∧ ∃ c, env.cells.lookup x = some c ∧ h.IsCell c (some u))

structure Cx.Ok (X : Cx) : Prop where
  mod : Mod X.K X.mg X.base
  kind : X.env.scope.kind = .function
  glob : X.env.globals = mainGlobals
  blt : X.env.builtins = builtinsNs
  above : X.s_0.heap.objs.size ≤ X.env.locals
  inj : ∀ x y c, X.env.cells.lookup x = some c → X.env.cells.lookup y = some c → x = y
  has : ∀ x, (X.env.kindOf x = some .cell ∨ X.env.kindOf x = some .free) → ∃ c, X.env.cells.lookup x = some c
  cab : ∀ x c, X.fn x = true → X.env.cells.lookup x = some c → X.s_0.heap.objs.size ≤ c
  hd : X.calm = true → X.A.handled = none
  frames : X.A.frames = some X.stack
  stk : X.stack = X.outer ∨ (X.stack = X.env :: X.outer ∧ X.env.frame = some X.env.locals)
  exf : ∀ b ∈ X.ex, b ≠ X.env.locals ∧ ∀ x c, X.env.cells.lookup x = some c → c ≠ b
  bs : ∀ b o, X.base.get? b = some o → X.s_0.heap.get? b = some o ∧ X.H_0 b = none
  bsz : X.base.objs.size ≤ X.s_0.heap.objs.size
  noex : ∀ b o, X.base.get? b = some o → b ∉ X.ex
  exfs : ∀ b ∈ X.ex, b ∉ X.fs
  funs : X.s_0.heap.FunFrames X.base X.outer
  frf : ∀ b ∈ X.fs, X.H_0 b = none

structure Inv (X : Cx) (pins : List (Addr × Obj)) (σ : List (Option V)) (H : Hp) (s : Shared) : Prop where
  ok : X.Ok
  os : s.os = X.s_0.os
  bare : AllBare s.gens
  base : Un X.fs X.ex X.H_0 H X.s_0.heap s.heap
  loc : ∃ m, s.heap.Ns X.env.locals m ∧ ∀ (i : Nat) (x : Str) (v : V), X.N[i]? = some x → σ[i]? = some (some v) → Vis X.env.scope x → ∃ u, RelV v u ∧ Look X.env s.heap m x u
  cell : ∀ x c, X.env.cells.lookup x = some c → ∃ v, s.heap.IsCell c v
  free : H X.env.locals = none
  freeC : ∀ x c, X.env.cells.lookup x = some c → H c = none
  pin : ∀ p ∈ X.pn ++ pins, s.heap.get? p.1 = some p.2 ∧ H p.1 = none ∧ p.1 ≠ X.env.locals ∧ p.1 ∉ X.fs ∧ ∀ v, p.2.data ≠ .cell v
  hok : HOk X.prog X.w H s.heap
  len : σ.length = X.N.length

section
variable {X : Cx} {pins : List (Addr × Obj)} {σ : List (Option V)} {H H' : Hp} {s : Shared} {h' : Heap}

theorem Cx.Ok.nofr (ok : X.Ok) {b : Addr} {o : Obj} (e : X.base.get? b = some o) : b ∉ X.fs := fun hb => by
  have := (ok.funs.mem hb).1
  rw [e] at this; cases this
theorem Inv.bs (I : Inv X pins σ H s) : ∀ b o, X.base.get? b = some o → s.heap.get? b = some o ∧ H b = none := fun b o e =>
  ⟨I.base.keep b o (I.ok.bs b o e).1 (I.ok.bs b o e).2 (I.ok.nofr e) (I.ok.noex b o e), I.base.free b o (I.ok.bs b o e).1 (I.ok.bs b o e).2 (I.ok.noex b o e)⟩
theorem Inv.bk (I : Inv X pins σ H s) : ∀ b o, X.base.get? b = some o → s.heap.get? b = some o := fun b o e => (I.bs b o e).1
theorem Inv.mod (I : Inv X pins σ H s) : Mod X.K X.mg X.base := I.ok.mod
theorem Inv.kIn (I : Inv X pins σ H s) : X.K.In s.heap := I.ok.mod.kin.keeps I.bk
theorem Inv.nolimit (I : Inv X pins σ H s) : s.heap.NoLimit := I.ok.mod.nolimit.keeps I.bk
/-- the frame over the base: for OpenK's rules (K.In X.base is I.mod.kin) -/
theorem Inv.fr (I : Inv X pins σ H s) : ∃ m, Fr X.base X.env.locals s.heap m :=
  let ⟨m, hn, _⟩ := I.loc
  ⟨m, hn, I.bk, Nat.le_trans I.ok.bsz I.ok.above⟩
theorem Inv.lt (I : Inv X pins σ H s) : X.env.locals < s.heap.objs.size := let ⟨_, hn, _⟩ := I.loc; hn.lt
theorem Inv.sz (I : Inv X pins σ H s) : X.s_0.heap.objs.size ≤ s.heap.objs.size := Nat.le_trans I.ok.above (Nat.le_of_lt I.lt)
theorem Inv.nofs (I : Inv X pins σ H s) {a : Addr} (h : s.heap.objs.size ≤ a) : a ∉ X.fs := fun hb => by
  obtain ⟨_, o, ho, _⟩ := I.ok.funs.mem hb
  exact absurd (Nat.lt_of_lt_of_le (Heap.lt_size ho) (Nat.le_trans I.sz h)) (Nat.lt_irrefl _)
theorem Inv.cne (I : Inv X pins σ H s) : ∀ x c, X.env.cells.lookup x = some c → c ≠ X.env.locals := fun x c e z => by
  obtain ⟨v, o, ho, hd⟩ := I.cell x c e
  obtain ⟨m, ⟨o', es, ep, ho', hd', _⟩, _⟩ := I.loc
  rw [z, ho'] at ho; cases ho; rw [hd'] at hd; cases hd
theorem Inv.funs (I : Inv X pins σ H s) : s.heap.FunFrames X.base X.outer := by
  have all : ∀ (l : List Env), (∀ b ∈ frs l, b ∈ X.fs) → X.s_0.heap.FunFrames X.base l → s.heap.FunFrames X.base l := by
    intro l
    induction l with
    | nil => intro _ _; trivial
    | cons env r ih =>
      intro hs hl
      obtain ⟨hk, ⟨L, o, hf, hn, ho, hd⟩, hr⟩ := hl
      have hL : L ∈ X.fs := hs L (by unfold frs; rw [List.filterMap_cons, hf]; exact List.mem_cons_self)
      obtain ⟨sl, e⟩ := I.base.slot L o ho (I.ok.frf L hL) hL fun z => I.ok.exfs L z hL
      exact ⟨hk, ⟨L, _, hf, hn, e, hd⟩, ih (fun b hb => hs b (by unfold frs; rw [List.filterMap_cons, hf]; exact List.mem_cons_of_mem _ hb)) hr⟩
  exact all X.outer (fun _ hb => hb) I.ok.funs

/-- the frames that run, for a call -/
theorem Inv.stack (I : Inv X pins σ H s) : s.heap.FunFrames X.base X.stack := by
  rcases I.ok.stk with e | ⟨e, hf⟩
  · rw [e]; exact I.funs
  · rw [e]
    obtain ⟨m, hn, _⟩ := I.loc
    refine .cons (by rw [I.ok.kind]; decide) hf hn ?_ I.funs
    exact Heap.get?_none_of_le (Nat.le_trans I.ok.bsz I.ok.above)
theorem Inv.stkSub (I : Inv X pins σ H s) : ∀ b ∈ frs X.stack, b ∈ X.env.locals :: X.fs := fun b hb => by
  rcases I.ok.stk with e | ⟨e, hf⟩
  · rw [e] at hb; exact List.mem_cons_of_mem _ hb
  · rw [e] at hb
    unfold frs at hb
    rw [List.filterMap_cons, hf] at hb
    exact hb
theorem Inv.stkFree (I : Inv X pins σ H s) : ∀ b ∈ frs X.stack, H b = none := fun b hb => by
  rcases List.mem_cons.mp (I.stkSub b hb) with e | hb
  · rw [e]; exact I.free
  · obtain ⟨_, o, ho, _⟩ := I.ok.funs.mem hb
    exact I.base.free b o ho (I.ok.frf b hb) fun z => I.ok.exfs b z hb

/-- THE STEP: the untracked objects but the frame and the records at ch are kept (the callers' frames up to slots), the frame's map is kept, the new abstract heap is held -/
theorem Inv.step {g' : Array GenState} {t' : Nat} {d' : Drawn} {ch : List Addr} (I : Inv X pins σ H s)
    (hch : ∀ b ∈ ch, (b ∈ X.ex ∨ X.s_0.heap.objs.size ≤ b) ∧ b ≠ X.env.locals ∧ (∀ x c, X.env.cells.lookup x = some c → c ≠ b) ∧ ∀ p ∈ X.pn ++ pins, p.1 ≠ b)
    (keep : ∀ b o, b ≠ X.env.locals → b ∉ X.fs → b ∉ ch → s.heap.get? b = some o → H b = none → h'.get? b = some o)
    (slot : ∀ b o, b ≠ X.env.locals → b ∈ X.fs → b ∉ ch → s.heap.get? b = some o → H b = none → ∃ sl, h'.get? b = some { o with slots := sl }) (free : ∀ b o, b ∉ ch → s.heap.get? b = some o → H b = none → H' b = none)
    (there : ∀ b o, b ∉ ch → s.heap.get? b = some o → ∃ o', h'.get? b = some o')
    (tups : ∀ b xs, H b = some (.tup xs) → H' b = some (.tup xs)) (frzs : ∀ b o u, H b = some (.frz o u) → H' b = some (.frz o u)) (tbls : ∀ b ps, H b = some (.tbl ps) → ∃ more, H' b = some (.tbl (ps ++ more)))
    (ns : ∀ m, s.heap.Ns X.env.locals m → h'.Ns X.env.locals m) (hok : HOk X.prog X.w H' h') (hg : AllBare g') :
    Inv X pins σ H' { s with heap := h', gens := g', drawn := d', toks := t' } := by
  have neL : ∀ b o, X.s_0.heap.get? b = some o → b ≠ X.env.locals := fun b o e => Nat.ne_of_lt (Nat.lt_of_lt_of_le (Heap.lt_size e) I.ok.above)
  have neC : ∀ b o, X.s_0.heap.get? b = some o → b ∉ X.ex → b ∉ ch := fun b o e hx hb => by
    rcases (hch b hb).1 with z | z
    · exact hx z
    · exact absurd (Nat.lt_of_lt_of_le (Heap.lt_size e) z) (Nat.lt_irrefl _)
  have cellK : ∀ x c, X.env.cells.lookup x = some c → ∀ v, s.heap.IsCell c v → h'.IsCell c v := fun x c e v ⟨o, ho, hd⟩ => by
    have nch : c ∉ ch := fun z => (hch c z).2.2.1 x c e rfl
    by_cases hc : c ∈ X.fs
    · obtain ⟨sl, q⟩ := slot c o (I.cne x c e) hc nch ho (I.freeC x c e)
      exact ⟨_, q, hd⟩
    · exact ⟨o, keep c o (I.cne x c e) hc nch ho (I.freeC x c e), hd⟩
  refine ⟨I.ok, I.os, hg, ⟨fun b o e n hb hx => ?_, fun b o e n hb hx => ?_, fun b o e n hx => ?_, fun b o e hx => ?_, fun b xs e => tups b xs (I.base.tups b xs e), fun b o xs e => frzs b o xs (I.base.frzs b o xs e), fun b ps e => ?_⟩, ?_, fun x c e => ?_, ?_, fun x c e => ?_, fun p hp => ?_, hok, I.len⟩
  · exact keep b o (neL b o e) hb (neC b o e hx) (I.base.keep b o e n hb hx) (I.base.free b o e n hx)
  · obtain ⟨sl, e1⟩ := I.base.slot b o e n hb hx
    obtain ⟨sl', e2⟩ := slot b _ (neL b o e) hb (neC b o e hx) e1 (I.base.free b o e n hx)
    exact ⟨sl', e2⟩
  · obtain ⟨o', e1⟩ := I.base.there b o e hx
    exact free b o' (neC b o e hx) e1 (I.base.free b o e n hx)
  · obtain ⟨o', e1⟩ := I.base.there b o e hx
    exact there b o' (neC b o e hx) e1
  · obtain ⟨m1, e1⟩ := I.base.tbls b ps e
    obtain ⟨m2, e2⟩ := tbls b _ e1
    exact ⟨m1 ++ m2, by rw [e2, Array.append_assoc]⟩
  · obtain ⟨m, hn, hl⟩ := I.loc
    refine ⟨m, ns m hn, fun i x v e1 e2 e3 => ?_⟩
    obtain ⟨u, r, l⟩ := hl i x v e1 e2 e3
    refine ⟨u, r, ?_⟩
    rcases l with l | ⟨k, c, e, z⟩
    · exact .inl l
    · exact .inr ⟨k, c, e, cellK x c e _ z⟩
  · obtain ⟨v, z⟩ := I.cell x c e
    exact ⟨v, cellK x c e v z⟩
  · obtain ⟨m, ⟨o, _, _, ho, _⟩, _⟩ := I.loc
    exact free _ o (fun z => (hch _ z).2.1 rfl) ho I.free
  · obtain ⟨v, o, ho, hd⟩ := I.cell x c e
    exact free c o (fun z => (hch c z).2.2.1 x c e rfl) ho (I.freeC x c e)
  · obtain ⟨e, n, ne, nf, d⟩ := I.pin p hp
    have nch : p.1 ∉ ch := fun z => (hch p.1 z).2.2.2 p hp rfl
    exact ⟨keep p.1 p.2 ne nf nch e n, free p.1 p.2 nch e n, ne, nf, d⟩
/-- .. where the frame's own object is kept too -/
theorem Inv.un {t' : Nat} (I : Inv X pins σ H s) (u : Un X.fs [] H H' s.heap h') (hok : HOk X.prog X.w H' h') : Inv X pins σ H' { s with heap := h', toks := t' } := by
  obtain ⟨m, ⟨o, es, ep, ho, r⟩, _⟩ := id I.loc
  obtain ⟨sl, hL⟩ := u.any ho I.free (by simp)
  exact I.step (g' := s.gens) (d' := s.drawn) (ch := []) (fun _ z => nomatch z) (fun b o _ hb _ e n => u.keep b o e n hb (by simp)) (fun b o _ hb _ e n => u.slot b o e n hb (by simp)) (fun b o _ e n => u.free b o e n (by simp)) (fun b o _ e => u.there b o e (by simp)) u.tups u.frzs u.tbls (fun m' hm => by
    obtain ⟨o', es', ep', ho', r'⟩ := hm
    rw [ho] at ho'; cases ho'
    exact ⟨_, es', ep', hL, r'⟩) hok I.bare
/-- behind a call (or a comprehension's block): the slots of this frame may have changed too, the records at ch may have turned -/
theorem Inv.call {g' : Array GenState} {t' : Nat} {d' : Drawn} {ch : List Addr} (I : Inv X pins σ H s) (u : Un (frs X.stack) ch H H' s.heap h') (hok : HOk X.prog X.w H' h') (hg : AllBare g')
    (hch : ∀ b ∈ ch, (b ∈ X.ex ∨ X.s_0.heap.objs.size ≤ b) ∧ b ≠ X.env.locals ∧ (∀ x c, X.env.cells.lookup x = some c → c ≠ b) ∧ ∀ p ∈ X.pn ++ pins, p.1 ≠ b) :
    Inv X pins σ H' { s with heap := h', gens := g', drawn := d', toks := t' } := by
  obtain ⟨m, ⟨o, es, ep, ho, r⟩, _⟩ := id I.loc
  obtain ⟨sl, hL⟩ := u.any ho I.free fun z => (hch _ z).2.1 rfl
  exact I.step (ch := ch) hch (fun b o hL hb hc e n => u.keep b o e n (fun z => (List.mem_cons.mp (I.stkSub b z)).elim hL hb) hc) (fun b o _ _ hc e n => u.any e n hc) (fun b o hc e n => u.free b o e n hc) (fun b o hc e => u.there b o e hc) u.tups u.frzs u.tbls (fun m' hm => by
    obtain ⟨o', es', ep', ho', r'⟩ := hm
    rw [ho] at ho'; cases ho'
    exact ⟨_, es', ep', hL, r'⟩) hok hg
/-- an untracked record of ours (an iterator) has turned -/
theorem Inv.turned {t' : Nat} {it : Addr} (I : Inv X pins σ H s) (k : ∀ b o, b ≠ it → s.heap.get? b = some o → h'.get? b = some o) (hn : H it = none) (hL : it ≠ X.env.locals)
    (h1 : it ∈ X.ex ∨ X.s_0.heap.objs.size ≤ it) (h2 : ∀ x c, X.env.cells.lookup x = some c → c ≠ it) (h3 : ∀ p ∈ X.pn ++ pins, p.1 ≠ it) : Inv X pins σ H { s with heap := h', toks := t' } := by
  have nit : ∀ b u, H b = some u → b ≠ it := fun b u e z => by rw [z, hn] at e; cases e
  refine I.step (g' := s.gens) (d' := s.drawn) (ch := [it]) (fun b hb => ?_) (fun b o _ _ hc e _ => k b o (fun z => hc (by simp [z])) e) (fun b o _ _ hc e _ => ⟨o.slots, k b o (fun z => hc (by simp [z])) e⟩) (fun _ _ _ _ n => n)
    (fun b o hc e => ⟨o, k b o (fun z => hc (by simp [z])) e⟩) (fun _ _ e => e) (fun _ _ _ e => e) (fun b ps e => ⟨#[], by rw [e]; simp⟩) (fun m hm => ?_) (fun b u e => ?_) I.bare
  · have e : b = it := by simpa using hb
    subst e
    exact ⟨h1, hL, h2, h3⟩
  · obtain ⟨o, es, ep, ho, r⟩ := hm
    exact ⟨o, es, ep, k _ o (Ne.symm hL) ho, r⟩
  · refine (I.hok b u e).stay (fun c v hc q => k c v ?_ q) (fun _ q => q) fun _ _ q => q
    rcases hc with z | z
    · rw [z]; exact nit b u e
    · exact nit c _ z
theorem Inv.tok (I : Inv X pins σ H s) (t : Nat) : Inv X pins σ H { s with toks := t } := I.un (h' := s.heap) (t' := t) Un.refl I.hok
/-- all objects kept -/
theorem Inv.kept {t' : Nat} (I : Inv X pins σ H s) (k : ∀ b u, s.heap.get? b = some u → h'.get? b = some u) : Inv X pins σ H { s with heap := h', toks := t' } := I.un (Un.kept k) (I.hok.kept k)
/-- a new object laid and tracked -/
theorem Inv.laid {a : Addr} {o : HO} {t' : Nat} (I : Inv X pins σ H s) (k : ∀ b u, s.heap.get? b = some u → h'.get? b = some u) (hp : s.heap.objs.size ≤ a) (new : ObjOk X.prog X.w (upd H a o) h' a o) :
    Inv X pins σ (upd H a o) { s with heap := h', toks := t' } := I.un (Un.laid k hp (I.hok.fresh hp)) (I.hok.laid k hp new)
/-- an object written -/
theorem Inv.write {x e : Addr} {o : HO} {t' : Nat} (I : Inv X pins σ H s) (mu : Mut (H x)) (he : e = x ∨ H e = some (.own x)) (k : ∀ b u, b ≠ e → s.heap.get? b = some u → h'.get? b = some u) (heo : ∃ u, h'.get? e = some u)
    (new : ObjOk X.prog X.w (upd H x o) h' x o) : Inv X pins σ (upd H x o) { s with heap := h', toks := t' } := I.un (Un.write mu he k heo) (I.hok.write mu he k heo new)
/-- forgetting slots, pins -/
theorem Inv.weak {σ' : List (Option V)} (I : Inv X pins σ H s) (hl : σ'.length = σ.length) (w : ∀ (i : Nat) v, σ'[i]? = some (some v) → σ[i]? = some (some v)) : Inv X pins σ' H s :=
  ⟨I.ok, I.os, I.bare, I.base, let ⟨m, hn, hl'⟩ := I.loc; ⟨m, hn, fun i x v e1 e2 e3 => hl' i x v e1 (w i v e2) e3⟩, I.cell, I.free, I.freeC, I.pin, I.hok, hl.trans I.len⟩
theorem Inv.pins_of {pins' : List (Addr × Obj)} (I : Inv X pins σ H s) (h : ∀ p ∈ pins', s.heap.get? p.1 = some p.2 ∧ H p.1 = none ∧ p.1 ≠ X.env.locals ∧ p.1 ∉ X.fs ∧ ∀ v, p.2.data ≠ .cell v) : Inv X pins' σ H s :=
  ⟨I.ok, I.os, I.bare, I.base, I.loc, I.cell, I.free, I.freeC, fun p hp => (List.mem_append.mp hp).elim (fun z => I.pin p (List.mem_append_left _ z)) (h p), I.hok, I.len⟩

theorem nodup_ix {N : List Str} (hN : N.Nodup) {i j : Nat} {x : Str} (a : N[i]? = some x) (b : N[j]? = some x) : i = j := by
  obtain ⟨h1, e1⟩ := List.getElem?_eq_some_iff.mp a
  obtain ⟨h2, e2⟩ := List.getElem?_eq_some_iff.mp b
  exact (List.getElem_inj hN).mp (e1.trans e2.symm)

/-- a name is stored; what changed -/
theorem store_ok2 {M : Model} {A : Around} {E : Value → Shared → Prop} {i : Nat} {x : Str} {v : V} {u : Value} {Q : Unit → Shared → Prop} (I : Inv X pins σ H s) (hN : X.N.Nodup) (hi : X.N[i]? = some x) (hx : Loc X.env.scope x) (r : RelV v u)
    (h : ∀ s', Inv X pins (σ.set i (some v)) H s' → (∃ a, Heap.SameBut a s.heap s'.heap ∧ (a = X.env.locals ∨ X.env.cells.lookup x = some a)) → Q () s') (hf : X.fn x = true ∨ X.env.scope.names.lookup x = some .local := by first | exact .inl rfl | exact .inr rfl | assumption) : wpAny M A (storeName X.env x u) Q E s := by
  obtain ⟨m, hn, hl⟩ := id I.loc
  have hcls : (X.env.scope.kind == .class || (X.env.scope.kind == .module && X.env.locals != X.env.globals)) = false := by rw [I.ok.kind]; rfl
  have hiσ : i < σ.length := by rw [I.len]; exact (List.getElem?_eq_some_iff.mp hi).1
  have cne := I.cne
  have tracked : ∀ {a : Addr} {h' : Heap}, (∃ o, s.heap.get? a = some o ∧ H a = none) → Heap.SameBut a s.heap h' → HOk X.prog X.w H h' := fun {a h'} ha hs b ob e => by
    obtain ⟨_, _, hfree⟩ := ha
    refine (I.hok b ob e).stay (fun c w' hc q => (hs.2 c ?_).trans q) (fun _ q => q) fun _ _ q => q
    rintro rfl
    rcases hc with rfl | hc
    · rw [hfree] at e; cases e
    · rw [hfree] at hc; cases hc
  rcases hx with hk | hk
  · refine wpAny_storeName_local hk hn (fun h' hn' hs => ?_) hcls
    obtain ⟨oL, _, _, hoL, _⟩ := id hn
    refine h _ ⟨I.ok, I.os, I.bare, ⟨fun b o e n hb hx => ?_, fun b o e n hb hx => ?_, I.base.free, fun b o e hx => ?_, I.base.tups, I.base.frzs, I.base.tbls⟩, ⟨_, hn', fun j y v' e1 e2 e3 => ?_⟩, fun y c e => ?_, I.free, I.freeC, fun p hp => ?_, tracked ⟨oL, hoL, I.free⟩ hs, by simpa using I.len⟩ ⟨_, hs, .inl rfl⟩
    · exact (hs.2 b (Nat.ne_of_lt (Nat.lt_of_lt_of_le (Heap.lt_size e) I.ok.above))).trans (I.base.keep b o e n hb hx)
    · obtain ⟨sl, e1⟩ := I.base.slot b o e n hb hx
      exact ⟨sl, (hs.2 b (Nat.ne_of_lt (Nat.lt_of_lt_of_le (Heap.lt_size e) I.ok.above))).trans e1⟩
    · obtain ⟨o', e1⟩ := I.base.there b o e hx
      exact ⟨o', (hs.2 b (Nat.ne_of_lt (Nat.lt_of_lt_of_le (Heap.lt_size e) I.ok.above))).trans e1⟩
    · by_cases hj : j = i
      · subst hj
        rw [hi] at e1; cases e1
        rw [List.getElem?_set_self hiσ] at e2
        cases e2
        exact ⟨u, r, .inl ⟨hk, by simp⟩⟩
      · rw [List.getElem?_set_ne (Ne.symm hj)] at e2
        obtain ⟨u', r', q⟩ := hl j y v' e1 e2 e3
        refine ⟨u', r', ?_⟩
        rcases q with ⟨k, e⟩ | ⟨k, c, e, z⟩
        · refine .inl ⟨k, ?_⟩
          have : y ≠ x := fun e => hj (nodup_ix hN e1 (e ▸ hi))
          simp [this, e]
        · exact .inr ⟨k, c, e, z.sameBut hs (cne y c e)⟩
    · obtain ⟨w', z⟩ := I.cell y c e
      exact ⟨w', z.sameBut hs (cne y c e)⟩
    · obtain ⟨e, n, ne, nf, d⟩ := I.pin p hp
      exact ⟨(hs.2 p.1 ne).trans e, n, ne, nf, d⟩
  · have hfn : X.fn x = true := by
      rcases hf with z | z
      · exact z
      · rw [z] at hk; cases hk
    obtain ⟨c, hc⟩ := I.ok.has x (.inl hk)
    obtain ⟨w', z⟩ := I.cell x c hc
    refine wpAny_storeName_cell I.ok.kind hk hc z (fun h' hc' hs => ?_)
    obtain ⟨oc, hoc, hocd⟩ := id z
    refine h { s with heap := h' } ⟨I.ok, I.os, I.bare, ⟨fun b o e n hb hx => ?_, fun b o e n hb hx => ?_, I.base.free, fun b o e hx => ?_, I.base.tups, I.base.frzs, I.base.tbls⟩, ⟨m, hn.sameBut hs (Ne.symm (cne x c hc)), fun j y v' e1 e2 e3 => ?_⟩, fun y c' e => ?_, I.free, I.freeC, fun p hp => ?_, tracked ⟨oc, hoc, I.freeC x c hc⟩ hs, by simpa using I.len⟩ ⟨c, hs, .inr hc⟩
    · exact (hs.2 b (Nat.ne_of_lt (Nat.lt_of_lt_of_le (Heap.lt_size e) (I.ok.cab x c hfn hc)))).trans (I.base.keep b o e n hb hx)
    · obtain ⟨sl, e1⟩ := I.base.slot b o e n hb hx
      exact ⟨sl, (hs.2 b (Nat.ne_of_lt (Nat.lt_of_lt_of_le (Heap.lt_size e) (I.ok.cab x c hfn hc)))).trans e1⟩
    · obtain ⟨o', e1⟩ := I.base.there b o e hx
      exact ⟨o', (hs.2 b (Nat.ne_of_lt (Nat.lt_of_lt_of_le (Heap.lt_size e) (I.ok.cab x c hfn hc)))).trans e1⟩
    · by_cases hj : j = i
      · subst hj
        rw [hi] at e1; cases e1
        rw [List.getElem?_set_self hiσ] at e2
        cases e2
        exact ⟨u, r, .inr ⟨.inl hk, c, hc, hc'⟩⟩
      · rw [List.getElem?_set_ne (Ne.symm hj)] at e2
        obtain ⟨u', r', q⟩ := hl j y v' e1 e2 e3
        refine ⟨u', r', ?_⟩
        rcases q with q | ⟨k, c', e, z'⟩
        · exact .inl q
        · refine .inr ⟨k, c', e, z'.sameBut hs ?_⟩
          rintro rfl
          exact hj (nodup_ix hN e1 (I.ok.inj _ _ _ e hc ▸ hi))
    · by_cases hcc : c' = c
      · subst hcc; exact ⟨_, hc'⟩
      · obtain ⟨w2, z2⟩ := I.cell y c' e
        exact ⟨w2, z2.sameBut hs hcc⟩
    · obtain ⟨e, n, ne, nf, d⟩ := I.pin p hp
      refine ⟨(hs.2 p.1 ?_).trans e, n, ne, nf, d⟩
      intro q
      rw [q, hoc] at e
      have q' : oc = p.2 := Option.some.inj e
      exact d w' (by rw [← q']; exact hocd)
theorem store_ok {M : Model} {A : Around} {E : Value → Shared → Prop} {i : Nat} {x : Str} {v : V} {u : Value} {Q : Unit → Shared → Prop} (I : Inv X pins σ H s) (hN : X.N.Nodup) (hi : X.N[i]? = some x) (hx : Loc X.env.scope x) (r : RelV v u)
    (h : ∀ s', Inv X pins (σ.set i (some v)) H s' → Q () s') (hf : X.fn x = true ∨ X.env.scope.names.lookup x = some .local := by first | exact .inl rfl | exact .inr rfl | assumption) : wpAny M A (storeName X.env x u) Q E s :=
  store_ok2 I hN hi hx r (fun s' I' _ => h s' I') hf
/-- behind a call or a block, the state as it is -/
theorem Inv.call' {s' : Shared} {ch : List Addr} (I : Inv X pins σ H s) (ho : s'.os = s.os) (u : Un (frs X.stack) ch H H' s.heap s'.heap) (hok : HOk X.prog X.w H' s'.heap) (hg : AllBare s'.gens)
    (hch : ∀ b ∈ ch, (b ∈ X.ex ∨ X.s_0.heap.objs.size ≤ b) ∧ b ≠ X.env.locals ∧ (∀ x c, X.env.cells.lookup x = some c → c ≠ b) ∧ ∀ p ∈ X.pn ++ pins, p.1 ≠ b) : Inv X pins σ H' s' := by
  obtain ⟨h', g', d', t', o'⟩ := s'
  have e : o' = s.os := ho
  subst e
  exact I.call (g' := g') (t' := t') (d' := d') u hok hg hch
end

/-! ### the judgements -/
/-- an exception: its class, its own dict's address (where it has one), the abstract heap behind it -/
abbrev XK := Value → Option Addr → Hp → Prop
abbrev St := List (Option V)
abbrev VK := V → Hp → Prop
/-- an expression's reading; a test's; an argument list's -/
abbrev TE := St → Hp → VK → Prop
abbrev TT := St → Hp → (Bool → Hp → Prop) → Prop
abbrev TA := St → Hp → (List V → Hp → Prop) → Prop
/-- what is wanted behind a statement -/
structure Ends where
  nx : St → Hp → Prop
  rt : VK
  bk : St → Hp → Prop := fun _ _ => False
  ct : St → Hp → Prop := fun _ _ => False
abbrev TS := Ends → St → Hp → Prop

def EP (X : Cx) (pins : List (Addr × Obj)) (σ : St) (Q : VK) (u : Value) (s' : Shared) : Prop := ∃ v H', Inv X pins σ H' s' ∧ RelV v u ∧ Q v H'
def TP (X : Cx) (pins : List (Addr × Obj)) (σ : St) (Q : Bool → Hp → Prop) (b : Bool) (s' : Shared) : Prop := ∃ H', Inv X pins σ H' s' ∧ Q b H'
def AP (X : Cx) (pins : List (Addr × Obj)) (σ : St) (Q : List V → Hp → Prop) (us : List Value) (s' : Shared) : Prop := ∃ vs H', Inv X pins σ H' s' ∧ Vals vs us ∧ Q vs H'
def SP (X : Cx) (pins : List (Addr × Obj)) (D : Ends) (f : Flow) (s' : Shared) : Prop :=
  match f with
  | .next => ∃ σ' H', Inv X pins σ' H' s' ∧ D.nx σ' H'
  | .brk => ∃ σ' H', Inv X pins σ' H' s' ∧ D.bk σ' H'
  | .cont => ∃ σ' H', Inv X pins σ' H' s' ∧ D.ct σ' H'
  | .ret u => ∃ v σ' H', Inv X pins σ' H' s' ∧ RelV v u ∧ D.rt v H'

def PE (X : Cx) (e : Expr) (t : TE) : Prop :=
  ∀ (pins : List (Addr × Obj)) (s : Shared) (σ : St) (H : Hp) (Q : VK), Inv X pins σ H s → t σ H Q → wpAny (model X.prog X.w) X.A (eval e X.env) (EP X pins σ Q) X.xe s
def PT (X : Cx) (e : Expr) (t : TT) : Prop :=
  ∀ (pins : List (Addr × Obj)) (s : Shared) (σ : St) (H : Hp) (Q : Bool → Hp → Prop), Inv X pins σ H s → t σ H Q → wpAny (model X.prog X.w) X.A (isTrue e X.env (eval e X.env)) (TP X pins σ Q) X.xe s
/-- a test whatever its 'whole' is (and, or) -/
def PW (X : Cx) (e : Expr) (t : TT) : Prop :=
  ∀ (whole : Sem Value) (pins : List (Addr × Obj)) (s : Shared) (σ : St) (H : Hp) (Q : Bool → Hp → Prop), Inv X pins σ H s → t σ H Q → wpAny (model X.prog X.w) X.A (isTrue e X.env whole) (TP X pins σ Q) X.xe s
theorem PW.pt {X : Cx} {e : Expr} {t : TT} (h : PW X e t) : PT X e t := h _
/-- an argument list (no star), from the left -/
def PA (X : Cx) (es : List Expr) (t : TA) : Prop :=
  ∀ (pos : Pos) (pins : List (Addr × Obj)) (s : Shared) (σ : St) (H : Hp) (Q : List V → Hp → Prop), Inv X pins σ H s → t σ H Q → wpAny (model X.prog X.w) X.A (spliced (backTo pos (starEach es X.env))) (AP X pins σ Q) X.xe s
def PS (X : Cx) (st : Stmt) (t : TS) : Prop :=
  ∀ (pins : List (Addr × Obj)) (s : Shared) (σ : St) (H : Hp) (D : Ends), Inv X pins σ H s → t D σ H → wpAny (model X.prog X.w) X.A (exec st X.env) (SP X pins D) X.xe s
def PSs (X : Cx) (st : List Stmt) (t : TS) : Prop :=
  ∀ (pins : List (Addr × Obj)) (s : Shared) (σ : St) (H : Hp) (D : Ends), Inv X pins σ H s → t D σ H → wpAny (model X.prog X.w) X.A (execs st X.env) (SP X pins D) X.xe s
/-- weaken the end -/
theorem thn {α : Type} {t : Sem α} {Q Q' : α → Shared → Prop} {M : Model} {A : Around} {E : Value → Shared → Prop} {s : Shared} (h : wpAny M A t Q E s) (hQ : ∀ a s, Q a s → Q' a s) : wpAny M A t Q' E s := wpAny_mono h hQ fun _ _ x => x
end L2

namespace L2
open PySem PySem.Spec PyProof.Rows
section
variable {X : Cx}

/-- two expressions in a row -/
theorem bin {a b : Expr} {ta tb : TE} (ha : PE X a ta) (hb : PE X b tb) {pins : List (Addr × Obj)} {s : Shared} {σ : St} {H : Hp} {R : V → V → Hp → Prop} (I : Inv X pins σ H s) (h : ta σ H fun x H1 => tb σ H1 fun y H2 => R x y H2)
    {α : Type} {Q : α → Shared → Prop} {f : Value → Value → Sem α}
    (hf : ∀ v u s2 x y H2, Inv X pins σ H2 s2 → RelV x v → RelV y u → R x y H2 → wpAny (model X.prog X.w) X.A (f v u) Q X.xe s2) :
    wpAny (model X.prog X.w) X.A (eval a X.env) (fun v s₁ => wpAny (model X.prog X.w) X.A (eval b X.env) (fun u s₂ => wpAny (model X.prog X.w) X.A (f v u) Q X.xe s₂) X.xe s₁) X.xe s := by
  refine thn (ha pins s σ H _ I h) fun v s1 ⟨x, H1, I1, r1, q1⟩ => ?_
  refine thn (hb pins s1 σ H1 _ I1 q1) fun u s2 ⟨y, H2, I2, r2, q2⟩ => ?_
  exact hf v u s2 x y H2 I2 r1 r2 q2

/-! ### names and constants -/
def tVar (i : Nat) : TE := fun σ H Q => ∃ v, σ[i]? = some (some v) ∧ Q v H
def tC (v : V) : TE := fun _ H Q => Q v H
theorem pe_var {i : Nat} {x : Str} {pos : Pos} (hN : X.N[i]? = some x) (hv : Vis X.env.scope x) (hd : (x == ("__debug__" : Str)) = false := by decide) (hcd : (x == ("__classdict__" : Str)) = false := by decide) : PE X (.Name x pos) (tVar i) := by
  intro pins s σ H Q I h
  obtain ⟨v, e, h⟩ := h
  obtain ⟨m, hn, hl⟩ := I.loc
  obtain ⟨u, r, l⟩ := hl i x v hN e hv
  have fin : EP X pins σ Q u s := ⟨v, H, I, r, h⟩
  rcases l with ⟨hk, hm⟩ | ⟨hk, c, hc, hcell⟩
  · exact wpAny_Name (wpAny_loadName_local I.ok.kind hk hn hm fin) hd
  · rcases hk with hk | hk
    · exact wpAny_Name (wpAny_loadName_cell I.ok.kind hk hc hcell fin) hd
    · exact wpAny_Name (wpAny_loadName_free I.ok.kind hk hc hcell fin hcd) hd
theorem pe_int {i j pos} : PE X (.Constant (.int i) j pos) (tC (.int i)) := fun _ _ _ H _ I h => wpAny_Constant_int ⟨.int i, H, I.tok _, ⟨_, rfl⟩, h⟩
theorem pe_bl {b j pos} : PE X (.Constant (.bool b) j pos) (tC (.bl b)) := fun _ _ _ H _ I h => Constant_bool ⟨.bl b, H, I, rfl, h⟩
theorem pe_non {j pos} : PE X (.Constant .none j pos) (tC .non) := fun _ _ _ H _ I h => Constant_none ⟨.non, H, I, rfl, h⟩
theorem pe_str {x j pos} : PE X (.Constant (.str x) j pos) (tC (.str x)) := fun _ _ _ H _ I h => Calls.Constant_str ⟨.str x, H, I.tok _, ⟨_, rfl⟩, h⟩

/-- a global name of the def -/
def Gl (X : Cx) (x : Str) : Prop := X.env.kindOf x = some .globalImplicit
theorem ld_glob {E : Value → Shared → Prop} {pins : List (Addr × Obj)} {s : Shared} {σ : St} {H : Hp} {x : Str} {u : Value} {pos : Pos} {Q : Value → Shared → Prop} (I : Inv X pins σ H s) (hg : Gl X x) (hm : X.mg x = some u) (h : Q u s)
    (hd : (x == ("__debug__" : Str)) = false := by decide) : wpAny (model X.prog X.w) X.A (eval (.Name x pos) X.env) Q E s :=
  Calls.Name_function_global I.ok.kind hg (Calls.loadGlobal_global (by rw [I.ok.glob]; exact I.mod.glob.keeps I.bk) hm h) hd
theorem ld_blt {E : Value → Shared → Prop} {pins : List (Addr × Obj)} {s : Shared} {σ : St} {H : Hp} {x : Str} {u : Value} {pos : Pos} {Q : Value → Shared → Prop} (I : Inv X pins σ H s) (hg : Gl X x) (hm : X.mg x = none) (hv : bootBuiltins x = some u) (h : Q u s)
    (hn : x ≠ "__name__" := by decide) (hd : (x == ("__debug__" : Str)) = false := by decide) : wpAny (model X.prog X.w) X.A (eval (.Name x pos) X.env) Q E s := by
  obtain ⟨mb, h1, h2⟩ := I.mod.blt
  exact Calls.Name_function_global I.ok.kind hg (Calls.loadGlobal_builtin (by rw [I.ok.glob]; exact I.mod.glob.keeps I.bk) hm (by rw [I.ok.blt]; exact h1.keeps I.bk) ((h2 x hn).trans hv) h) hd
/-- a module's constant, a class, a function, as a value -/
theorem pe_glob {x : Str} {v : V} {u : Value} {pos : Pos} (hg : Gl X x) (hm : X.mg x = some u) (r : RelV v u) (hd : (x == ("__debug__" : Str)) = false := by decide) : PE X (.Name x pos) (tC v) :=
  fun _ _ _ H _ I h => ld_glob I hg hm ⟨v, H, I, r, h⟩ hd
theorem pe_bltn {x : Str} {v : V} {u : Value} {pos : Pos} (hg : Gl X x) (hm : X.mg x = none) (hv : bootBuiltins x = some u) (r : RelV v u) (hn : x ≠ "__name__" := by decide) (hd : (x == ("__debug__" : Str)) = false := by decide) : PE X (.Name x pos) (tC v) :=
  fun _ _ _ H _ I h => ld_blt I hg hm hv ⟨v, H, I, r, h⟩ hn hd

/-! ### arithmetic -/
/-- two ints -/
def t2I (ta tb : TE) (k : Int → Int → Hp → Prop) : St → Hp → Prop := fun σ H => ta σ H fun x H1 => tb σ H1 fun y H2 => ∃ i j, x = .int i ∧ y = .int j ∧ k i j H2
def tAdd (ta tb : TE) : TE := fun σ H Q => t2I ta tb (fun i j H2 => Q (.int (i + j)) H2) σ H
def tSub (ta tb : TE) : TE := fun σ H Q => t2I ta tb (fun i j H2 => Q (.int (i - j)) H2) σ H
/-- the left factor below 2^64 -/
def tMul (ta tb : TE) : TE := fun σ H Q => t2I ta tb (fun i j H2 => (-(2 ^ 64) < i ∧ i < 2 ^ 64) ∧ Q (.int (i * j)) H2) σ H
variable {a b : Expr} {ta tb : TE} {pos : Pos}
theorem pe_add (ha : PE X a ta) (hb : PE X b tb) : PE X (.BinOp a .Add b pos) (tAdd ta tb) := by
  intro pins s σ H Q I h
  refine wpAny_BinOp (bin ha hb I h fun v u s2 x y H2 I2 rx ry q => ?_)
  obtain ⟨i, j, rfl, rfl, q⟩ := q
  obtain ⟨t, rfl⟩ := rx
  obtain ⟨t', rfl⟩ := ry
  exact add_int ⟨.int _, H2, I2.tok _, ⟨_, rfl⟩, q⟩
theorem pe_sub (ha : PE X a ta) (hb : PE X b tb) : PE X (.BinOp a .Sub b pos) (tSub ta tb) := by
  intro pins s σ H Q I h
  refine wpAny_BinOp (bin ha hb I h fun v u s2 x y H2 I2 rx ry q => ?_)
  obtain ⟨i, j, rfl, rfl, q⟩ := q
  obtain ⟨t, rfl⟩ := rx
  obtain ⟨t', rfl⟩ := ry
  exact sub_int ⟨.int _, H2, I2.tok _, ⟨_, rfl⟩, q⟩
theorem pe_mul (ha : PE X a ta) (hb : PE X b tb) : PE X (.BinOp a .Mult b pos) (tMul ta tb) := by
  intro pins s σ H Q I h
  refine wpAny_BinOp (bin ha hb I h fun v u s2 x y H2 I2 rx ry q => ?_)
  obtain ⟨i, j, rfl, rfl, ⟨q1, q2⟩, q⟩ := q
  obtain ⟨t, rfl⟩ := rx
  obtain ⟨t', rfl⟩ := ry
  exact mul_int ⟨.int _, H2, I2.tok _, ⟨_, rfl⟩, q⟩ (.of_left (intBits_le_64 q1 q2))

/-! ### comparisons -/
def PC (X : Cx) (op : CmpOp) (a b : Expr) (t : TE) : Prop :=
  ∀ (pins : List (Addr × Obj)) (s : Shared) (σ : St) (H : Hp) (Q : VK), Inv X pins σ H s → t σ H Q →
    wpAny (model X.prog X.w) X.A (eval a X.env) (fun v s₁ => wpAny (model X.prog X.w) X.A (eval b X.env) (fun u s₂ => wpAny (model X.prog X.w) X.A (compareOp op v u) (EP X pins σ Q) X.xe s₂) X.xe s₁) X.xe s
theorem nobehind (b : Expr) {op : CmpOp} (h : op ≠ .In) (h2 : op ≠ .NotIn) : behindInMarks op b = false := by
  have e1 : (op == CmpOp.In) = false := by cases op <;> first | rfl | exact absurd rfl h
  have e2 : (op == CmpOp.NotIn) = false := by cases op <;> first | rfl | exact absurd rfl h2
  cases b <;> simp [behindInMarks, e1, e2]
def tCmp (p : Int → Int → Bool) (ta tb : TE) : TE := fun σ H Q => t2I ta tb (fun i j H2 => Q (.bl (p i j)) H2) σ H
abbrev tLt : TE → TE → TE := tCmp fun i j => decide (i < j)
abbrev tLe : TE → TE → TE := tCmp fun i j => decide (i ≤ j)
abbrev tGt : TE → TE → TE := tCmp fun i j => decide (j < i)
abbrev tGe : TE → TE → TE := tCmp fun i j => decide (j ≤ i)
abbrev tEqI : TE → TE → TE := tCmp fun i j => decide (i = j)
abbrev tNeI : TE → TE → TE := tCmp fun i j => !decide (i = j)
/-- a comparison of two ints, by its rule -/
theorem pc_int {op : CmpOp} {p : Int → Int → Bool} (ha : PE X a ta) (hb : PE X b tb)
    (rule : ∀ (i j : Int) (t u : Tok) (Q : Value → Shared → Prop) (s : Shared), Q (.bool (p i j)) s → wpAny (model X.prog X.w) X.A (compareOp op (.int i t) (.int j u)) Q X.xe s) : PC X op a b (tCmp p ta tb) := by
  intro pins s σ H Q I h
  refine bin ha hb I h fun v u s2 x y H2 I2 rx ry q => ?_
  obtain ⟨i, j, rfl, rfl, q⟩ := q
  obtain ⟨t, rfl⟩ := rx
  obtain ⟨t', rfl⟩ := ry
  exact rule i j t t' _ s2 ⟨.bl _, H2, I2, rfl, q⟩
theorem pc_lt (ha : PE X a ta) (hb : PE X b tb) : PC X .Lt a b (tLt ta tb) := pc_int ha hb fun _ _ _ _ _ _ h => lt_int h
theorem pc_le (ha : PE X a ta) (hb : PE X b tb) : PC X .LtE a b (tLe ta tb) := pc_int ha hb fun _ _ _ _ _ _ h => le_int h
theorem pc_gt (ha : PE X a ta) (hb : PE X b tb) : PC X .Gt a b (tGt ta tb) := pc_int ha hb fun _ _ _ _ _ _ h => gt_int h
theorem pc_ge (ha : PE X a ta) (hb : PE X b tb) : PC X .GtE a b (tGe ta tb) := pc_int ha hb fun _ _ _ _ _ _ h => ge_int h
theorem pc_eqI (ha : PE X a ta) (hb : PE X b tb) : PC X .Eq a b (tEqI ta tb) := pc_int ha hb fun _ _ _ _ _ _ h => eq_int (by rw [Bool.beq_eq_decide_eq]; exact h)
theorem pc_neI (ha : PE X a ta) (hb : PE X b tb) : PC X .NotEq a b (tNeI ta tb) := pc_int ha hb fun _ _ _ _ _ _ h => ne_int (by rw [bne, Bool.beq_eq_decide_eq]; exact h)
/-- is None -/
def tIsN (ta : TE) : TE := fun σ H Q => ta σ H fun x H1 => Q (.bl (decide (x = .non))) H1
def tNotN (ta : TE) : TE := fun σ H Q => ta σ H fun x H1 => Q (.bl (!decide (x = .non))) H1
theorem RelV.none_iff {x : V} {v : Value} (r : RelV x v) : (v == Value.none) = decide (x = .non) := by
  cases x with
  | non => cases r; rfl
  | bl _ => cases r; rfl
  | int _ => obtain ⟨t, rfl⟩ := r; rfl
  | str _ => obtain ⟨t, rfl⟩ := r; rfl
  | byt _ => obtain ⟨t, rfl⟩ := r; rfl
  | flt _ => obtain ⟨t, rfl⟩ := r; rfl
  | ref _ => cases r; rfl
  | ty _ => cases r; rfl
theorem pc_isN {j pos'} (ha : PE X a ta) : PC X .Is a (.Constant .none j pos') (tIsN ta) := by
  intro pins s σ H Q I h
  refine thn (ha pins s σ H _ I h) fun v s1 ⟨x, H1, I1, r1, q1⟩ => ?_
  exact Constant_none (is_none_gen ⟨.bl _, H1, I1, by rw [r1.none_iff]; rfl, q1⟩)
theorem pc_notN {j pos'} (ha : PE X a ta) : PC X .IsNot a (.Constant .none j pos') (tNotN ta) := by
  intro pins s σ H Q I h
  refine thn (ha pins s σ H _ I h) fun v s1 ⟨x, H1, I1, r1, q1⟩ => ?_
  exact Constant_none (isnot_none_gen ⟨.bl _, H1, I1, by rw [r1.none_iff]; rfl, q1⟩)
/-- a comparison as a value, as a test -/
def tB (t : TE) : TT := fun σ H Q => t σ H fun x H1 => ∃ c, x = .bl c ∧ Q c H1
theorem pe_cmp {op : CmpOp} {t : TE} (h : PC X op a b t) (h1 : behindInMarks op b = false := by first | exact nobehind _ (by decide) (by decide) | rfl) : PE X (.Compare a [op] [b] pos) t := fun pins s σ H Q I hw => wpAny_Compare1 (h pins s σ H Q I hw) h1
theorem pt_cmp {op : CmpOp} {t : TE} (h : PC X op a b t) (h1 : behindInMarks op b = false := by first | exact nobehind _ (by decide) (by decide) | rfl) : PT X (.Compare a [op] [b] pos) (tB t) := by
  intro pins s σ H Q I hw
  refine wpAny_isTrue_Compare1 (thn (h pins s σ H _ I hw) fun v s1 h1 => thn h1 fun u s2 h2 => thn h2 fun c s3 ⟨x, H1, I1, r1, q1⟩ => ?_) h1
  obtain ⟨d, rfl, q⟩ := q1
  cases r1
  exact wpAny_truthy_bool ⟨H1, I1, q⟩
/-- an expression whose value is a bool, as a test -/
theorem pt_val {e : Expr} {t : TE} (h : PE X e t) (he : ∀ whole, isTrue e X.env whole = (do let v ← whole; standAt e.pos; holding [v] (truthy v)) := by intro _; rfl) : PT X e (tB t) := by
  intro pins s σ H Q I hw
  refine isTrue_plain (thn (h pins s σ H _ I hw) fun v s1 ⟨x, H1, I1, r1, q1⟩ => ?_) (he _)
  obtain ⟨d, rfl, q⟩ := q1
  cases r1
  exact wpAny_truthy_bool ⟨H1, I1, q⟩

/-! ### and, or, not -/
variable {tA tB' : TT} {rest : List Expr}
def tAnd (t u : TT) : TT := fun σ H Q => t σ H fun c H1 => if c = true then u σ H1 Q else Q false H1
def tOr (t u : TT) : TT := fun σ H Q => t σ H fun c H1 => if c = true then Q true H1 else u σ H1 Q
def tNot (t : TT) : TT := fun σ H Q => t σ H fun c H1 => Q (!c) H1
theorem pw_and1 (ha : PT X a tA) : PW X (.BoolOp .And [a] pos) tA := by
  intro wh pins s σ H Q I h
  refine isTrue_and (thn (ha pins s σ H Q I h) fun c s1 e => ?_)
  cases c with
  | true => exact isTrue_and_nil e
  | false => exact e
theorem pw_or1 (ha : PT X a tA) : PW X (.BoolOp .Or [a] pos) tA := by
  intro wh pins s σ H Q I h
  refine isTrue_or (thn (ha pins s σ H Q I h) fun c s1 e => ?_)
  cases c with
  | false => exact isTrue_or_nil e
  | true => exact e
theorem pw_and (ha : PT X a tA) (hb : PW X (.BoolOp .And (b :: rest) pos) tB') : PW X (.BoolOp .And (a :: b :: rest) pos) (tAnd tA tB') := by
  intro wh pins s σ H Q I h
  refine isTrue_and (thn (ha pins s σ H _ I h) fun c s1 ⟨H1, I1, q1⟩ => ?_)
  cases c with
  | true => exact hb wh pins s1 σ H1 Q I1 q1
  | false => exact ⟨H1, I1, q1⟩
theorem pw_or (ha : PT X a tA) (hb : PW X (.BoolOp .Or (b :: rest) pos) tB') : PW X (.BoolOp .Or (a :: b :: rest) pos) (tOr tA tB') := by
  intro wh pins s σ H Q I h
  refine isTrue_or (thn (ha pins s σ H _ I h) fun c s1 ⟨H1, I1, q1⟩ => ?_)
  cases c with
  | true => exact ⟨H1, I1, q1⟩
  | false => exact hb wh pins s1 σ H1 Q I1 q1
theorem pt_not (ha : PT X a tA) : PT X (.UnaryOp .Not a pos) (tNot tA) := by
  intro pins s σ H Q I h
  exact isTrue_not (ha pins s σ H (fun c H1 => Q (!c) H1) I h)
/-- .. as values (bools) -/
def tAndV (ta tb : TE) : TE := fun σ H Q => ta σ H fun x H1 => ∃ c, x = .bl c ∧ if c = true then tb σ H1 Q else Q (.bl false) H1
def tOrV (ta tb : TE) : TE := fun σ H Q => ta σ H fun x H1 => ∃ c, x = .bl c ∧ if c = true then Q (.bl true) H1 else tb σ H1 Q
def tNotV (ta : TE) : TE := fun σ H Q => ta σ H fun x H1 => ∃ c, x = .bl c ∧ Q (.bl (!c)) H1
theorem pe_one {op} {t : TE} (h : PE X a t) : PE X (.BoolOp op [a] pos) t := fun pins s σ H Q I hw => BoolOp_one (h pins s σ H Q I hw)
theorem pe_and (ha : PE X a ta) (hb : PE X (.BoolOp .And (b :: rest) pos) tb) : PE X (.BoolOp .And (a :: b :: rest) pos) (tAndV ta tb) := by
  intro pins s σ H Q I h
  refine BoolOp_and (thn (ha pins s σ H _ I h) fun v s1 ⟨x, H1, I1, r1, q1⟩ => ?_)
  obtain ⟨c, rfl, q1⟩ := q1
  cases r1
  refine wpAny_truthy_bool ?_
  cases c with
  | true => exact hb pins s1 σ H1 Q I1 q1
  | false => exact ⟨.bl false, H1, I1, rfl, q1⟩
theorem pe_or (ha : PE X a ta) (hb : PE X (.BoolOp .Or (b :: rest) pos) tb) : PE X (.BoolOp .Or (a :: b :: rest) pos) (tOrV ta tb) := by
  intro pins s σ H Q I h
  refine BoolOp_or (thn (ha pins s σ H _ I h) fun v s1 ⟨x, H1, I1, r1, q1⟩ => ?_)
  obtain ⟨c, rfl, q1⟩ := q1
  cases r1
  refine wpAny_truthy_bool ?_
  cases c with
  | false => exact hb pins s1 σ H1 Q I1 q1
  | true => exact ⟨.bl true, H1, I1, rfl, q1⟩
theorem pe_not (ha : PE X a ta) : PE X (.UnaryOp .Not a pos) (tNotV ta) := by
  intro pins s σ H Q I h
  refine UnaryOp_ (thn (ha pins s σ H _ I h) fun v s1 ⟨x, H1, I1, r1, q1⟩ => ?_)
  obtain ⟨c, rfl, q1⟩ := q1
  cases r1
  exact not_of (wpAny_truthy_bool ⟨.bl (!c), H1, I1, rfl, q1⟩)
/-- a if t else b -/
def tIf (t : TT) (ta tb : TE) : TE := fun σ H Q => t σ H fun c H1 => if c = true then ta σ H1 Q else tb σ H1 Q
theorem pe_ifExp {c : Expr} (hc : PT X c tA) (ha : PE X a ta) (hb : PE X b tb) : PE X (.IfExp c a b pos) (tIf tA ta tb) := by
  intro pins s σ H Q I h
  refine wpAny_IfExp (thn (hc pins s σ H _ I h) fun d s1 ⟨H1, I1, q1⟩ => ?_)
  cases d with
  | true => exact ha pins s1 σ H1 Q I1 q1
  | false => exact hb pins s1 σ H1 Q I1 q1
end
end L2

namespace L2
open PySem PySem.Spec PyProof.Rows

/-! ### a list, a tuple that is read: tracked, frozen, or an object of the module -/
def SqL (K : PySem.W.Frag) (H : Hp) (a : Addr) (xs : List V) : Prop :=
  Rd H a (.lst xs) ∨
    ∃ (o : Obj) (its : Array Value) (n : Nat), K.lookup a = some o ∧ o.cls = .type "list" ∧ o.dict = none ∧ o.data = .seq its n ∧ its.size ≤ sizeLine ∧ Vals xs its.toList
def SqT (K : PySem.W.Frag) (H : Hp) (a : Addr) (xs : List V) : Prop :=
  Rd H a (.tup xs) ∨
    ∃ (o : Obj) (its : Array Value) (n : Nat), K.lookup a = some o ∧ o.cls = .type "tuple" ∧ o.data = .seq its n ∧ its.size ≤ sizeLine ∧ Vals xs its.toList
def absV : Value → Option V
  | .none => some .non
  | .bool b => some (.bl b)
  | .int i _ => some (.int i)
  | .str x _ => some (.str x)
  | .bytes b _ => some (.byt b)
  | .float b _ => some (.flt b)
  | .ref a => some (.ref a)
  | .type n => some (.ty n)
  | _ => none
theorem RelV.abs {x : V} {u : Value} (r : RelV x u) : absV u = some x := by
  cases x with
  | non => cases r; rfl
  | bl _ => cases r; rfl
  | int _ => obtain ⟨t, rfl⟩ := r; rfl
  | str _ => obtain ⟨t, rfl⟩ := r; rfl
  | byt _ => obtain ⟨t, rfl⟩ := r; rfl
  | flt _ => obtain ⟨t, rfl⟩ := r; rfl
  | ref _ => cases r; rfl
  | ty _ => cases r; rfl
theorem RelV.inj {x y : V} {u : Value} (r : RelV x u) (q : RelV y u) : x = y := Option.some.inj (r.abs.symm.trans q.abs)
theorem Vals.inj : ∀ {xs ys : List V} {us : List Value}, Vals xs us → Vals ys us → xs = ys
  | _, _, _, .nil, .nil => rfl
  | _, _, _, .cons r t, .cons r' t' => by rw [r.inj r', Vals.inj t t']
section
variable {X : Cx} {pins : List (Addr × Obj)} {σ : St} {H : Hp} {s : Shared} {a : Addr} {xs ys : List V}
theorem SqL.of {K : PySem.W.Frag} (h : H a = some (.lst xs)) : SqL K H a xs := .inl (.inl h)
theorem SqT.of {K : PySem.W.Frag} (h : H a = some (.tup xs)) : SqT K H a xs := .inl (.inl h)
theorem Inv.list (I : Inv X pins σ H s) (h : SqL X.K H a xs) : ∃ its : List Value, Vals xs its ∧ PlainL s.heap a its.toArray ∧ xs.length ≤ sizeLine := by
  rcases h with h | ⟨o, its, n, hk, hc, hd, hs, hz, r⟩
  · obtain ⟨z, its, n, r, e⟩ := h.ok I.hok
    exact ⟨its, r, ⟨_, n, e, rfl, rfl, rfl⟩, z⟩
  · refine ⟨its.toList, r, ⟨o, n, I.kIn a o hk, hc, hd, by simpa using hs⟩, ?_⟩
    have e := r.length
    simp only [Array.length_toList] at e
    omega
theorem Inv.tuple (I : Inv X pins σ H s) (h : SqT X.K H a xs) : ∃ its : List Value, Vals xs its ∧ IsTup s.heap a its.toArray ∧ xs.length ≤ sizeLine := by
  rcases h with h | ⟨o, its, n, hk, hc, hs, hz, r⟩
  · obtain ⟨z, its, r, p⟩ := h.ok I.hok
    exact ⟨its, r, p, z⟩
  · refine ⟨its.toList, r, ⟨o, I.kIn a o hk, hc, n, by simpa using hs⟩, ?_⟩
    have e := r.length
    simp only [Array.length_toList] at e
    omega
theorem Inv.list_inj (I : Inv X pins σ H s) (h : SqL X.K H a xs) (h' : SqL X.K H a ys) : xs = ys := by
  obtain ⟨its, r, ⟨o, n, e, _, _, d⟩, _⟩ := I.list h
  obtain ⟨its', r', ⟨o', n', e', _, _, d'⟩, _⟩ := I.list h'
  rw [e] at e'; cases e'
  rw [d] at d'
  injection d' with d1 _
  have : its = its' := by simpa using congrArg Array.toList d1
  subst this
  exact r.inj r'
theorem Inv.tuple_inj (I : Inv X pins σ H s) (h : SqT X.K H a xs) (h' : SqT X.K H a ys) : xs = ys := by
  obtain ⟨its, r, ⟨o, e, _, n, d⟩, _⟩ := I.tuple h
  obtain ⟨its', r', ⟨o', e', _, n', d'⟩, _⟩ := I.tuple h'
  rw [e] at e'; cases e'
  rw [d] at d'
  injection d' with d1 _
  have : its = its' := by simpa using congrArg Array.toList d1
  subst this
  exact r.inj r'
end

/-! ### another wish about exceptions -/
abbrev Cx.wish (X : Cx) (E : Value → Shared → Prop) : Cx := { X with xe := E }
/-- no exception leaves -/
abbrev Cx.nox (X : Cx) : Cx := X.wish fun _ _ => False
theorem Cx.Ok.wish {X : Cx} (ok : X.Ok) (E : Value → Shared → Prop) : (X.wish E).Ok :=
  ⟨ok.mod, ok.kind, ok.glob, ok.blt, ok.above, ok.inj, ok.has, ok.cab, ok.hd, ok.frames, ok.stk, ok.exf, ok.bs, ok.bsz, ok.noex, ok.exfs, ok.funs, ok.frf⟩
theorem Cx.Ok.unwish {X : Cx} {E : Value → Shared → Prop} (ok : (X.wish E).Ok) : X.Ok :=
  ⟨ok.mod, ok.kind, ok.glob, ok.blt, ok.above, ok.inj, ok.has, ok.cab, ok.hd, ok.frames, ok.stk, ok.exf, ok.bs, ok.bsz, ok.noex, ok.exfs, ok.funs, ok.frf⟩
section
variable {X : Cx} {pins : List (Addr × Obj)} {σ : St} {H : Hp} {s : Shared} {E : Value → Shared → Prop}
theorem Inv.wish (I : Inv X pins σ H s) (E : Value → Shared → Prop) : Inv (X.wish E) pins σ H s := ⟨I.ok.wish E, I.os, I.bare, I.base, I.loc, I.cell, I.free, I.freeC, I.pin, I.hok, I.len⟩
theorem Inv.unwish (I : Inv (X.wish E) pins σ H s) : Inv X pins σ H s := ⟨I.ok.unwish, I.os, I.bare, I.base, I.loc, I.cell, I.free, I.freeC, I.pin, I.hok, I.len⟩
theorem SP.unwish {D : Ends} {f : Flow} {s' : Shared} (h : SP (X.wish E) pins D f s') : SP X pins D f s' := by
  cases f with
  | next => obtain ⟨σ', H', I, q⟩ := h; exact ⟨σ', H', I.unwish, q⟩
  | brk => obtain ⟨σ', H', I, q⟩ := h; exact ⟨σ', H', I.unwish, q⟩
  | cont => obtain ⟨σ', H', I, q⟩ := h; exact ⟨σ', H', I.unwish, q⟩
  | ret u => obtain ⟨v, σ', H', I, r, q⟩ := h; exact ⟨v, σ', H', I.unwish, r, q⟩
theorem PE.nox {e : Expr} {t : TE} (h : PE X.nox e t) : PE X e t := fun pins s σ H Q I hw =>
  wpAny_mono (h pins s σ H Q (I.wish _) hw) (fun _ _ ⟨v, H', I', r, q⟩ => ⟨v, H', I'.unwish, r, q⟩) fun _ _ z => False.elim z
theorem PT.nox {e : Expr} {t : TT} (h : PT X.nox e t) : PT X e t := fun pins s σ H Q I hw =>
  wpAny_mono (h pins s σ H Q (I.wish _) hw) (fun _ _ ⟨H', I', q⟩ => ⟨H', I'.unwish, q⟩) fun _ _ z => False.elim z
theorem PSs.nox {st : List Stmt} {t : TS} (h : PSs X.nox st t) : PSs X st t := fun pins s σ H D I hw =>
  wpAny_mono (h pins s σ H D (I.wish _) hw) (fun _ _ q => q.unwish) fun _ _ z => False.elim z
end

/-! ### blocks and small statements -/
section
variable {X : Cx} {st : Stmt} {rest : List Stmt} {t u : TS} {e : Expr} {te : TE} {pos : Pos}
def tNext : TS := fun D σ H => D.nx σ H
def tSeq (t u : TS) : TS := fun D σ H => t { D with nx := u D } σ H
theorem pss_nil : PSs X [] tNext := fun _ _ σ H _ I h => wpAny_execs_nil ⟨σ, H, I, h⟩
theorem pss_cons (h1 : PS X st t) (h2 : PSs X rest u) : PSs X (st :: rest) (tSeq t u) := by
  intro pins s σ H D I h
  refine wpAny_execs_cons (thn (h1 pins s σ H { D with nx := u D } I h) fun f s1 q => ?_)
  cases f with
  | next =>
    obtain ⟨σ', H', I', q⟩ := q
    exact h2 pins s1 σ' H' D I' q
  | ret v => exact q
  | brk => exact q
  | cont => exact q
theorem pss_one (h1 : PS X st t) : PSs X [st] t := by
  intro pins s σ H D I h
  refine wpAny_execs_cons (thn (h1 pins s σ H D I h) fun f s1 q => ?_)
  cases f with
  | next => exact wpAny_execs_nil q
  | ret v => exact q
  | brk => exact q
  | cont => exact q
def tBreak : TS := fun D σ H => D.bk σ H
def tCont : TS := fun D σ H => D.ct σ H
theorem ps_pass : PS X (.Pass pos) tNext := fun _ _ σ H _ I h => wpAny_Pass ⟨σ, H, I, h⟩
theorem ps_break : PS X (.Break pos) tBreak := fun _ _ σ H _ I h => wpAny_Break ⟨σ, H, I, h⟩
theorem ps_continue : PS X (.Continue pos) tCont := fun _ _ σ H _ I h => wpAny_Continue ⟨σ, H, I, h⟩
/-- in a def's body nothing is shown -/
theorem Inv.quiet {pins : List (Addr × Obj)} {σ : St} {H : Hp} {s : Shared} (I : Inv X pins σ H s) : interactive X.env = false := by simp [interactive, I.ok.kind]
/-- a docstring -/
theorem ps_doc {x j pos pos'} : PS X (.Expr (.Constant (.str x) j pos) pos') tNext := fun _ s σ H _ I h => wpAny_Expr (Calls.Constant_str (show SP X _ _ .next { s with toks := s.toks + 1 } from ⟨σ, H, I.tok _, h⟩)) I.quiet
/-- an expression whose value is dropped -/
def tDrop (te : TE) : TS := fun D σ H => te σ H fun _ H1 => D.nx σ H1
theorem ps_expr (he : PE X e te) (hs : swapsWith e none pos.line X.env = pure false := by rfl) : PS X (.Expr e pos) (tDrop te) := by
  intro pins s σ H D I h
  exact wpAny_Expr_any (thn (he pins s σ H _ I h) fun v s1 ⟨x, H1, I1, r1, q1⟩ => ⟨σ, H1, I1, q1⟩) I.quiet hs
def tRet (te : TE) : TS := fun D σ H => te σ H D.rt
theorem ps_ret (he : PE X e te) : PS X (.Return (some e) pos) (tRet te) := by
  intro pins s σ H D I h
  exact wpAny_Return_some (thn (he pins s σ H _ I h) fun v s1 ⟨x, H1, I1, r1, q1⟩ => ⟨x, σ, H1, I1, r1, q1⟩)
def tRetN : TS := fun D _ H => D.rt .non H
theorem ps_retN : PS X (.Return none pos) tRetN := fun _ _ σ H _ I h => wpAny_Return_none ⟨.non, σ, H, I, rfl, h⟩
def tIfS (c : TT) (t u : TS) : TS := fun D σ H => c σ H fun b H1 => if b = true then t D σ H1 else u D σ H1
theorem ps_if {c : Expr} {a b : List Stmt} {tc : TT} (hc : PT X c tc) (ha : PSs X a t) (hb : PSs X b u) : PS X (.If c a b pos) (tIfS tc t u) := by
  intro pins s σ H D I h
  refine wpAny_If (thn (hc pins s σ H _ I h) fun d s1 ⟨H1, I1, q1⟩ => ?_)
  cases d with
  | true => exact ha pins s1 σ H1 D I1 q1
  | false => exact hb pins s1 σ H1 D I1 q1
/-- code that the proof never comes to -/
def tNever : TS := fun _ _ _ => False
theorem ps_never : PS X st tNever := fun _ _ _ _ _ _ h => h.elim
theorem pss_never {sts : List Stmt} : PSs X sts tNever := fun _ _ _ _ _ _ h => h.elim
end

/-! ### targets -/
abbrev TG := V → St → Hp → (St → Hp → Prop) → Prop
abbrev TGs := List V → St → Hp → (St → Hp → Prop) → Prop
def PG (X : Cx) (target : Expr) (t : TG) : Prop :=
  ∀ (pins : List (Addr × Obj)) (s : Shared) (σ : St) (H : Hp) (v : V) (u : Value) (Q : St → Hp → Prop), Inv X pins σ H s → RelV v u → t v σ H Q →
    wpAny (model X.prog X.w) X.A (assign target X.env u) (fun _ s' => ∃ σ' H', Inv X pins σ' H' s' ∧ Q σ' H') X.xe s
/-- several targets, one after another -/
def PGs (X : Cx) (ts : List Expr) (t : TGs) : Prop :=
  ∀ (pins : List (Addr × Obj)) (s : Shared) (σ : St) (H : Hp) (vs : List V) (us : List Value) (Q : St → Hp → Prop), Inv X pins σ H s → Vals vs us → t vs σ H Q →
    wpAny (model X.prog X.w) X.A (assignInOrder ((assignEach ts X.env).map (·.2)) us) (fun _ s' => ∃ σ' H', Inv X pins σ' H' s' ∧ Q σ' H') X.xe s
/-- o[i] = v, by values -/
abbrev TSet := V → V → V → Hp → (Hp → Prop) → Prop
def PSet (X : Cx) (t : TSet) : Prop :=
  ∀ (pins : List (Addr × Obj)) (s : Shared) (σ : St) (H : Hp) (o i v : V) (ov iv u : Value) (Q : Hp → Prop), Inv X pins σ H s → RelV o ov → RelV i iv → RelV v u → t o i v H Q →
    wpAny (model X.prog X.w) X.A (setItem ov iv u) (fun _ s' => ∃ H', Inv X pins σ H' s' ∧ Q H') X.xe s
/-- a op= b, by values -/
abbrev TIp := V → V → Hp → VK → Prop
def PIp (X : Cx) (op : Operator) (t : TIp) : Prop :=
  ∀ (pins : List (Addr × Obj)) (s : Shared) (σ : St) (H : Hp) (x y : V) (v u : Value) (Q : VK), Inv X pins σ H s → RelV x v → RelV y u → t x y H Q →
    wpAny (model X.prog X.w) X.A (inplaceOp op v u) (EP X pins σ Q) X.xe s
section
variable {X : Cx} {pos : Pos}
def gName (i : Nat) : TG := fun v σ H Q => Q (σ.set i (some v)) H
theorem pg_name {i : Nat} {x : Str} (hN : X.N.Nodup) (hi : X.N[i]? = some x) (hx : Loc X.env.scope x) (hf : X.fn x = true ∨ X.env.scope.names.lookup x = some .local := by first | exact .inl rfl | exact .inr rfl | assumption) : PG X (.Name x pos) (gName i) := by
  intro pins s σ H v u Q I r h
  exact wpAny_assign_Name (store_ok I hN hi hx r (fun s' I' => ⟨_, H, I', h⟩) hf)
def gNil : TGs := fun vs σ H Q => vs = [] ∧ Q σ H
def gCons (t : TG) (u : TGs) : TGs := fun vs σ H Q => ∃ v r, vs = v :: r ∧ t v σ H fun σ' H' => u r σ' H' Q
theorem pgs_nil : PGs X [] gNil := by
  intro pins s σ H vs us Q I r h
  obtain ⟨e, h⟩ := h
  subst e
  cases r
  exact assignInOrder_nil ⟨σ, H, I, h⟩
theorem pgs_cons {e : Expr} {es : List Expr} {t : TG} {u : TGs} (h1 : PG X e t) (h2 : PGs X es u)
    (hs : (assignEach (e :: es) X.env).map (·.2) = assign e X.env :: (assignEach es X.env).map (·.2) := by rfl) : PGs X (e :: es) (gCons t u) := by
  intro pins s σ H vs us Q I r h
  obtain ⟨v, vr, e1, h⟩ := h
  subst e1
  cases r with
  | cons r rr =>
    rw [hs]
    refine assignInOrder_cons (thn (h1 pins s σ H _ _ _ I r h) fun _ s1 ⟨σ1, H1, I1, q1⟩ => ?_)
    exact h2 pins s1 σ1 H1 _ _ Q I1 rr q1
/-- (a, b, ..) = a tuple of that length -/
def gTup (K : PySem.W.Frag) (n : Nat) (t : TGs) : TG := fun v σ H Q => ∃ a xs, v = .ref a ∧ SqT K H a xs ∧ xs.length = n ∧ t xs σ H Q
theorem pg_tup {es : List Expr} {k : Nat} {t : TGs} {n : Nat} (hc : X.calm = true) (h : PGs X es t)
    (hn : (assignEach es X.env).length = n := by rfl) (hst : (assignEach es X.env).findIdx? (·.1) = none := by rfl) : PG X (.Tuple es k pos) (gTup X.K n t) := by
  intro pins s σ H v u Q I r hw
  obtain ⟨a, xs, e1, hq, hl, hw⟩ := hw
  subst e1
  cases r
  obtain ⟨its, rv, ht, hz⟩ := I.tuple hq
  refine assign_Tuple_tuple (I.ok.hd hc) ht (by simp [hn, ← hl, rv.length]) hst fun h' hx => ?_
  have I1 : Inv X pins σ H { s with heap := h' } := I.kept (t' := s.toks) fun b o e => hx b o (Nat.ne_of_lt (Heap.lt_size e)) e
  exact h pins _ σ H xs _ Q I1 (by simpa using rv) hw
/-- o[i] = .. -/
def gSub (to ti : TE) (t : TSet) : TG := fun v σ H Q => to σ H fun o H1 => ti σ H1 fun i H2 => t o i v H2 fun H3 => Q σ H3
theorem pg_sub {o i : Expr} {to ti : TE} {t : TSet} (ho : PE X o to) (hi : PE X i ti) (hs : PSet X t)
    (ha : ∀ v, assign (.Subscript o i pos) X.env v = (do
      let ov ← holding [v] (eval o X.env)
      let iv ← holding [v, ov] (eval i X.env)
      standAt pos
      holding [v, ov, iv] (setItem ov iv v)
      release [v, ov, iv] []) := by intro _; rfl) : PG X (.Subscript o i pos) (gSub to ti t) := by
  intro pins s σ H v u Q I r h
  rw [ha]
  refine wpAny_bind (wpAny_holding (thn (ho pins s σ H _ I h) fun ov s1 ⟨x, H1, I1, r1, q1⟩ => ?_))
  refine wpAny_bind (wpAny_holding (thn (hi pins s1 σ H1 _ I1 q1) fun iv s2 ⟨y, H2, I2, r2, q2⟩ => ?_))
  refine wpAny_bind (wpAny_standAt (wpAny_bind (wpAny_holding (thn (hs pins s2 σ H2 x y v ov iv u _ I2 r1 r2 r q2) fun _ s3 ⟨H3, I3, q3⟩ => ?_))))
  exact wpAny_release ⟨σ, H3, I3, q3⟩
/-- target = value -/
def tAsg (te : TE) (g : TG) : TS := fun D σ H => te σ H fun x H1 => g x σ H1 D.nx
theorem ps_asg {tg e : Expr} {te : TE} {g : TG} (he : PE X e te) (hg : PG X tg g) (hs : swapsWithSole [tg] e pos.line X.env = pure false := by rfl) (hw : swappedStores [tg] e X.env = pure none := by rfl)
    (h1 : (assignEach [tg] X.env).map (·.2) = [assign tg X.env] := by rfl) : PS X (.Assign [tg] e pos) (tAsg te g) := by
  intro pins s σ H D I h
  refine wpAny_Assign_stores (thn (he pins s σ H _ I h) fun v s1 ⟨x, H1, I1, r1, q1⟩ => ?_) hs hw
  rw [h1]
  exact thn (hg pins s1 σ H1 x v _ I1 r1 q1) fun _ s2 q => q
/-- name = value -/
theorem ps_set {i : Nat} {x : Str} {e : Expr} {te : TE} {pos' : Pos} (hN : X.N.Nodup) (hi : X.N[i]? = some x) (hx : Loc X.env.scope x) (he : PE X e te) (hs : swapsWith e (some (.Name x pos')) pos.line X.env = pure false := by rfl) (hf : X.fn x = true ∨ X.env.scope.names.lookup x = some .local := by first | exact .inl rfl | exact .inr rfl | assumption) :
    PS X (.Assign [.Name x pos'] e pos) (tAsg te (gName i)) := by
  intro pins s σ H D I h
  refine wpAny_Assign_Name (thn (he pins s σ H _ I h) fun v s1 ⟨y, H1, I1, r1, q1⟩ => ?_) hs
  exact store_ok I1 hN hi hx r1 (fun s2 I2 => ⟨_, H1, I2, q1⟩) hf
/-- a, b = x, y with plain local names: stored from the right; the pair itself is not tracked (the opening rows as in PyProof/Rows/TupAssign.lean:23) -/
def tPar (i j : Nat) (ta : TA) : TS := fun D σ H => ta σ H fun vs H1 => ∃ v w, vs = [v, w] ∧ D.nx ((σ.set i (some v)).set j (some w)) H1
theorem ps_par {i j : Nat} {x y : Str} {a b : Expr} {ta : TA} {px py pt : Pos} {kt k2 pt2} (hc : X.calm = true) (hN : X.N.Nodup) (hi : X.N[i]? = some x) (hj : X.N[j]? = some y) (hij : i ≠ j)
    (hx : X.env.scope.names.lookup x = some .local) (hy : X.env.scope.names.lookup y = some .local) (ha : PA X [a, b] ta)
    (hw : swappedStores [.Tuple [.Name x px, .Name y py] kt pt] (.Tuple [a, b] k2 pt2) X.env = pure (some [x, y]))
    (hs : swapsWithSole [.Tuple [.Name x px, .Name y py] kt pt] (.Tuple [a, b] k2 pt2) pos.line X.env = pure false := by rfl) :
    PS X (.Assign [.Tuple [.Name x px, .Name y py] kt pt] (.Tuple [a, b] k2 pt2) pos) (tPar i j ta) := by
  intro pins s σ H D I h
  rw [exec_Assign_arm]
  refine wpAny_bind (wpAny_standAt ?_)
  rw [hs]
  refine wpAny_bind (wpAny_pure ?_)
  rw [if_neg (by decide)]
  refine wpAny_bind (Tuple_ (thn (ha _ pins s σ H _ I h) fun us s1 ⟨vs, H1, I1, r1, q1⟩ => ?_))
  obtain ⟨v, w, e1, q1⟩ := q1
  subst e1
  obtain ⟨u1, u2, rfl, rv, rw'⟩ : ∃ u1 u2, us = [u1, u2] ∧ RelV v u1 ∧ RelV w u2 := by
    cases r1 with
    | cons p q =>
      cases q with
      | cons p' q' =>
        cases q'
        exact ⟨_, _, rfl, p, p'⟩
  refine wpAny_newObj_type ?_ (by show 2 ≤ sizeLine; decide)
  have I2 : Inv X pins σ H1 { s1 with heap := s1.heap.push { cls := .type "tuple", data := .seq [u1, u2].toArray } } := I1.kept (t' := s1.toks) fun b o e => Heap.get?_push_of_some _ e
  rw [hw]
  refine wpAny_bind (wpAny_pure ?_)
  show wpAny (model X.prog X.w) X.A (do rule "assign.swapped-stores"; let items ← unpackItems (.ref s1.heap.objs.size) 2 none; assignInOrder [fun v => bindName X.env y v, fun v => bindName X.env x v] items.reverse; pure Flow.next) _ _ _
  refine wpAny_bind (wpAny_rule (wpAny_bind (unpackItems_tuple (items := #[u1, u2]) (I.ok.hd hc) (IsTup.new s1.heap _) fun h' hx' => ?_)))
  have I3 := I2.kept (h' := h') (t' := s1.toks) fun b o e => hx' b o (Nat.ne_of_lt (Heap.lt_size e)) e
  show wpAny _ _ (assignInOrder [fun v => bindName X.env y v, fun v => bindName X.env x v] [u2, u1] >>= fun _ => pure Flow.next) _ _ _
  refine wpAny_bind (assignInOrder_cons (wpAny_bindName (store_ok I3 hN hj (.inl hy) rw' (fun s2 I4 => ?_) (.inr hy))))
  refine assignInOrder_cons (wpAny_bindName (store_ok I4 hN hi (.inl hx) rv (fun s3 I5 => assignInOrder_nil (wpAny_pure ?_)) (.inr hx)))
  rw [List.set_comm _ _ (Ne.symm hij)] at I5
  exact ⟨_, H1, I5, q1⟩
/-- name op= e -/
def tAug (i : Nat) (te : TE) (ti : TIp) : TS := fun D σ H => ∃ x, σ[i]? = some (some x) ∧ te σ H fun y H1 => ti x y H1 fun z H2 => D.nx (σ.set i (some z)) H2
theorem ps_aug {i : Nat} {x : Str} {e : Expr} {te : TE} {op : Operator} {ti : TIp} {pos' : Pos} (hN : X.N.Nodup) (hi : X.N[i]? = some x) (hx : Loc X.env.scope x) (he : PE X e te) (ho : PIp X op ti) (hf : X.fn x = true ∨ X.env.scope.names.lookup x = some .local := by first | exact .inl rfl | exact .inr rfl | assumption) :
    PS X (.AugAssign (.Name x pos') op e pos) (tAug i te ti) := by
  intro pins s σ H D I h
  obtain ⟨v, e1, h⟩ := h
  obtain ⟨m, hn, hl⟩ := I.loc
  have vis : Vis X.env.scope x := by rcases hx with k | k; exact .inl k; exact .inr (.inl k)
  obtain ⟨u, r, l⟩ := hl i x v hi e1 vis
  refine wpAny_AugAssign_Name ?_
  have go : wpAny (model X.prog X.w) X.A (eval e X.env) (fun w s₂ => wpAny (model X.prog X.w) X.A (inplaceOp op u w) (fun r s₃ => wpAny (model X.prog X.w) X.A (storeName X.env x r) (fun _ => SP X pins D .next) X.xe s₃) X.xe s₂) X.xe s := by
    refine thn (he pins s σ H _ I h) fun w s1 ⟨y, H1, I1, r1, q1⟩ => ?_
    refine thn (ho pins s1 σ H1 v y u w _ I1 r r1 q1) fun z s2 ⟨zv, H2, I2, r2, q2⟩ => ?_
    exact store_ok I2 hN hi hx r2 (fun s3 I3 => ⟨_, H2, I3, q2⟩) hf
  rcases l with ⟨hk, hm⟩ | ⟨hk, c, hc, hcell⟩
  · exact wpAny_loadName_local I.ok.kind hk hn hm go
  · rcases hk with hk | hk
    · exact wpAny_loadName_cell I.ok.kind hk hc hcell go
    · rcases hx with k | k
      · have : X.env.scope.names.lookup x = some .free := hk
        rw [k] at this; cases this
      · have : X.env.scope.names.lookup x = some .free := hk
        rw [k] at this; cases this
/-- o[i] op= e -/
def tAugS (to ti te : TE) (tget : V → V → Hp → VK → Prop) (tip : TIp) (tset : TSet) : TS := fun D σ H => to σ H fun o H1 => ti σ H1 fun i H2 => tget o i H2 fun x H3 => te σ H3 fun y H4 => tip x y H4 fun z H5 => tset o i z H5 fun H6 => D.nx σ H6
/-- o[i], by values -/
def PGet (X : Cx) (t : V → V → Hp → VK → Prop) : Prop :=
  ∀ (pins : List (Addr × Obj)) (s : Shared) (σ : St) (H : Hp) (o i : V) (ov iv : Value) (Q : VK), Inv X pins σ H s → RelV o ov → RelV i iv → t o i H Q →
    wpAny (model X.prog X.w) X.A (getItem ov iv) (EP X pins σ Q) X.xe s
theorem ps_augS {o i e : Expr} {to ti te : TE} {tget : V → V → Hp → VK → Prop} {tip : TIp} {tset : TSet} {op : Operator} {tpos : Pos} (ho : PE X o to) (hi : PE X i ti) (hg : PGet X tget) (he : PE X e te) (hp : PIp X op tip) (hs : PSet X tset)
    (ha : ∀ ov iv new, augStore i ov iv new = (do holding [new, ov, iv] (setItem ov iv new); release [new, ov, iv] []; pure .next) := by intros; rfl) : PS X (.AugAssign (.Subscript o i tpos) op e pos) (tAugS to ti te tget tip tset) := by
  intro pins s σ H D I h
  refine wpAny_AugAssign_SubscriptAny (thn (ho pins s σ H _ I h) fun ov s1 ⟨x1, H1, I1, r1, q1⟩ => ?_) ha
  refine thn (hi pins s1 σ H1 _ I1 q1) fun iv s2 ⟨x2, H2, I2, r2, q2⟩ => ?_
  refine thn (hg pins s2 σ H2 x1 x2 ov iv _ I2 r1 r2 q2) fun old s3 ⟨x3, H3, I3, r3, q3⟩ => ?_
  refine thn (he pins s3 σ H3 _ I3 q3) fun v s4 ⟨x4, H4, I4, r4, q4⟩ => ?_
  refine thn (hp pins s4 σ H4 x3 x4 old v _ I4 r3 r4 q4) fun new s5 ⟨x5, H5, I5, r5, q5⟩ => ?_
  exact thn (hs pins s5 σ H5 x1 x2 x5 ov iv new _ I5 r1 r2 r5 q5) fun _ s6 ⟨H6, I6, q6⟩ => ⟨σ, H6, I6, q6⟩
/-- ints -/
def ipI (f : Int → Int → Int) : TIp := fun x y H Q => ∃ i j, x = .int i ∧ y = .int j ∧ Q (.int (f i j)) H
theorem ip_add : PIp X .Add (ipI fun i j => i + j) := by
  intro pins s σ H x y v u Q I r1 r2 h
  obtain ⟨i, j, e1, e2, q⟩ := h
  subst e1; subst e2
  obtain ⟨t, rfl⟩ := r1
  obtain ⟨t', rfl⟩ := r2
  exact iadd_int ⟨.int _, H, I.tok _, ⟨_, rfl⟩, q⟩
theorem ip_sub : PIp X .Sub (ipI fun i j => i - j) := by
  intro pins s σ H x y v u Q I r1 r2 h
  obtain ⟨i, j, e1, e2, q⟩ := h
  subst e1; subst e2
  obtain ⟨t, rfl⟩ := r1
  obtain ⟨t', rfl⟩ := r2
  exact isub_int ⟨.int _, H, I.tok _, ⟨_, rfl⟩, q⟩
end

/-! ### while -/
section
variable {X : Cx} {pos : Pos}
/-- the invariant W with its measure -/
def tWhile (c : TT) (tb : TS) : TS := fun D σ H => ∃ W : Nat → St → Hp → Prop, (∃ m, W m σ H) ∧ ∀ m σ H, W m σ H →
  c σ H fun b H1 => if b = true then ∃ N : St → Hp → Prop, (∀ σ' H', N σ' H' → ∃ m', m' < m ∧ W m' σ' H') ∧ tb { D with nx := N, ct := N, bk := D.nx } σ H1 else D.nx σ H1
theorem ps_while {c : Expr} {body : List Stmt} {tc : TT} {tb : TS} (hp : PassesOwn (model X.prog X.w) X.A X.env X.xe) (hc : PT X c tc) (hb : PSs X body tb) : PS X (.While c body [] pos) (tWhile tc tb) := by
  intro pins s σ H D I h
  obtain ⟨W, ⟨m0, w0⟩, turn⟩ := h
  refine wpAny_While (codeAny_whileLoop (fun n s' => ∃ σ' H', Inv X pins σ' H' s' ∧ W n σ' H') ?_ m0 ⟨σ, H, I, w0⟩)
  rintro n s1 ⟨σ1, H1, I1, w1⟩
  refine wpAny_passesOwn hp (thn (hc pins s1 σ1 H1 _ I1 (turn n σ1 H1 w1)) fun b s2 ⟨H2, I2, q2⟩ => ?_)
  cases b with
  | true =>
    obtain ⟨N, hN, q2⟩ := q2
    rw [if_pos rfl]
    refine wpAny_passesOwn hp (thn (hb pins s2 σ1 H2 _ I2 q2) fun f s3 q3 => ?_)
    cases f with
    | next =>
      obtain ⟨σ3, H3, I3, n3⟩ := q3
      obtain ⟨m', hm, w3⟩ := hN σ3 H3 n3
      exact ⟨m', hm, σ3, H3, I3, w3⟩
    | cont =>
      obtain ⟨σ3, H3, I3, n3⟩ := q3
      obtain ⟨m', hm, w3⟩ := hN σ3 H3 n3
      exact ⟨m', hm, σ3, H3, I3, w3⟩
    | brk => exact q3
    | ret v => exact q3
  | false =>
    rw [if_neg Bool.false_ne_true]
    exact wpAny_execs_nil ⟨σ1, H2, I2, q2⟩
end

/-! ### what a loop or a comprehension walks -/
/-- at turn i: it yields x (the heap may grow), or it stops -/
structure It where
  go : Nat → Hp → Prop
  yld : Nat → Hp → V → Hp → Prop
  stop : Nat → Hp → Prop
/-- the iterator's own objects may turn: they are not the frame's, not pinned, younger than the entry (or a comprehension's own) -/
def FpOk (X : Cx) (pins : List (Addr × Obj)) (H : Hp) (b : Addr) : Prop :=
  H b = none ∧ b ≠ X.env.locals ∧ b ∉ X.fs ∧ (b ∈ X.ex ∨ X.s_0.heap.objs.size ≤ b) ∧ (∀ x c, X.env.cells.lookup x = some c → c ≠ b) ∧ ∀ p ∈ X.pn ++ pins, p.1 ≠ b
theorem Inv.fpOk {X : Cx} {pins : List (Addr × Obj)} {σ : St} {H H' : Hp} {s : Shared} {b : Addr} (I : Inv X pins σ H s) (hb : s.heap.objs.size ≤ b) (hn : H' b = none) : FpOk X pins H' b := by
  refine ⟨hn, Nat.ne_of_gt (Nat.lt_of_lt_of_le I.lt hb), I.nofs hb, .inr (Nat.le_trans I.sz hb), fun x c e z => ?_, fun p hp z => ?_⟩
  · obtain ⟨v, q⟩ := I.cell x c e
    exact absurd (Nat.lt_of_lt_of_le q.lt (by rw [z]; exact hb)) (Nat.lt_irrefl _)
  · exact absurd (Nat.lt_of_lt_of_le (Heap.lt_size (I.pin p hp).1) (by rw [z]; exact hb)) (Nat.lt_irrefl _)
structure Turn (P : Program) (w : World) (K : PySem.W.Frag) (tg : Expr) (J : It) (fp : List Addr) (it : Addr) (tn : Nat → Heap → Prop) : Prop where
  mem : it ∈ fp
  obj : ∀ i h, tn i h → ∀ b ∈ fp, ∃ o, h.get? b = some o ∧ ∀ v, o.data ≠ .cell v
  keep : ∀ i h h', tn i h → (∀ b ∈ fp, ∀ o, h.get? b = some o → h'.get? b = some o) → tn i h'
  item : ∀ (X : Cx), X.prog = P → X.w = w → X.K = K → X.calm = true → ∀ (i : Nat) (pins : List (Addr × Obj)) (s : Shared) (σ : St) (H : Hp) (E : Value → Shared → Prop), Inv X pins σ H s → (∀ b ∈ fp, FpOk X pins H b) → tn i s.heap → J.go i H →
    wpAny (model P w) X.A (pyNext (.ref it)) (fun r s1 => ∃ u, r = some u ∧
      wpAny (model P w) X.A (letOwnedTupleGo tg (.ref it) u) (fun _ s2 => ∃ x H', Inv X pins σ H' s2 ∧ RelV x u ∧ J.yld i H x H' ∧ tn (i + 1) s2.heap ∧ ∀ b ∈ fp, H' b = none) E s1) E s
  done : ∀ (X : Cx), X.prog = P → X.w = w → X.K = K → X.calm = true → ∀ (i : Nat) (pins : List (Addr × Obj)) (s : Shared) (σ : St) (H : Hp) (E : Value → Shared → Prop), Inv X pins σ H s → (∀ b ∈ fp, FpOk X pins H b) → tn i s.heap → J.stop i H →
    wpAny (model P w) X.A (pyNext (.ref it)) (fun r s1 => r = none ∧ Inv X pins σ H s1) E s
  self : ∀ (A : Around) (i : Nat) (s : Shared) (Q : Value → Shared → Prop) (E : Value → Shared → Prop), tn i s.heap → Q (.ref it) s → wpAny (model P w) A (pyIter (.ref it)) Q E s
abbrev TI := St → Hp → (It → Hp → Prop) → Prop
/-- an iterator has come -/
def PIE (X : Cx) (pins : List (Addr × Obj)) (σ : St) (tg : Expr) (R : It → Hp → Prop) (itv : Value) (s2 : Shared) : Prop :=
  ∃ (it : Addr) (fp : List Addr) (tn : Nat → Heap → Prop) (J : It) (H' : Hp), itv = .ref it ∧ Inv X pins σ H' s2 ∧ Turn X.prog X.w X.K tg J fp it tn ∧ tn 0 s2.heap ∧ (∀ b ∈ fp, FpOk X pins H' b) ∧ R J H'
def PI (X : Cx) (tg iter : Expr) (wi : TI) : Prop :=
  ∀ (pins : List (Addr × Obj)) (s : Shared) (σ : St) (H : Hp) (R : It → Hp → Prop), Inv X pins σ H s → wi σ H R →
    wpAny (model X.prog X.w) X.A (eval iter X.env) (fun v s1 => wpAny (model X.prog X.w) X.A (pyIter v) (PIE X pins σ tg R) X.xe s1) X.xe s

/-- the step ahead of the store is nothing for an iterator that keeps no tuple -/
theorem go_of {M : Model} {A : Around} {E : Value → Shared → Prop} {s : Shared} {tg : Expr} {it : Addr} {u : Value} {o : Obj} {n : String} {vs : Array Value} {Q : Unit → Shared → Prop} (ho : s.heap.get? it = some o) (hc : o.cls = .type n) (hd : o.data = .fields vs)
    (hn : ["enumerate", "zip", "dict_itemiterator", "dict_reverseitemiterator", "odict_iterator", "itertools.zip_longest", "itertools.pairwise"].contains n = false) (hQ : Q () s) : wpAny M A (letOwnedTupleGo tg (.ref it) u) Q E s := by
  unfold letOwnedTupleGo
  cases tg <;> first
    | exact wpAny_pure hQ
    | (cases u <;> first
        | exact wpAny_pure hQ
        | (refine wpAny_bind (wpAny_load ho ?_)
           rw [hc, hd]
           show wpAny M A (if (["enumerate", "zip", "dict_itemiterator", "dict_reverseitemiterator", "odict_iterator", "itertools.zip_longest", "itertools.pairwise"].contains n && vs[0]? == some (rawInt _)) = true then _ else _) Q E s
           rw [if_neg (by intro h; rw [hn, Bool.false_and] at h; cases h)]
           exact wpAny_pure hQ))

/-- the list at a, as it stands at each turn (a loop may append to it) -/
def Itl (K : PySem.W.Frag) (a : Addr) : It :=
  ⟨fun i H => ∃ xs x, SqL K H a xs ∧ xs[i]? = some x, fun i H x H' => H' = H ∧ ∀ xs, SqL K H a xs → xs[i]? = some x, fun i H => ∃ xs, SqL K H a xs ∧ xs.length ≤ i⟩
def Itt (K : PySem.W.Frag) (a : Addr) : It :=
  ⟨fun i H => ∃ xs x, SqT K H a xs ∧ xs[i]? = some x, fun i H x H' => H' = H ∧ ∀ xs, SqT K H a xs → xs[i]? = some x, fun i H => ∃ xs, SqT K H a xs ∧ xs.length ≤ i⟩
/-- lo, lo + 1, .. (n of them) -/
def Itr (lo : Int) (n : Nat) : It := ⟨fun i _ => i < n, fun i H x H' => H' = H ∧ x = .int (lo + i), fun i _ => n ≤ i⟩
theorem turn_list {P : Program} {w : World} {K : PySem.W.Frag} {tg : Expr} (a it : Addr) : Turn P w K tg (Itl K a) [it] it (fun i h => h.IsListIter it a i) where
  mem := by simp
  obj := fun i h st b hb => by
    have e : b = it := by simpa using hb
    subst e
    obtain ⟨o, e, c, d⟩ := st
    exact ⟨o, e, fun v z => by rw [d] at z; cases z⟩
  keep := fun i h h' st k => st.at fun o e => k it (by simp) o e
  item := by
    intro X hP hw hK hc i pins s σ H E I hf st hg
    subst hP hw hK
    obtain ⟨xs, x, hq, hx⟩ := hg
    obtain ⟨its, rv, p, hz⟩ := I.list hq
    obtain ⟨u, hu, ru⟩ := rv.get hx
    obtain ⟨f0, f1, f2, f3, f4, f5⟩ := hf it (by simp)
    refine wpAny_pyNext_list_item st p.isList (x := u) (by simpa using hu) fun h' st' sb => ?_
    have I1 : Inv X pins σ H { s with heap := h' } := I.turned (t' := s.toks) (fun b o hb e => (sb.2 b hb).trans e) f0 f1 f3 f4 f5
    obtain ⟨o, e, c, d⟩ := id st'
    exact ⟨u, rfl, go_of (s := { s with heap := h' }) e c d (by decide) ⟨x, H, I1, ru, ⟨rfl, fun ys hy => by rw [I.list_inj hy hq]; exact hx⟩, st', fun b hb => (hf b hb).1⟩⟩
  done := by
    intro X hP hw hK hc i pins s σ H E I hf st hg
    subst hP hw hK
    obtain ⟨xs, hq, hx⟩ := hg
    obtain ⟨its, rv, p, hz⟩ := I.list hq
    obtain ⟨f0, f1, f2, f3, f4, f5⟩ := hf it (by simp)
    have hl := rv.length
    exact wpAny_pyNext_list_end (I.ok.hd hc) st p.isList (by simp; omega) fun h' eb => ⟨rfl, I.turned (t' := s.toks) (fun b o hb e => eb b o hb e) f0 f1 f3 f4 f5⟩
  self := fun _ _ _ _ _ st h => wpAny_pyIter_listiter st h
theorem turn_tuple {P : Program} {w : World} {K : PySem.W.Frag} {tg : Expr} (a it : Addr) : Turn P w K tg (Itt K a) [it] it (fun i h => h.IsTupleIter it a i) where
  mem := by simp
  obj := fun i h st b hb => by
    have e : b = it := by simpa using hb
    subst e
    obtain ⟨o, e, c, d⟩ := st
    exact ⟨o, e, fun v z => by rw [d] at z; cases z⟩
  keep := fun i h h' st k => st.at fun o e => k it (by simp) o e
  item := by
    intro X hP hw hK hc i pins s σ H E I hf st hg
    subst hP hw hK
    obtain ⟨xs, x, hq, hx⟩ := hg
    obtain ⟨its, rv, p, hz⟩ := I.tuple hq
    obtain ⟨u, hu, ru⟩ := rv.get hx
    obtain ⟨f0, f1, f2, f3, f4, f5⟩ := hf it (by simp)
    refine wpAny_pyNext_tuple_item st (show s.heap.IsTuple a its.toArray from p) (x := u) (by simpa using hu) fun h' st' sb => ?_
    have I1 : Inv X pins σ H { s with heap := h' } := I.turned (t' := s.toks) (fun b o hb e => (sb.2 b hb).trans e) f0 f1 f3 f4 f5
    obtain ⟨o, e, c, d⟩ := id st'
    exact ⟨u, rfl, go_of (s := { s with heap := h' }) e c d (by decide) ⟨x, H, I1, ru, ⟨rfl, fun ys hy => by rw [I.tuple_inj hy hq]; exact hx⟩, st', fun b hb => (hf b hb).1⟩⟩
  done := by
    intro X hP hw hK hc i pins s σ H E I hf st hg
    subst hP hw hK
    obtain ⟨xs, hq, hx⟩ := hg
    obtain ⟨its, rv, p, hz⟩ := I.tuple hq
    obtain ⟨f0, f1, f2, f3, f4, f5⟩ := hf it (by simp)
    have hl := rv.length
    exact wpAny_pyNext_tuple_end (I.ok.hd hc) st (show s.heap.IsTuple a its.toArray from p) (by simp; omega) fun h' eb => ⟨rfl, I.turned (t' := s.toks) (fun b o hb e => eb b o hb e) f0 f1 f3 f4 f5⟩
  self := fun _ _ _ _ _ st h => wpAny_pyIter_tupleiter st h
theorem turn_range {P : Program} {w : World} {K : PySem.W.Frag} {tg : Expr} (it : Addr) (lo : Int) (n : Nat) : Turn P w K tg (Itr lo n) [it] it (fun i h => IsRangeIter h it (lo + (i : Nat) * 1) ((n : Int) - (i : Nat)) 1) where
  mem := by simp
  obj := fun i h st b hb => by
    have e : b = it := by simpa using hb
    subst e
    exact ⟨_, st, fun v z => by
      have z' : Data.fields _ = Data.cell v := z
      cases z'⟩
  keep := fun i h h' st k => k it (by simp) _ st
  item := by
    intro X hP hw hK hc i pins s σ H E I hf st hg
    subst hP hw hK
    obtain ⟨f0, f1, f2, f3, f4, f5⟩ := hf it (by simp)
    have W := Walks.range (prog := X.prog) (w := X.w) (I.ok.hd hc) it lo 1 n
    refine W.item i s _ _ hg st fun v h' tk hv st' kk => ?_
    obtain ⟨t, rfl⟩ := hv
    have I1 : Inv X pins σ H { s with heap := h', toks := tk } := I.turned (fun b o hb e => kk b o (by simpa using hb) e) f0 f1 f3 f4 f5
    refine ⟨_, rfl, go_of (s := { s with heap := h', toks := tk }) (n := "range_iterator") st' rfl rfl (by decide) ⟨.int (lo + i), H, I1, ⟨t, ?_⟩, ⟨rfl, rfl⟩, st', fun b hb => (hf b hb).1⟩⟩
    rw [Int.mul_one]
  done := by
    intro X hP hw hK hc i pins s σ H E I hf st hg
    subst hP hw hK
    obtain ⟨f0, f1, f2, f3, f4, f5⟩ := hf it (by simp)
    exact wpAny_pyNext_range_end (I.ok.hd hc) st (by have : n ≤ i := hg; omega) fun h' eb => ⟨rfl, I.turned (t' := s.toks) (fun b o hb e => eb b o hb e) f0 f1 f3 f4 f5⟩
  self := fun _ _ _ _ _ st h => wpAny_pyIter_rangeiter st h
end L2

namespace L2
open PySem PySem.Spec PyProof.Rows
section
variable {X : Cx} {tg : Expr}
def iList (K : PySem.W.Frag) (tl : TE) : TI := fun σ H R => tl σ H fun x H1 => ∃ a, x = .ref a ∧ (∃ xs, SqL K H1 a xs) ∧ R (Itl K a) H1
def iTup (K : PySem.W.Frag) (tl : TE) : TI := fun σ H R => tl σ H fun x H1 => ∃ a, x = .ref a ∧ (∃ xs, SqT K H1 a xs) ∧ R (Itt K a) H1
theorem pi_list {l : Expr} {tl : TE} (hl : PE X l tl) : PI X tg l (iList X.K tl) := by
  intro pins s σ H R I h
  refine thn (hl pins s σ H _ I h) fun v s1 ⟨x, H1, I1, r1, q1⟩ => ?_
  obtain ⟨a, e, ⟨xs, hq⟩, q⟩ := q1
  subst e
  cases r1
  obtain ⟨its, rv, p, hz⟩ := I1.list hq
  refine wpAny_pyIter_list p.isList ?_
  refine ⟨s1.heap.objs.size, [s1.heap.objs.size], _, _, H1, rfl, I1.kept (t' := s1.toks) fun b o e => Heap.get?_push_of_some _ e, turn_list a _, ⟨_, Heap.get?_push_size _ rfl, rfl, rfl⟩, fun b hb => ?_, q⟩
  have e : b = s1.heap.objs.size := by simpa using hb
  subst e
  exact I1.fpOk (Nat.le_refl _) (I1.hok.fresh (Nat.le_refl _))
theorem pi_tup {l : Expr} {tl : TE} (hl : PE X l tl) : PI X tg l (iTup X.K tl) := by
  intro pins s σ H R I h
  refine thn (hl pins s σ H _ I h) fun v s1 ⟨x, H1, I1, r1, q1⟩ => ?_
  obtain ⟨a, e, ⟨xs, hq⟩, q⟩ := q1
  subst e
  cases r1
  obtain ⟨its, rv, p, hz⟩ := I1.tuple hq
  refine wpAny_pyIter_tuple (show s1.heap.IsTuple a its.toArray from p) ?_
  refine ⟨s1.heap.objs.size, [s1.heap.objs.size], _, _, H1, rfl, I1.kept (t' := s1.toks) fun b o e => Heap.get?_push_of_some _ e, turn_tuple a _, ⟨_, Heap.get?_push_size _ rfl, rfl, rfl⟩, fun b hb => ?_, q⟩
  have e : b = s1.heap.objs.size := by simpa using hb
  subst e
  exact I1.fpOk (Nat.le_refl _) (I1.hok.fresh (Nat.le_refl _))
/-- a range object just made, walked -/
theorem range_it {pins : List (Addr × Obj)} {σ : St} {H : Hp} {s : Shared} {R : It → Hp → Prop} {E : Value → Shared → Prop} {lo hi : Int} {t u v : Tok} {tk : Nat} (I : Inv X pins σ H s) (h1 : -(2 ^ 62) ≤ lo) (h2 : lo < 2 ^ 62) (h3 : -(2 ^ 62) ≤ hi) (h4 : hi < 2 ^ 62)
    (q : R (Itr lo (hi - lo).toNat) H) : wpAny (model X.prog X.w) X.A (pyIter (.ref s.heap.objs.size)) (PIE X pins σ tg R) E { s with heap := s.heap.push { cls := .type "range", data := .fields #[.int lo t, .int hi u, .int 1 v] }, toks := tk } := by
  refine wpAny_pyIter_range (IsRange.new ..) (small_one h1 h2 h3 h4) ?_
  have I1 : Inv X pins σ H { s with heap := s.heap.push { cls := .type "range", data := .fields #[.int lo t, .int hi u, .int 1 v] }, toks := tk } := I.kept fun b o e => Heap.get?_push_of_some _ e
  refine ⟨(s.heap.push { cls := .type "range", data := .fields #[.int lo t, .int hi u, .int 1 v] }).objs.size, [(s.heap.push { cls := .type "range", data := .fields #[.int lo t, .int hi u, .int 1 v] }).objs.size], _, _, H, rfl,
    I1.kept (t' := tk) fun b o e => Heap.get?_push_of_some _ e, turn_range _ lo (hi - lo).toNat, ?_, fun b hb => ?_, q⟩
  · have e1 : lo + ((0 : Nat) : Int) * 1 = lo := by simp
    have e2 : (((hi - lo).toNat : Nat) : Int) - ((0 : Nat) : Int) = Builtin.Range.rangeSize lo hi 1 := by rw [rangeSize_one]; split <;> omega
    show IsRangeIter _ _ (lo + ((0 : Nat) : Int) * 1) ((((hi - lo).toNat : Nat) : Int) - ((0 : Nat) : Int)) 1
    rw [e1, e2]
    exact Heap.get?_push_size _ rfl
  · have e : b = (s.heap.push { cls := .type "range", data := .fields #[.int lo t, .int hi u, .int 1 v] }).objs.size := by simpa using hb
    subst e
    exact I1.fpOk (Nat.le_refl _) (I1.hok.fresh (Nat.le_refl _))
def iRng1 (ta : TA) : TI := fun σ H R => ta σ H fun vs H1 => ∃ j : Int, vs = [.int j] ∧ -(2 ^ 62) ≤ j ∧ j < 2 ^ 62 ∧ R (Itr 0 j.toNat) H1
def iRng2 (ta : TA) : TI := fun σ H R => ta σ H fun vs H1 => ∃ i j : Int, vs = [.int i, .int j] ∧ (-(2 ^ 62) ≤ i ∧ i < 2 ^ 62 ∧ -(2 ^ 62) ≤ j ∧ j < 2 ^ 62) ∧ R (Itr i (j - i).toNat) H1
theorem pi_range1 {a : Expr} {ta : TA} {p pos : Pos} (hg : Gl X "range") (hm : X.mg "range" = none) (ha : PA X [a] ta) (hs : starEach [a] X.env = [(false, eval a X.env)] := by rfl) : PI X tg (.Call (.Name "range" p) [a] [] pos) (iRng1 ta) := by
  intro pins s σ H R I h
  refine Call_ (ld_blt I hg hm boot_range (PyProof.Rows.callWith_type1 (thn (ha pos pins s σ H _ I h) fun us s1 ⟨vs, H1, I1, r1, q1⟩ => ?_) hs rfl))
  obtain ⟨j, e, q1, q2, q⟩ := q1
  subst e
  cases r1 with
  | cons r rr =>
    cases rr
    obtain ⟨t, rfl⟩ := r
    exact call_range_1 (range_it I1 (by omega) (by omega) q1 q2 (by simpa using q))
theorem pi_range2 {a b : Expr} {ta : TA} {p pos : Pos} (hg : Gl X "range") (hm : X.mg "range" = none) (ha : PA X [a, b] ta) (hs : starEach [a, b] X.env = [(false, eval a X.env), (false, eval b X.env)] := by rfl) (hs2 : starEach [b] X.env = [(false, eval b X.env)] := by rfl) :
    PI X tg (.Call (.Name "range" p) [a, b] [] pos) (iRng2 ta) := by
  intro pins s σ H R I h
  refine Call_ (ld_blt I hg hm boot_range (PyProof.Rows.callWith_type1 (thn (ha pos pins s σ H _ I h) fun us s1 ⟨vs, H1, I1, r1, q1⟩ => ?_) (by rw [hs, hs2]) (by rw [hs2]; rfl)))
  obtain ⟨i, j, e, ⟨q1, q2, q3, q4⟩, q⟩ := q1
  subst e
  cases r1 with
  | cons r rr =>
    cases rr with
    | cons r' rr =>
      cases rr
      obtain ⟨t, rfl⟩ := r
      obtain ⟨t', rfl⟩ := r'
      exact call_range_2 (range_it I1 q1 q2 q3 q4 q)

/-! ### for -/
/-- W: the invariant by the turn and a measure; N: what the body is to reach -/
def tFor (wi : TI) (g : TG) (tb : TS) : TS := fun D σ H => wi σ H fun J H1 => ∃ W : Nat → Nat → St → Hp → Prop, (∃ m, W 0 m σ H1) ∧ ∀ i m σ H, W i m σ H →
  (J.stop i H ∧ D.nx σ H) ∨ (J.go i H ∧ ∃ N : St → Hp → Prop, (∀ σ' H', N σ' H' → ∃ m', m' < m ∧ W (i + 1) m' σ' H') ∧ ∀ x H', J.yld i H x H' → g x σ H' fun σ2 H2 => tb { D with nx := N, ct := N, bk := D.nx } σ2 H2)
/-- the records at fp as they stand -/
def pinsAt (fp : List Addr) (h : Heap) : List (Addr × Obj) := fp.filterMap fun b => (h.get? b).map fun o => (b, o)
theorem mem_pinsAt {fp : List Addr} {h : Heap} {b : Addr} {o : Obj} (hb : b ∈ fp) (e : h.get? b = some o) : (b, o) ∈ pinsAt fp h := List.mem_filterMap.mpr ⟨b, hb, by rw [e]; rfl⟩
theorem of_pinsAt {fp : List Addr} {h : Heap} {p : Addr × Obj} (hp : p ∈ pinsAt fp h) : p.1 ∈ fp ∧ h.get? p.1 = some p.2 := by
  obtain ⟨b, hb, e⟩ := List.mem_filterMap.mp hp
  cases q : h.get? b with
  | none => rw [q] at e; cases e
  | some o =>
    rw [q] at e
    have e' : (b, o) = p := Option.some.inj e
    subst e'
    exact ⟨hb, q⟩
theorem Inv.pinned {pins : List (Addr × Obj)} {σ : St} {H : Hp} {s : Shared} {fp : List Addr} (I : Inv X pins σ H s) (hf : ∀ b ∈ fp, FpOk X pins H b) (ho : ∀ b ∈ fp, ∃ o, s.heap.get? b = some o ∧ ∀ v, o.data ≠ .cell v) : Inv X (pins ++ pinsAt fp s.heap) σ H s :=
  I.pins_of fun p hp => (List.mem_append.mp hp).elim (fun z => I.pin p (List.mem_append_right _ z)) fun z => by
    obtain ⟨hb, e⟩ := of_pinsAt z
    obtain ⟨f0, f1, f2, _⟩ := hf p.1 hb
    obtain ⟨o, e', d⟩ := ho p.1 hb
    rw [e] at e'; cases e'
    exact ⟨e, f0, f1, f2, d⟩
theorem Inv.unpinned {pins pl : List (Addr × Obj)} {σ : St} {H : Hp} {s : Shared} (I : Inv X (pins ++ pl) σ H s) : Inv X pins σ H s := I.pins_of fun p hp => I.pin p (List.mem_append_right _ (List.mem_append_left _ hp))
theorem ps_for {iter : Expr} {body : List Stmt} {wi : TI} {g : TG} {tb : TS} {pos : Pos} (hp : PassesOwn (model X.prog X.w) X.A X.env X.xe) (hc : X.calm = true) (hi : PI X tg iter wi) (hg : PG X tg g) (hb : PSs X body tb)
    (hs : ∀ x, foldedSetIterable iter X.env x = pure x := by intro _; rfl) : PS X (.For tg iter body [] pos) (tFor wi g tb) := by
  intro pins s σ H D I h
  refine wpAny_For (thn (hi pins s σ H _ I h) fun v s1 h1 => thn h1 fun itv s2 h2 => ?_) hs
  obtain ⟨it, fp, tn, J, H2, e, I2, T, st2, f2, W, ⟨m0, w0⟩, turn⟩ := h2
  subst e
  -- what stays true of the iterator's objects through the loop
  have stat : ∀ {H' : Hp}, (∀ b ∈ fp, H' b = none) → ∀ b ∈ fp, FpOk X pins H' b := fun hn b hb => ⟨hn b hb, (f2 b hb).2⟩
  refine codeAny_forLoop_any (fun n s' => ∃ i σ' H', Inv X pins σ' H' s' ∧ tn i s'.heap ∧ (∀ b ∈ fp, H' b = none) ∧ W i n σ' H') ?_ m0 ⟨0, σ, H2, I2, st2, fun b hb => (f2 b hb).1, w0⟩
  rintro n s3 ⟨i, σ3, H3, I3, st3, fr3, w3⟩
  rcases turn i n σ3 H3 w3 with ⟨stop, qn⟩ | ⟨go, N, hN, step⟩
  · refine wpAny_passesOwn hp (thn (T.done X rfl rfl rfl hc i pins s3 σ3 H3 X.xe I3 (stat fr3) st3 stop) fun r s4 ⟨hr, I4⟩ => ?_)
    subst hr
    exact wpAny_execs_nil ⟨σ3, H3, I4, qn⟩
  · refine wpAny_passesOwn hp (thn (T.item X rfl rfl rfl hc i pins s3 σ3 H3 X.xe I3 (stat fr3) st3 go) fun r s4 ⟨u, hr, h4⟩ => ?_)
    subst hr
    refine wpAny_passesOwn hp (thn h4 fun _ s5 ⟨x, H5, I5, r5, y5, st5, fr5⟩ => ?_)
    have I5' := I5.pinned (stat fr5) (T.obj _ _ st5)
    refine wpAny_passesOwn hp (thn (hg _ s5 σ3 H5 x u _ I5' r5 (step x H5 y5)) fun _ s6 ⟨σ6, H6, I6, q6⟩ => ?_)
    refine wpAny_passesOwn hp (thn (hb _ s6 σ6 H6 _ I6 q6) fun f s7 q7 => ?_)
    have again : ∀ {σ7 : St} {H7 : Hp}, Inv X (pins ++ pinsAt fp s5.heap) σ7 H7 s7 → N σ7 H7 → ∃ m, m < n ∧ ∃ i σ' H', Inv X pins σ' H' s7 ∧ tn i s7.heap ∧ (∀ b ∈ fp, H' b = none) ∧ W i m σ' H' := fun {σ7 H7} I7 n7 => by
      obtain ⟨m', hm, w7⟩ := hN σ7 H7 n7
      refine ⟨m', hm, i + 1, σ7, H7, I7.unpinned, T.keep _ _ _ st5 fun b hb o e => (I7.pin (b, o) (List.mem_append_right _ (List.mem_append_right _ (mem_pinsAt hb e)))).1, fun b hb => ?_, w7⟩
      obtain ⟨o, e, d⟩ := T.obj _ _ st5 b hb
      exact (I7.pin (b, o) (List.mem_append_right _ (List.mem_append_right _ (mem_pinsAt hb e)))).2.1
    cases f with
    | next => obtain ⟨σ7, H7, I7, n7⟩ := q7; exact again I7 n7
    | cont => obtain ⟨σ7, H7, I7, n7⟩ := q7; exact again I7 n7
    | brk => obtain ⟨σ7, H7, I7, q7⟩ := q7; exact ⟨σ7, H7, I7.unpinned, q7⟩
    | ret v => obtain ⟨x7, σ7, H7, I7, r7, q7⟩ := q7; exact ⟨x7, σ7, H7, I7.unpinned, r7, q7⟩
end

/-! ### the forms one uses -/
/-- over a list that the body leaves as it is -/
theorem for_list {K : PySem.W.Frag} {a : Addr} {xs : List V} {g : TG} {tb : TS} {D : Ends} {σ : St} {H : Hp} (Pv : Nat → St → Hp → Prop) (h0 : Pv 0 σ H) (hl : ∀ i σ H, i ≤ xs.length → Pv i σ H → SqL K H a xs)
    (hs : ∀ i x σ H, xs[i]? = some x → Pv i σ H → g x σ H fun σ2 H2 => tb { D with nx := Pv (i + 1), ct := Pv (i + 1), bk := D.nx } σ2 H2) (hd : ∀ σ H, Pv xs.length σ H → D.nx σ H) :
    ∃ W : Nat → Nat → St → Hp → Prop, (∃ m, W 0 m σ H) ∧ ∀ i m σ H, W i m σ H →
      ((Itl K a).stop i H ∧ D.nx σ H) ∨ ((Itl K a).go i H ∧ ∃ N : St → Hp → Prop, (∀ σ' H', N σ' H' → ∃ m', m' < m ∧ W (i + 1) m' σ' H') ∧ ∀ x H', (Itl K a).yld i H x H' → g x σ H' fun σ2 H2 => tb { D with nx := N, ct := N, bk := D.nx } σ2 H2) := by
  refine ⟨fun i m σ H => m = xs.length - i ∧ i ≤ xs.length ∧ Pv i σ H, ⟨xs.length, by simp, Nat.zero_le _, h0⟩, ?_⟩
  rintro i m σ H ⟨rfl, hi, p⟩
  have q := hl i σ H hi p
  by_cases hlt : i < xs.length
  · refine .inr ⟨⟨xs, xs[i], q, by simp [hlt]⟩, Pv (i + 1), fun σ' H' p' => ⟨xs.length - (i + 1), by omega, rfl, hlt, p'⟩, fun x H' y => ?_⟩
    obtain ⟨e, y⟩ := y
    subst e
    exact hs i x σ _ (y xs q) p
  · have e : i = xs.length := by omega
    subst e
    exact .inl ⟨⟨xs, q, Nat.le_refl _⟩, hd σ H p⟩
theorem for_tup {K : PySem.W.Frag} {a : Addr} {xs : List V} {g : TG} {tb : TS} {D : Ends} {σ : St} {H : Hp} (Pv : Nat → St → Hp → Prop) (h0 : Pv 0 σ H) (hl : ∀ i σ H, i ≤ xs.length → Pv i σ H → SqT K H a xs)
    (hs : ∀ i x σ H, xs[i]? = some x → Pv i σ H → g x σ H fun σ2 H2 => tb { D with nx := Pv (i + 1), ct := Pv (i + 1), bk := D.nx } σ2 H2) (hd : ∀ σ H, Pv xs.length σ H → D.nx σ H) :
    ∃ W : Nat → Nat → St → Hp → Prop, (∃ m, W 0 m σ H) ∧ ∀ i m σ H, W i m σ H →
      ((Itt K a).stop i H ∧ D.nx σ H) ∨ ((Itt K a).go i H ∧ ∃ N : St → Hp → Prop, (∀ σ' H', N σ' H' → ∃ m', m' < m ∧ W (i + 1) m' σ' H') ∧ ∀ x H', (Itt K a).yld i H x H' → g x σ H' fun σ2 H2 => tb { D with nx := N, ct := N, bk := D.nx } σ2 H2) := by
  refine ⟨fun i m σ H => m = xs.length - i ∧ i ≤ xs.length ∧ Pv i σ H, ⟨xs.length, by simp, Nat.zero_le _, h0⟩, ?_⟩
  rintro i m σ H ⟨rfl, hi, p⟩
  have q := hl i σ H hi p
  by_cases hlt : i < xs.length
  · refine .inr ⟨⟨xs, xs[i], q, by simp [hlt]⟩, Pv (i + 1), fun σ' H' p' => ⟨xs.length - (i + 1), by omega, rfl, hlt, p'⟩, fun x H' y => ?_⟩
    obtain ⟨e, y⟩ := y
    subst e
    exact hs i x σ _ (y xs q) p
  · have e : i = xs.length := by omega
    subst e
    exact .inl ⟨⟨xs, q, Nat.le_refl _⟩, hd σ H p⟩
theorem for_range {lo : Int} {n : Nat} {g : TG} {tb : TS} {D : Ends} {σ : St} {H : Hp} (Pv : Nat → St → Hp → Prop) (h0 : Pv 0 σ H)
    (hs : ∀ i σ H, i < n → Pv i σ H → g (.int (lo + i)) σ H fun σ2 H2 => tb { D with nx := Pv (i + 1), ct := Pv (i + 1), bk := D.nx } σ2 H2) (hd : ∀ σ H, Pv n σ H → D.nx σ H) :
    ∃ W : Nat → Nat → St → Hp → Prop, (∃ m, W 0 m σ H) ∧ ∀ i m σ H, W i m σ H →
      ((Itr lo n).stop i H ∧ D.nx σ H) ∨ ((Itr lo n).go i H ∧ ∃ N : St → Hp → Prop, (∀ σ' H', N σ' H' → ∃ m', m' < m ∧ W (i + 1) m' σ' H') ∧ ∀ x H', (Itr lo n).yld i H x H' → g x σ H' fun σ2 H2 => tb { D with nx := N, ct := N, bk := D.nx } σ2 H2) := by
  refine ⟨fun i m σ H => m = n - i ∧ i ≤ n ∧ Pv i σ H, ⟨n, by simp, Nat.zero_le _, h0⟩, ?_⟩
  rintro i m σ H ⟨rfl, hi, p⟩
  by_cases hlt : i < n
  · refine .inr ⟨hlt, Pv (i + 1), fun σ' H' p' => ⟨n - (i + 1), by omega, rfl, hlt, p'⟩, fun x H' y => ?_⟩
    obtain ⟨e, y⟩ := y
    subst e y
    exact hs i σ _ hlt p
  · have e : i = n := by omega
    subst e
    exact .inl ⟨Nat.le_refl _, hd σ H p⟩
/-- while, by a word and a measure of the state -/
theorem while_by {c : TT} {tb : TS} {D : Ends} {σ : St} {H : Hp} (Pv : St → Hp → Prop) (μ : St → Hp → Nat) (h0 : Pv σ H)
    (hs : ∀ σ H, Pv σ H → c σ H fun b H1 => if b = true then tb { D with nx := fun σ' H' => Pv σ' H' ∧ μ σ' H' < μ σ H, ct := fun σ' H' => Pv σ' H' ∧ μ σ' H' < μ σ H, bk := D.nx } σ H1 else D.nx σ H1)
    (mono : ∀ σ H Q Q', (∀ b H1, Q b H1 → Q' b H1) → c σ H Q → c σ H Q') : tWhile c tb D σ H := by
  refine ⟨fun m σ H => m = μ σ H ∧ Pv σ H, ⟨_, rfl, h0⟩, ?_⟩
  rintro m σ H ⟨rfl, p⟩
  refine mono σ H _ _ (fun b H1 q => ?_) (hs σ H p)
  cases b with
  | true => exact ⟨_, fun σ' H' ⟨p', l⟩ => ⟨_, l, rfl, p'⟩, q⟩
  | false => exact q
end L2

namespace L2
open PySem PySem.Spec PyProof.Rows

abbrev R2 := V → V → Hp → VK → Prop
/-- a two-place operation on values: f is binaryOp op, inplaceOp op or compareOp op -/
def OpR (X : Cx) (f : Value → Value → Sem Value) (r : R2) : Prop :=
  ∀ (pins : List (Addr × Obj)) (s : Shared) (σ : St) (H : Hp) (x y : V) (v u : Value) (Q : VK), Inv X pins σ H s → RelV x v → RelV y u → r x y H Q →
    wpAny (model X.prog X.w) X.A (f v u) (EP X pins σ Q) X.xe s
/-- a one-place operation -/
def UnR (X : Cx) (f : Value → Sem Value) (r : V → Hp → VK → Prop) : Prop :=
  ∀ (pins : List (Addr × Obj)) (s : Shared) (σ : St) (H : Hp) (x : V) (v : Value) (Q : VK), Inv X pins σ H s → RelV x v → r x H Q →
    wpAny (model X.prog X.w) X.A (f v) (EP X pins σ Q) X.xe s
/-- a call of a value that is known (a builtin, a type) with values -/
def CallR (X : Cx) (f : Value) (r : List V → Hp → VK → Prop) : Prop :=
  ∀ (pins : List (Addr × Obj)) (s : Shared) (σ : St) (H : Hp) (xs : List V) (us : List Value) (Q : VK), Inv X pins σ H s → Vals xs us → r xs H Q →
    wpAny (model X.prog X.w) X.A (call f us) (EP X pins σ Q) X.xe s
/-- a value's truth -/
def TruR (X : Cx) (r : V → Hp → (Bool → Hp → Prop) → Prop) : Prop :=
  ∀ (pins : List (Addr × Obj)) (s : Shared) (σ : St) (H : Hp) (x : V) (v : Value) (Q : Bool → Hp → Prop), Inv X pins σ H s → RelV x v → r x H Q →
    wpAny (model X.prog X.w) X.A (truthy v) (TP X pins σ Q) X.xe s

def tOp (r : R2) (ta tb : TE) : TE := fun σ H Q => ta σ H fun x H1 => tb σ H1 fun y H2 => r x y H2 Q
def tUn (r : V → Hp → VK → Prop) (ta : TE) : TE := fun σ H Q => ta σ H fun x H1 => r x H1 Q
/-- ints in, under C, and a value out -/
def rI (C : Int → Int → Prop) (g : Int → Int → V) : R2 := fun x y H Q => ∃ i j, x = .int i ∧ y = .int j ∧ C i j ∧ Q (g i j) H
def rI0 (g : Int → Int → V) : R2 := fun x y H Q => ∃ i j, x = .int i ∧ y = .int j ∧ Q (g i j) H
def rU (g : Int → V) : V → Hp → VK → Prop := fun x H Q => ∃ i, x = .int i ∧ Q (g i) H

section
variable {X : Cx} {a b c : Expr} {ta tb tc : TE} {pos : Pos}

theorem binT (ha : PE X a ta) (hb : PE X b tb) {pins : List (Addr × Obj)} {s : Shared} {σ : St} {H : Hp} {R : V → V → Hp → Prop} (I : Inv X pins σ H s)
    (h : ta σ H fun x H1 => tb σ H1 fun y H2 => R x y H2) {Q : Value → Shared → Prop} {f : Value → Value → Sem Value}
    (hf : ∀ v u s2 x y H2, Inv X pins σ H2 s2 → RelV x v → RelV y u → R x y H2 → wpAny (model X.prog X.w) X.A (f v u) Q X.xe s2) :
    wpAny (model X.prog X.w) X.A (eval a X.env) (fun v s₁ => wpAny (model X.prog X.w) X.A (eval b X.env) (fun u s₂ => wpAny (model X.prog X.w) X.A (f v u) Q X.xe s₂) X.xe s₁) X.xe s := by
  refine thn (ha pins s σ H _ I h) fun v s1 ⟨x, H1, I1, r1, q1⟩ => ?_
  refine thn (hb pins s1 σ H1 _ I1 q1) fun u s2 ⟨y, H2, I2, r2, q2⟩ => ?_
  exact hf v u s2 x y H2 I2 r1 r2 q2

theorem pe_op {op : Operator} {r : R2} (ho : OpR X (binaryOp op) r) (ha : PE X a ta) (hb : PE X b tb) : PE X (.BinOp a op b pos) (tOp r ta tb) := by
  intro pins s σ H Q I h
  exact wpAny_BinOp (binT ha hb I h fun v u s2 x y H2 I2 rx ry q => ho pins s2 σ H2 x y v u Q I2 rx ry q)
theorem pe_un {op : UnaryOp} {r : V → Hp → VK → Prop} (ho : UnR X (unaryOp op) r) (ha : PE X a ta) : PE X (.UnaryOp op a pos) (tUn r ta) := by
  intro pins s σ H Q I h
  exact UnaryOp_ (thn (ha pins s σ H _ I h) fun v s1 ⟨x, H1, I1, r1, q1⟩ => ho pins s1 σ H1 x v Q I1 r1 q1)
/-- a op= e at a name: the name's slot i -/
theorem augR {op : Operator} {r : R2} (ho : OpR X (inplaceOp op) r) {pins : List (Addr × Obj)} {s : Shared} {σ : St} {H : Hp} {x y : V} {v u : Value} {Q : VK} (I : Inv X pins σ H s)
    (rx : RelV x v) (ry : RelV y u) (q : r x y H Q) : wpAny (model X.prog X.w) X.A (inplaceOp op v u) (EP X pins σ Q) X.xe s := ho pins s σ H x y v u Q I rx ry q

/-! ### ints -/
theorem opI {f : Value → Value → Sem Value} {C : Int → Int → Prop} {g : Int → Int → Int}
    (rule : ∀ (i j : Int) (t u : Tok) (s : Shared) (Q : Value → Shared → Prop) (E : Value → Shared → Prop), C i j → Q (.int (g i j) s.toks) { s with toks := s.toks + 1 } → wpAny (model X.prog X.w) X.A (f (.int i t) (.int j u)) Q E s) :
    OpR X f (rI C fun i j => .int (g i j)) := by
  intro pins s σ H x y v u Q I rx ry h
  obtain ⟨i, j, rfl, rfl, hc, q⟩ := h
  obtain ⟨t, rfl⟩ := rx
  obtain ⟨t', rfl⟩ := ry
  exact rule i j t t' s _ _ hc ⟨.int (g i j), H, I.tok _, ⟨_, rfl⟩, q⟩
theorem opI0 {f : Value → Value → Sem Value} {g : Int → Int → Int}
    (rule : ∀ (i j : Int) (t u : Tok) (s : Shared) (Q : Value → Shared → Prop) (E : Value → Shared → Prop), Q (.int (g i j) s.toks) { s with toks := s.toks + 1 } → wpAny (model X.prog X.w) X.A (f (.int i t) (.int j u)) Q E s) :
    OpR X f (rI0 fun i j => .int (g i j)) := by
  intro pins s σ H x y v u Q I rx ry h
  obtain ⟨i, j, rfl, rfl, q⟩ := h
  obtain ⟨t, rfl⟩ := rx
  obtain ⟨t', rfl⟩ := ry
  exact rule i j t t' s _ _ ⟨.int (g i j), H, I.tok _, ⟨_, rfl⟩, q⟩
theorem opB0 {f : Value → Value → Sem Value} {g : Int → Int → Bool}
    (rule : ∀ (i j : Int) (t u : Tok) (s : Shared) (Q : Value → Shared → Prop) (E : Value → Shared → Prop), Q (.bool (g i j)) s → wpAny (model X.prog X.w) X.A (f (.int i t) (.int j u)) Q E s) :
    OpR X f (rI0 fun i j => .bl (g i j)) := by
  intro pins s σ H x y v u Q I rx ry h
  obtain ⟨i, j, rfl, rfl, q⟩ := h
  obtain ⟨t, rfl⟩ := rx
  obtain ⟨t', rfl⟩ := ry
  exact rule i j t t' s _ _ ⟨.bl (g i j), H, I, rfl, q⟩

def CDiv (i j : Int) : Prop := 0 < j ∧ j < 1073741824
def CDivN (i j : Int) : Prop := j ≠ 0 ∧ j.natAbs < 1073741824
def CPow (i j : Int) : Prop := 0 ≤ j ∧ j ≤ 1000000 ∧ i.natAbs < 2 ^ 64
def CMul (i j : Int) : Prop := (-(2 ^ 64) < i ∧ i < 2 ^ 64) ∨ (-(2 ^ 64) < j ∧ j < 2 ^ 64)
theorem CMul.ok {i j : Int} (h : CMul i j) : IntMulOk i j := by
  rcases h with ⟨h1, h2⟩ | ⟨h1, h2⟩
  · exact .of_left (intBits_le_64 h1 h2)
  · exact .of_right (intBits_le_64 h1 h2)
theorem two_pow_nn (k : Nat) : (0 : Int) ≤ 2 ^ k := by
  rw [two_pow_cast]
  exact Int.natCast_nonneg _

theorem op_add : OpR X (binaryOp .Add) (rI0 fun i j => .int (i + j)) := opI0 fun _ _ _ _ _ _ _ q => add_int q
theorem op_sub : OpR X (binaryOp .Sub) (rI0 fun i j => .int (i - j)) := opI0 fun _ _ _ _ _ _ _ q => sub_int q
theorem op_mul : OpR X (binaryOp .Mult) (rI CMul fun i j => .int (i * j)) := opI fun _ _ _ _ _ _ _ hc q => mul_int q hc.ok
/-- // by a positive divisor -/
theorem op_fdiv : OpR X (binaryOp .FloorDiv) (rI CDiv fun i j => .int (i / j)) := opI fun i j _ _ _ _ _ hc q => by
  have h1 : (0 : Int) < j := hc.1
  have h2 : j < 1073741824 := hc.2
  exact floordiv_int (by omega) (by rw [Int.fdiv_eq_ediv_of_nonneg i (by omega)]; exact q) (.inl (PyProof.noPylong_small (by omega)))
theorem op_fdivN : OpR X (binaryOp .FloorDiv) (rI CDivN fun i j => .int (i.fdiv j)) := opI fun _ _ _ _ _ _ _ hc q => floordiv_int hc.1 q (.inl (PyProof.noPylong_small hc.2))
/-- % by a positive divisor of any size -/
theorem op_mod : OpR X (binaryOp .Mod) (rI (fun _ j => 0 < j) fun i j => .int (i % j)) := opI fun i j _ _ _ _ _ hc q => by
  have h1 : (0 : Int) < j := hc
  exact mod_int' (by omega) (by rw [Int.fmod_eq_emod_of_nonneg i (by omega)]; exact q)
theorem op_modN : OpR X (binaryOp .Mod) (rI (fun _ j => j ≠ 0) fun i j => .int (i.fmod j)) := opI fun _ _ _ _ _ _ _ hc q => mod_int' hc q
theorem op_pow : OpR X (binaryOp .Pow) (rI CPow fun i j => .int (i ^ j.toNat)) := opI fun _ _ _ _ _ _ _ hc q => pow_int_small hc.1 hc.2.1 hc.2.2 q
theorem op_shl : OpR X (binaryOp .LShift) (rI CPow fun i j => .int (i * 2 ^ j.toNat)) := opI fun _ _ _ _ _ _ _ hc q => lshift_int_small hc.1 hc.2.1 hc.2.2 q
theorem op_shr : OpR X (binaryOp .RShift) (rI (fun _ j => 0 ≤ j) fun i j => .int (i / 2 ^ j.toNat)) := opI fun i j _ _ _ _ _ hc q =>
  rshift_int hc (by rw [Int.fdiv_eq_ediv_of_nonneg i (two_pow_nn _)]; exact q)
theorem op_and : OpR X (binaryOp .BitAnd) (rI0 fun i j => .int (Builtin.bitAnd i j)) := opI0 fun _ _ _ _ _ _ _ q => and_int q
theorem op_or : OpR X (binaryOp .BitOr) (rI0 fun i j => .int (Builtin.bitOr i j)) := opI0 fun _ _ _ _ _ _ _ q => or_int q
theorem op_xor : OpR X (binaryOp .BitXor) (rI0 fun i j => .int (Builtin.bitXor i j)) := opI0 fun _ _ _ _ _ _ _ q => xor_int q

theorem iop_add : OpR X (inplaceOp .Add) (rI0 fun i j => .int (i + j)) := opI0 fun _ _ _ _ _ _ _ q => iadd_int q
theorem iop_sub : OpR X (inplaceOp .Sub) (rI0 fun i j => .int (i - j)) := opI0 fun _ _ _ _ _ _ _ q => isub_int q
theorem iop_mul : OpR X (inplaceOp .Mult) (rI CMul fun i j => .int (i * j)) := opI fun _ _ _ _ _ _ _ hc q => imul_int q hc.ok
theorem iop_fdiv : OpR X (inplaceOp .FloorDiv) (rI CDiv fun i j => .int (i / j)) := opI fun i j _ _ _ _ _ hc q => by
  have h1 : (0 : Int) < j := hc.1
  have h2 : j < 1073741824 := hc.2
  exact ifloordiv_int (by omega) (by rw [Int.fdiv_eq_ediv_of_nonneg i (by omega)]; exact q) (.inl (PyProof.noPylong_small (by omega)))
theorem iop_mod : OpR X (inplaceOp .Mod) (rI (fun _ j => 0 < j) fun i j => .int (i % j)) := opI fun i j _ _ _ _ _ hc q => by
  have h1 : (0 : Int) < j := hc
  exact imod_int (by omega) (by rw [Int.fmod_eq_emod_of_nonneg i (by omega)]; exact q)
theorem iop_shl : OpR X (inplaceOp .LShift) (rI CPow fun i j => .int (i * 2 ^ j.toNat)) := opI fun _ _ _ _ _ _ _ hc q => ilshift_int_small hc.1 hc.2.1 hc.2.2 q
theorem iop_shr : OpR X (inplaceOp .RShift) (rI (fun _ j => 0 ≤ j) fun i j => .int (i / 2 ^ j.toNat)) := opI fun i j _ _ _ _ _ hc q =>
  irshift_int hc (by rw [Int.fdiv_eq_ediv_of_nonneg i (two_pow_nn _)]; exact q)
theorem iop_and : OpR X (inplaceOp .BitAnd) (rI0 fun i j => .int (Builtin.bitAnd i j)) := opI0 fun _ _ _ _ _ _ _ q => iand_int q
theorem iop_or : OpR X (inplaceOp .BitOr) (rI0 fun i j => .int (Builtin.bitOr i j)) := opI0 fun _ _ _ _ _ _ _ q => ior_int q
theorem iop_xor : OpR X (inplaceOp .BitXor) (rI0 fun i j => .int (Builtin.bitXor i j)) := opI0 fun _ _ _ _ _ _ _ q => ixor_int q

theorem unI {f : Value → Sem Value} {g : Int → Int}
    (rule : ∀ (i : Int) (t : Tok) (s : Shared) (Q : Value → Shared → Prop) (E : Value → Shared → Prop), Q (.int (g i) s.toks) { s with toks := s.toks + 1 } → wpAny (model X.prog X.w) X.A (f (.int i t)) Q E s) :
    UnR X f (rU fun i => .int (g i)) := by
  intro pins s σ H x v Q I rx h
  obtain ⟨i, rfl, q⟩ := h
  obtain ⟨t, rfl⟩ := rx
  exact rule i t s _ _ ⟨.int (g i), H, I.tok _, ⟨_, rfl⟩, q⟩
theorem un_neg : UnR X (unaryOp .USub) (rU fun i => .int (-i)) := unI fun _ _ _ _ _ q => neg_int q
theorem un_inv : UnR X (unaryOp .Invert) (rU fun i => .int (Builtin.bitNot i)) := unI fun _ _ _ _ _ q => invert_int q

/-! ### bools among ints: n += (a < b) -/
theorem op_add_ib : OpR X (binaryOp .Add) (fun x y H Q => ∃ i k, x = .int i ∧ y = .bl k ∧ Q (.int (i + b2i k)) H) := by
  intro pins s σ H x y v u Q I rx ry h
  obtain ⟨i, k, rfl, rfl, q⟩ := h
  obtain ⟨t, rfl⟩ := rx
  cases ry
  exact add_int_bool ⟨.int (i + b2i k), H, I.tok _, ⟨_, rfl⟩, q⟩
end

/-! ### comparisons -/
/-- the scalars that == tells apart as data does -/
def scal : V → V → Bool
  | .non, .non => true | .non, .int _ => true | .int _, .non => true | .non, .bl _ => true | .bl _, .non => true | .non, .str _ => true | .str _, .non => true
  | .int _, .int _ => true | .bl _, .bl _ => true | .str _, .str _ => true | .byt _, .byt _ => true
  | .int _, .str _ => true | .str _, .int _ => true | .bl _, .str _ => true | .str _, .bl _ => true
  | _, _ => false
def rEq : R2 := fun x y H Q => scal x y = true ∧ Q (.bl (decide (x = y))) H
def rNe : R2 := fun x y H Q => scal x y = true ∧ Q (.bl (!decide (x = y))) H

theorem dec_int {i j : Int} : decide (V.int i = V.int j) = (i == j) := by
  rw [Bool.eq_iff_iff]
  simp
theorem dec_bl {i j : Bool} : decide (V.bl i = V.bl j) = (i == j) := by
  rw [Bool.eq_iff_iff]
  simp
theorem dec_str {i j : Str} : decide (V.str i = V.str j) = (i == j) := by
  rw [Bool.eq_iff_iff]
  simp
theorem dec_byt {i j : Array UInt8} : decide (V.byt i = V.byt j) = (i.toList == j.toList) := by
  rw [Bool.eq_iff_iff]
  cases i
  cases j
  simp

section
variable {X : Cx} {a b c : Expr} {ta tb tc : TE} {pos : Pos}
theorem fin_bl {pins : List (Addr × Obj)} {σ : St} {H : Hp} {s : Shared} {Q : VK} {k k' : Bool} (I : Inv X pins σ H s) (q : Q (.bl k) H) (e : k = k') : EP X pins σ Q (.bool k') s := by
  subst e
  exact ⟨.bl k, H, I, rfl, q⟩
theorem op_eq : OpR X (compareOp .Eq) rEq := by
  intro pins s σ H x y v u Q I rx ry h
  obtain ⟨hs, q⟩ := h
  cases x with
  | non =>
    cases rx
    cases y with
    | non => cases ry; exact PySem.EqNone.eq_none_none (fin_bl I q (by simp))
    | bl j => cases ry; exact PySem.EqNone.eq_none_bool (fin_bl I q (by simp))
    | int j => obtain ⟨t', rfl⟩ := ry; exact PySem.EqNone.eq_none_int (fin_bl I q (by simp))
    | str j => obtain ⟨t', rfl⟩ := ry; exact PySem.EqNone.eq_none_str (fin_bl I q (by simp))
    | _ => exact absurd (show false = true from hs) Bool.false_ne_true
  | bl i =>
    cases rx
    cases y with
    | non => cases ry; exact PySem.EqNone.eq_bool_none (fin_bl I q (by simp))
    | bl j => cases ry; exact eq_bool (fin_bl I q dec_bl)
    | str j => obtain ⟨t', rfl⟩ := ry; exact PySem.EqMixed.eq_bool_str (fin_bl I q (by simp))
    | _ => exact absurd (show false = true from hs) Bool.false_ne_true
  | int i =>
    obtain ⟨t, rfl⟩ := rx
    cases y with
    | non => cases ry; exact PySem.EqNone.eq_int_none (fin_bl I q (by simp))
    | int j => obtain ⟨t', rfl⟩ := ry; exact eq_int (fin_bl I q dec_int)
    | str j => obtain ⟨t', rfl⟩ := ry; exact PySem.EqMixed.eq_int_str (fin_bl I q (by simp))
    | _ => exact absurd (show false = true from hs) Bool.false_ne_true
  | str i =>
    obtain ⟨t, rfl⟩ := rx
    cases y with
    | non => cases ry; exact PySem.EqNone.eq_str_none (fin_bl I q (by simp))
    | bl j => cases ry; exact PySem.EqMixed.eq_str_bool (fin_bl I q (by simp))
    | int j => obtain ⟨t', rfl⟩ := ry; exact PySem.EqMixed.eq_str_int (fin_bl I q (by simp))
    | str j => obtain ⟨t', rfl⟩ := ry; exact eq_str (fin_bl I q dec_str)
    | _ => exact absurd (show false = true from hs) Bool.false_ne_true
  | byt i =>
    obtain ⟨t, rfl⟩ := rx
    cases y with
    | byt j => obtain ⟨t', rfl⟩ := ry; exact PySem.W.eq_bytes (fin_bl I q dec_byt)
    | _ => exact absurd (show false = true from hs) Bool.false_ne_true
  | _ => cases y <;> exact absurd (show false = true from hs) Bool.false_ne_true
theorem op_ne : OpR X (compareOp .NotEq) rNe := by
  intro pins s σ H x y v u Q I rx ry h
  obtain ⟨hs, q⟩ := h
  cases x with
  | non =>
    cases rx
    cases y with
    | non => cases ry; exact PySem.EqNone.ne_none_none (fin_bl I q (by simp))
    | bl j => cases ry; exact PySem.EqNone.ne_none_bool (fin_bl I q (by simp))
    | int j => obtain ⟨t', rfl⟩ := ry; exact PySem.EqNone.ne_none_int (fin_bl I q (by simp))
    | str j => obtain ⟨t', rfl⟩ := ry; exact PySem.EqNone.ne_none_str (fin_bl I q (by simp))
    | _ => exact absurd (show false = true from hs) Bool.false_ne_true
  | bl i =>
    cases rx
    cases y with
    | non => cases ry; exact PySem.EqNone.ne_bool_none (fin_bl I q (by simp))
    | bl j => cases ry; exact ne_bool (fin_bl I q (congrArg not dec_bl))
    | str j => obtain ⟨t', rfl⟩ := ry; exact PySem.EqMixed.ne_bool_str (fin_bl I q (by simp))
    | _ => exact absurd (show false = true from hs) Bool.false_ne_true
  | int i =>
    obtain ⟨t, rfl⟩ := rx
    cases y with
    | non => cases ry; exact PySem.EqNone.ne_int_none (fin_bl I q (by simp))
    | int j => obtain ⟨t', rfl⟩ := ry; exact ne_int (fin_bl I q (congrArg not dec_int))
    | str j => obtain ⟨t', rfl⟩ := ry; exact PySem.EqMixed.ne_int_str (fin_bl I q (by simp))
    | _ => exact absurd (show false = true from hs) Bool.false_ne_true
  | str i =>
    obtain ⟨t, rfl⟩ := rx
    cases y with
    | non => cases ry; exact PySem.EqNone.ne_str_none (fin_bl I q (by simp))
    | bl j => cases ry; exact PySem.EqMixed.ne_str_bool (fin_bl I q (by simp))
    | int j => obtain ⟨t', rfl⟩ := ry; exact PySem.EqMixed.ne_str_int (fin_bl I q (by simp))
    | str j => obtain ⟨t', rfl⟩ := ry; exact ne_str (fin_bl I q (congrArg not dec_str))
    | _ => exact absurd (show false = true from hs) Bool.false_ne_true
  | byt i =>
    obtain ⟨t, rfl⟩ := rx
    cases y with
    | byt j => obtain ⟨t', rfl⟩ := ry; exact PySem.W.ne_bytes (fin_bl I q (congrArg not dec_byt))
    | _ => exact absurd (show false = true from hs) Bool.false_ne_true
  | _ => cases y <;> exact absurd (show false = true from hs) Bool.false_ne_true

theorem op_lt : OpR X (compareOp .Lt) (rI0 fun i j => .bl (decide (i < j))) := opB0 fun _ _ _ _ _ _ _ q => lt_int q
theorem op_le : OpR X (compareOp .LtE) (rI0 fun i j => .bl (decide (i ≤ j))) := opB0 fun _ _ _ _ _ _ _ q => le_int q
theorem op_gt : OpR X (compareOp .Gt) (rI0 fun i j => .bl (decide (j < i))) := opB0 fun _ _ _ _ _ _ _ q => gt_int q
theorem op_ge : OpR X (compareOp .GtE) (rI0 fun i j => .bl (decide (j ≤ i))) := opB0 fun _ _ _ _ _ _ _ q => ge_int q
theorem op_lt_str : OpR X (compareOp .Lt) (fun x y H Q => ∃ i j, x = .str i ∧ y = .str j ∧ Q (.bl (decide (i.cps.toList < j.cps.toList))) H) := by
  intro pins s σ H x y v u Q I rx ry h
  obtain ⟨i, j, rfl, rfl, q⟩ := h
  obtain ⟨t, rfl⟩ := rx
  obtain ⟨t', rfl⟩ := ry
  exact lt_str (fin_bl I q rfl)
/-- the one string within the other -/
theorem op_in_str : OpR X (compareOp .In) (fun x y H Q => ∃ i j, x = .str i ∧ y = .str j ∧ Q (.bl (!(Builtin.Str.occurrences j i 0 j.length 1).isEmpty)) H) := by
  intro pins s σ H x y v u Q I rx ry h
  obtain ⟨i, j, rfl, rfl, q⟩ := h
  obtain ⟨t, rfl⟩ := rx
  obtain ⟨t', rfl⟩ := ry
  exact in_str (fin_bl I q rfl)

/-- is None, is not None: the right side a value none -/
theorem op_isN : OpR X (compareOp .Is) (fun x y H Q => y = .non ∧ Q (.bl (decide (x = .non))) H) := by
  intro pins s σ H x y v u Q I rx ry h
  obtain ⟨rfl, q⟩ := h
  cases ry
  refine is_none_gen (fin_bl I q ?_)
  cases x <;> first
    | (cases rx; rfl)
    | (obtain ⟨t, rfl⟩ := rx; rfl)
theorem op_notN : OpR X (compareOp .IsNot) (fun x y H Q => y = .non ∧ Q (.bl (!decide (x = .non))) H) := by
  intro pins s σ H x y v u Q I rx ry h
  obtain ⟨rfl, q⟩ := h
  cases ry
  refine isnot_none_gen (fin_bl I q ?_)
  cases x <;> first
    | (cases rx; rfl)
    | (obtain ⟨t, rfl⟩ := rx; rfl)

theorem op_notin_str : OpR X (compareOp .NotIn) (fun x y H Q => ∃ i j, x = .str i ∧ y = .str j ∧ Q (.bl (!(!(Builtin.Str.occurrences j i 0 j.length 1).isEmpty))) H) := by
  intro pins s σ H x y v u Q I rx ry h
  obtain ⟨i, j, rfl, rfl, q⟩ := h
  obtain ⟨t, rfl⟩ := rx
  obtain ⟨t', rfl⟩ := ry
  exact notIn_str (fin_bl I q rfl)
/-- is, is not of two objects that are tracked lists or instances -/
def isObj : HO → Bool
  | .lst _ => true
  | .ins _ _ _ => true
  | _ => false
theorem obj_there {pins : List (Addr × Obj)} {s : Shared} {σ : St} {H : Hp} {a : Addr} {o : HO} (I : Inv X pins σ H s) (h : H a = some o) (p : isObj o = true) : ∃ ob, s.heap.get? a = some ob ∧ ob.cls ≠ .type "tuple" := by
  cases o with
  | lst xs =>
    obtain ⟨_, its, n, _, e⟩ : xs.length ≤ sizeLine ∧ ∃ (its : List Value) (n : Nat), Vals xs its ∧ s.heap.get? a = some { cls := .type "list", data := .seq its.toArray n } := I.hok a _ h
    exact ⟨_, e, (by show Value.type "list" ≠ .type "tuple"; decide +kernel)⟩
  | ins C dx fs =>
    have x := I.hok a _ h
    obtain ⟨_, _, _, e, _⟩ := x
    exact ⟨_, e, (by show Value.ref C ≠ .type "tuple"; exact fun z => by cases z)⟩
  | _ => exact absurd (show false = true from p) Bool.false_ne_true
theorem op_is_ref : OpR X (compareOp .Is) (fun x y H Q => ∃ a b oa ob, x = .ref a ∧ y = .ref b ∧ H a = some oa ∧ isObj oa = true ∧ H b = some ob ∧ isObj ob = true ∧ Q (.bl (decide (a = b))) H) := by
  intro pins s σ H x y v u Q I rx ry h
  obtain ⟨a, b, oa, ob, rfl, rfl, ha, pa, hb, pb, q⟩ := h
  cases rx
  cases ry
  obtain ⟨o1, e1, n1⟩ := obj_there I ha pa
  obtain ⟨o2, e2, _⟩ := obj_there I hb pb
  by_cases z : a = b
  · subst z
    exact wpAny_is_ref_self (fin_bl I q (by simp))
  · exact wpAny_is_ref_other z e1 e2 n1 (fin_bl I q (by simp [z]))
theorem op_isnot_ref : OpR X (compareOp .IsNot) (fun x y H Q => ∃ a b oa ob, x = .ref a ∧ y = .ref b ∧ H a = some oa ∧ isObj oa = true ∧ H b = some ob ∧ isObj ob = true ∧ Q (.bl (!decide (a = b))) H) := by
  intro pins s σ H x y v u Q I rx ry h
  obtain ⟨a, b, oa, ob, rfl, rfl, ha, pa, hb, pb, q⟩ := h
  cases rx
  cases ry
  obtain ⟨o1, e1, n1⟩ := obj_there I ha pa
  obtain ⟨o2, e2, _⟩ := obj_there I hb pb
  by_cases z : a = b
  · subst z
    exact wpAny_isNot_ref_self (fin_bl I q (by simp))
  · exact wpAny_isNot_ref_other z e1 e2 n1 (fin_bl I q (by simp [z]))

/-- two rules for one operation: by cases -/
theorem OpR.or {f : Value → Value → Sem Value} {r r' : R2} (h : OpR X f r) (h' : OpR X f r') : OpR X f (fun x y H Q => r x y H Q ∨ r' x y H Q) := by
  intro pins s σ H x y v u Q I rx ry q
  rcases q with q | q
  · exact h pins s σ H x y v u Q I rx ry q
  · exact h' pins s σ H x y v u Q I rx ry q

theorem nomark (b : Expr) {op : CmpOp} (h : op ≠ .In := by decide) (h2 : op ≠ .NotIn := by decide) : behindInMarks op b = false := by
  have e1 : (op == CmpOp.In) = false := by cases op <;> first | rfl | exact absurd rfl h
  have e2 : (op == CmpOp.NotIn) = false := by cases op <;> first | rfl | exact absurd rfl h2
  cases b <;> simp [behindInMarks, e1, e2]
/-- a comparison as a value; hm: nomark b, or (for in, not in) by with_unfolding_all rfl -/
theorem pe_cmpR {op : CmpOp} {r : R2} (ho : OpR X (compareOp op) r) (ha : PE X a ta) (hb : PE X b tb) (hm : behindInMarks op b = false) : PE X (.Compare a [op] [b] pos) (tOp r ta tb) := by
  intro pins s σ H Q I h
  exact wpAny_Compare1 (binT ha hb I h fun v u s2 x y H2 I2 rx ry q => ho pins s2 σ H2 x y v u Q I2 rx ry q) hm
/-- a reading of a value as a test -/
def tTest (t : TE) : TT := fun σ H Q => t σ H fun x H' => ∃ k, x = .bl k ∧ Q k H'
theorem pt_cmpR {op : CmpOp} {r : R2} (ho : OpR X (compareOp op) r) (ha : PE X a ta) (hb : PE X b tb) (hm : behindInMarks op b = false) : PT X (.Compare a [op] [b] pos) (tTest (tOp r ta tb)) := by
  intro pins s σ H Q I h
  refine wpAny_isTrue_Compare1 (thn (ha pins s σ H _ I h) fun v s1 ⟨x, H1, I1, r1, q1⟩ => thn (hb pins s1 σ H1 _ I1 q1) fun u s2 ⟨y, H2, I2, r2, q2⟩ =>
    thn (ho pins s2 σ H2 x y v u _ I2 r1 r2 q2) fun c s3 ⟨z, H3, I3, r3, k, e, q3⟩ => ?_) hm
  subst e
  cases r3
  exact wpAny_truthy_bool ⟨H3, I3, q3⟩
/-- a op1 b op2 c -/
def tChain (r r' : R2) (ta tb tc : TE) : TE := fun σ H Q => ta σ H fun x H1 => tb σ H1 fun y H2 => r x y H2 fun z H3 => ∃ k, z = .bl k ∧
  (if k = true then tc σ H3 fun w' H4 => r' y w' H4 Q else Q (.bl false) H3)
theorem pe_chain {op op' : CmpOp} {r r' : R2} (ho : OpR X (compareOp op) r) (ho' : OpR X (compareOp op') r') (ha : PE X a ta) (hb : PE X b tb) (hc : PE X c tc)
    (hm : lastMarks [op, op'] [b, c] = false := by with_unfolding_all rfl) : PE X (.Compare a [op, op'] [b, c] pos) (tChain r r' ta tb tc) := by
  intro pins s σ H Q I h
  refine Compare_chain (thn (ha pins s σ H _ I h) fun v s1 ⟨x, H1, I1, r1, q1⟩ => chain_link (thn (hb pins s1 σ H1 _ I1 q1) fun u s2 ⟨y, H2, I2, r2, q2⟩ =>
    thn (ho pins s2 σ H2 x y v u _ I2 r1 r2 q2) fun d s3 ⟨z, H3, I3, r3, k, e, q3⟩ => ?_)) hm
  subst e
  cases r3
  refine wpAny_truthy_bool ?_
  cases k with
  | false => exact ite_ff ⟨.bl false, H3, I3, rfl, q3⟩
  | true => exact ite_tt (chain_last (thn (hc pins s3 σ H3 _ I3 q3) fun w' s4 ⟨z', H4, I4, r4, q4⟩ => ho' pins s4 σ H4 y z' u w' Q I4 r2 r4 q4))
theorem pt_chain {op op' : CmpOp} {r r' : R2} (ho : OpR X (compareOp op) r) (ho' : OpR X (compareOp op') r') (ha : PE X a ta) (hb : PE X b tb) (hc : PE X c tc)
    (hm : lastMarks [op, op'] [b, c] = false := by with_unfolding_all rfl) : PT X (.Compare a [op, op'] [b, c] pos) (tTest (tChain r r' ta tb tc)) := by
  intro pins s σ H Q I h
  refine isTrue_chain (thn (ha pins s σ H _ I h) fun v s1 ⟨x, H1, I1, r1, q1⟩ => test_link (thn (hb pins s1 σ H1 _ I1 q1) fun u s2 ⟨y, H2, I2, r2, q2⟩ =>
    thn (ho pins s2 σ H2 x y v u _ I2 r1 r2 q2) fun d s3 ⟨z, H3, I3, r3, k, e, q3⟩ => ?_)) hm
  subst e
  cases r3
  refine wpAny_truthy_bool ?_
  cases k with
  | false =>
    obtain ⟨k', e', q'⟩ := q3
    cases e'
    exact ite_ff ⟨H3, I3, q'⟩
  | true =>
    refine ite_tt (test_last (thn (hc pins s3 σ H3 _ I3 q3) fun w' s4 ⟨z', H4, I4, r4, q4⟩ => thn (ho' pins s4 σ H4 y z' u w' _ I4 r2 r4 q4) fun d' s5 ⟨z2, H5, I5, r5, k2, e2, q5⟩ => ?_))
    subst e2
    cases r5
    exact wpAny_truthy_bool ⟨H5, I5, q5⟩

/-! ### truth -/
/-- a value's truth by the abstract heap -/
def TruV (K : PySem.W.Frag) (x : V) (H : Hp) (k : Bool) : Prop :=
  match x with
  | .non => k = false
  | .bl b => k = b
  | .int i => k = (i != 0)
  | .str y => y.length ≤ sizeLine ∧ k = ((y.length : Int) != 0)
  | .byt y => y.size ≤ sizeLine ∧ k = ((y.size : Int) != 0)
  | .ref p => (∃ xs, SqL K H p xs ∧ k = !xs.isEmpty) ∨ (∃ xs, SqT K H p xs ∧ k = !xs.isEmpty) ∨ ∃ kvs, H p = some (.dK kvs) ∧ k = !kvs.isEmpty
  | _ => False
theorem isEmpty_kv {κ : Type} {kvs : List (κ × V)} {vs : List (κ × Value)} (r : KV kvs vs) : (!vs.isEmpty) = !kvs.isEmpty := by
  cases r <;> rfl
theorem isEmpty_of {xs : List V} {its : List Value} (r : Vals xs its) : (!its.toArray.isEmpty) = !xs.isEmpty := by
  cases r <;> simp
theorem line63 : (sizeLine : Nat) < 2 ^ 63 := by rw [sizeLine_eq]; decide
theorem tru_ok : TruR X (fun x H Q => ∃ k, TruV X.K x H k ∧ Q k H) := by
  intro pins s σ H x v Q I rx h
  obtain ⟨k, e, q⟩ := h
  have hl := line63
  have hs : sizeLine = 16777216 := sizeLine_eq
  cases x with
  | non =>
    cases rx
    have e' : k = false := e
    subst e'
    exact truthy_none ⟨H, I, q⟩
  | bl b =>
    cases rx
    have e' : k = b := e
    subst e'
    exact wpAny_truthy_bool ⟨H, I, q⟩
  | int i =>
    obtain ⟨t, rfl⟩ := rx
    have e' : k = (i != 0) := e
    subst e'
    exact PySem.P.truthy_int ⟨H, I, q⟩
  | str y =>
    obtain ⟨t, rfl⟩ := rx
    obtain ⟨hy, e'⟩ : y.length ≤ sizeLine ∧ k = ((y.length : Int) != 0) := e
    subst e'
    exact PySem.P.truthy_str (by omega) ⟨H, I.tok _, q⟩
  | byt y =>
    obtain ⟨t, rfl⟩ := rx
    obtain ⟨hy, e'⟩ : y.size ≤ sizeLine ∧ k = ((y.size : Int) != 0) := e
    subst e'
    exact PySem.W.truthy_bytes (by omega) ⟨H, I.tok _, q⟩
  | ref p =>
    cases rx
    have e' : (∃ xs, SqL X.K H p xs ∧ k = !xs.isEmpty) ∨ (∃ xs, SqT X.K H p xs ∧ k = !xs.isEmpty) ∨ ∃ kvs, H p = some (.dK kvs) ∧ k = !kvs.isEmpty := e
    rcases e' with ⟨xs, hx, e'⟩ | ⟨xs, hx, e'⟩ | ⟨kvs, hx, e'⟩
    · subst e'
      obtain ⟨its, r, pl, hz⟩ := I.list hx
      have hlen := r.length
      exact wpAny_truthy_list pl.isList (by simp only [List.size_toArray]; omega) ⟨H, I.tok _, by rw [isEmpty_of r]; exact q⟩
    · subst e'
      obtain ⟨its, r, pl, hz⟩ := I.tuple hx
      have hlen := r.length
      exact truthy_tuple pl (by simp only [List.size_toArray]; omega) ⟨H, I.tok _, by rw [isEmpty_of r]; exact q⟩
    · subst e'
      obtain ⟨hz, hS, vs, r, m⟩ : kvs.length ≤ sizeLine ∧ (p == sysModules) = false ∧ ∃ vs, KV kvs vs ∧ s.heap.DictOf (mixKind X.prog X.w) p vs := I.hok p _ hx
      have hlen : kvs.length = vs.length := Paired.length r
      exact wpAny_truthy_dict hS m (by omega) ⟨H, I.tok _, by rw [isEmpty_kv r]; exact q⟩
  | _ => exact (show False from e).elim
/-- any expression whose test is its value's truth (a name, a call, a subscript, a field ..: he by fun _ => rfl) -/
theorem pt_truth (ha : PE X a ta) (he : ∀ whole, isTrue a X.env whole = (do let v ← whole; standAt a.pos; holding [v] (truthy v))) :
    PT X a (fun σ H Q => ta σ H fun x H' => ∃ k, TruV X.K x H' k ∧ Q k H') := by
  intro pins s σ H Q I h
  exact isTrue_plain (thn (ha pins s σ H _ I h) fun v s1 ⟨x, H1, I1, r1, q1⟩ => tru_ok pins s1 σ H1 x v Q I1 r1 q1) (he _)

/-! ### strs and bytes -/
theorem pe_byt {x : List UInt8} {k : Nat} : PE X (.Constant (.bytes x) k pos) (fun _ H Q => Q (.byt x.toArray) H) := fun _ _ _ H _ I h => PySem.W.Constant_bytes ⟨.byt x.toArray, H, I.tok _, ⟨_, rfl⟩, h⟩
theorem op_add_str : OpR X (binaryOp .Add) (fun x y H Q => ∃ i j, x = .str i ∧ y = .str j ∧ i.length + j.length ≤ sizeLine ∧ Q (.str (i ++ j)) H) := by
  intro pins s σ H x y v u Q I rx ry h
  obtain ⟨i, j, rfl, rfl, hz, q⟩ := h
  obtain ⟨t, rfl⟩ := rx
  obtain ⟨t', rfl⟩ := ry
  exact add_str (fun t' tk => ⟨.str (i ++ j), H, I.tok _, ⟨_, rfl⟩, q⟩) hz
theorem iop_add_str : OpR X (inplaceOp .Add) (fun x y H Q => ∃ i j, x = .str i ∧ y = .str j ∧ i.length + j.length ≤ sizeLine ∧ Q (.str (i ++ j)) H) := by
  intro pins s σ H x y v u Q I rx ry h
  obtain ⟨i, j, rfl, rfl, hz, q⟩ := h
  obtain ⟨t, rfl⟩ := rx
  obtain ⟨t', rfl⟩ := ry
  exact iadd_str (fun t' tk => ⟨.str (i ++ j), H, I.tok _, ⟨_, rfl⟩, q⟩) hz
theorem op_add_byt : OpR X (binaryOp .Add) (fun x y H Q => ∃ i j, x = .byt i ∧ y = .byt j ∧ i.size + j.size ≤ 16777216 ∧ Q (.byt (i ++ j)) H) := by
  intro pins s σ H x y v u Q I rx ry h
  obtain ⟨i, j, rfl, rfl, hz, q⟩ := h
  obtain ⟨t, rfl⟩ := rx
  obtain ⟨t', rfl⟩ := ry
  exact PySem.W.KBy.add_bytes hz (fun t' tk => ⟨.byt (i ++ j), H, I.tok _, ⟨_, rfl⟩, q⟩)

def PlainIxT (b : Expr) : Prop := ∀ o i, subscripted b false o i = operate [o, i] (getItem o i)
/-- s[i], 0 ≤ i < len -/
theorem pe_item_str (ha : PE X a ta) (hb : PE X b tb) (hs : PlainIxT b) :
    PE X (.Subscript a b pos) (tOp (fun x y H Q => ∃ z i c, x = .str z ∧ y = .int i ∧ 0 ≤ i ∧ i < 2 ^ 63 ∧ i < z.length ∧ z.cps[i.toNat]? = some c ∧ Q (.str ⟨#[c]⟩) H) ta tb) := by
  intro pins s σ H Q I h
  refine Subscript_ (binT ha hb I h fun v u s2 x y H2 I2 rx ry q => ?_)
  obtain ⟨z, i, c, rfl, rfl, h0, h63, h1, hc, q⟩ := q
  obtain ⟨t, rfl⟩ := rx
  obtain ⟨t', rfl⟩ := ry
  have e : seqIndex? i z.length = some i.toNat := PySem.StrLaws.seqIndex_nonneg h0 h1
  exact tail_any (typeIs_str s2 z t) slot_str_getitem.lookup (getItem_str (c := c) (by
    have e1 : decide (i < -(2 ^ 63 : Int)) = false := decide_eq_false (by omega)
    have e2 : decide (i ≥ 2 ^ 63) = false := decide_eq_false (by omega)
    rw [e1, e2] <;> rfl) (by rw [e]; exact hc) ⟨.str ⟨#[c]⟩, H2, I2.tok _, ⟨_, rfl⟩, q⟩) (hs _ _)
/-- b[i], 0 ≤ i < len -/
theorem pe_item_byt (ha : PE X a ta) (hb : PE X b tb) (hs : PlainIxT b) :
    PE X (.Subscript a b pos) (tOp (fun x y H Q => ∃ (z : List UInt8) (i : Int), x = .byt z.toArray ∧ y = .int i ∧ z.length ≤ sizeLine ∧ 0 ≤ i ∧ i < z.length ∧ Q (.int ((z.getD i.toNat 0).toNat : Nat)) H) ta tb) := by
  intro pins s σ H Q I h
  refine Subscript_ (binT ha hb I h fun v u s2 x y H2 I2 rx ry q => ?_)
  obtain ⟨z, i, rfl, rfl, hz, h0, h1, q⟩ := q
  obtain ⟨t, rfl⟩ := rx
  obtain ⟨t', rfl⟩ := ry
  have hl : sizeLine = 16777216 := sizeLine_eq
  exact tail_any (PySem.W.typeIs_bytes s2 z.toArray t) PySem.W.FB.slot_bytes_getitem.lookup (PySem.W.getItem_bytes (by omega) h0 h1 ⟨.int ((z.getD i.toNat 0).toNat : Nat), H2, I2.tok _, ⟨_, rfl⟩, q⟩) (hs _ _)

/-! ### scalar builtins, by CallR -/
theorem vals1 {x : V} {us : List Value} (r : Vals [x] us) : ∃ u, us = [u] ∧ RelV x u := by
  cases r with
  | cons r1 r2 => cases r2; exact ⟨_, rfl, r1⟩
theorem vals2 {x y : V} {us : List Value} (r : Vals [x, y] us) : ∃ u w', us = [u, w'] ∧ RelV x u ∧ RelV y w' := by
  cases r with
  | cons r1 r2 =>
    cases r2 with
    | cons r3 r4 => cases r4; exact ⟨_, _, rfl, r1, r3⟩
theorem call_abs : CallR X (.builtin "abs") (fun xs H Q => ∃ i, xs = [.int i] ∧ Q (.int (if i < 0 then -i else i)) H) := by
  intro pins s σ H xs us Q I r h
  obtain ⟨i, rfl, q⟩ := h
  obtain ⟨u, rfl, t, rfl⟩ := vals1 r
  exact call_abs_int fun u tk => ⟨.int (if i < 0 then -i else i), H, I.tok _, ⟨_, rfl⟩, q⟩
theorem call_max2 (hc : X.calm = true) : CallR X (.builtin "max") (fun xs H Q => ∃ i j, xs = [.int i, .int j] ∧ Q (.int (if j > i then j else i)) H) := by
  intro pins s σ H xs us Q I r h
  obtain ⟨i, j, rfl, q⟩ := h
  obtain ⟨u, w', rfl, ⟨t, rfl⟩, ⟨t', rfl⟩⟩ := vals2 r
  refine max_two_ints (I.ok.hd hc) fun h' tk k => ⟨_, H, I.kept k, ?_, q⟩
  by_cases hj : j > i
  · rw [if_pos hj, if_pos hj]; exact ⟨_, rfl⟩
  · rw [if_neg hj, if_neg hj]; exact ⟨_, rfl⟩
theorem call_min2 (hc : X.calm = true) : CallR X (.builtin "min") (fun xs H Q => ∃ i j, xs = [.int i, .int j] ∧ Q (.int (if j < i then j else i)) H) := by
  intro pins s σ H xs us Q I r h
  obtain ⟨i, j, rfl, q⟩ := h
  obtain ⟨u, w', rfl, ⟨t, rfl⟩, ⟨t', rfl⟩⟩ := vals2 r
  refine min_two_ints (I.ok.hd hc) fun h' tk k => ⟨_, H, I.kept k, ?_, q⟩
  by_cases hj : j < i
  · rw [if_pos hj, if_pos hj]; exact ⟨_, rfl⟩
  · rw [if_neg hj, if_neg hj]; exact ⟨_, rfl⟩
theorem call_int1 : CallR X (.type "int") (fun xs H Q => (∃ i, xs = [.int i] ∧ Q (.int i) H) ∨ ∃ k, xs = [.bl k] ∧ Q (.int (if k then 1 else 0)) H) := by
  intro pins s σ H xs us Q I r h
  rcases h with ⟨i, rfl, q⟩ | ⟨k, rfl, q⟩
  · obtain ⟨u, rfl, t, rfl⟩ := vals1 r
    exact call_int_int ⟨.int i, H, I, ⟨_, rfl⟩, q⟩
  · obtain ⟨u, rfl, r1⟩ := vals1 r
    cases r1
    exact call_int_bool ⟨.int (if k then 1 else 0), H, I.tok _, ⟨_, rfl⟩, q⟩
theorem call_bool1 : CallR X (.type "bool") (fun xs H Q => (∃ i, xs = [.int i] ∧ Q (.bl (i != 0)) H) ∨ ∃ k, xs = [.bl k] ∧ Q (.bl k) H) := by
  intro pins s σ H xs us Q I r h
  rcases h with ⟨i, rfl, q⟩ | ⟨k, rfl, q⟩
  · obtain ⟨u, rfl, t, rfl⟩ := vals1 r
    exact call_bool_int ⟨.bl (i != 0), H, I, rfl, q⟩
  · obtain ⟨u, rfl, r1⟩ := vals1 r
    cases r1
    exact call_bool_bool ⟨.bl k, H, I, rfl, q⟩
theorem call_str_int : CallR X (.type "str") (fun xs H Q => ∃ i, xs = [.int i] ∧ i.natAbs.log2 < 1920 ∧ Q (.str (toString i)) H) := by
  intro pins s σ H xs us Q I r h
  obtain ⟨i, rfl, hz, q⟩ := h
  obtain ⟨u, rfl, t, rfl⟩ := vals1 r
  exact PySem.P.str_of_int hz ⟨.str _, H, I.tok _, ⟨_, rfl⟩, q⟩
theorem call_ord : CallR X (.builtin "ord") (fun xs H Q => ∃ x, xs = [.str x] ∧ x.length = 1 ∧ Q (.int (x.cps.getD 0 0 : Nat)) H) := by
  intro pins s σ H xs us Q I r h
  obtain ⟨x, rfl, hz, q⟩ := h
  obtain ⟨u, rfl, t, rfl⟩ := vals1 r
  exact ord_of_one hz ⟨.int _, H, I.tok _, ⟨_, rfl⟩, q⟩
theorem call_chr : CallR X (.builtin "chr") (fun xs H Q => ∃ i, xs = [.int i] ∧ 0 ≤ i ∧ i ≤ 1114111 ∧ Q (.str ⟨#[i.toNat]⟩) H) := by
  intro pins s σ H xs us Q I r h
  obtain ⟨i, rfl, h0, h1, q⟩ := h
  obtain ⟨u, rfl, t, rfl⟩ := vals1 r
  exact chr_of_range h0 h1 ⟨.str _, H, I.tok _, ⟨_, rfl⟩, q⟩
/-- len of a str, a bytes, a list, a tuple -/
def LenV (K : PySem.W.Frag) (x : V) (H : Hp) (n : Nat) : Prop :=
  match x with
  | .str y => y.length ≤ sizeLine ∧ n = y.length
  | .byt y => y.size ≤ sizeLine ∧ n = y.size
  | .ref p => (∃ xs, SqL K H p xs ∧ n = xs.length) ∨ ∃ xs, SqT K H p xs ∧ n = xs.length
  | _ => False
theorem call_len : CallR X (.builtin "len") (fun xs H Q => ∃ x n, xs = [x] ∧ LenV X.K x H n ∧ Q (.int n) H) := by
  intro pins s σ H xs us Q I r h
  obtain ⟨x, n, rfl, e, q⟩ := h
  obtain ⟨u, rfl, rx⟩ := vals1 r
  have hl := line63
  have hs : sizeLine = 16777216 := sizeLine_eq
  cases x with
  | str y =>
    obtain ⟨t, rfl⟩ := rx
    obtain ⟨hy, e'⟩ : y.length ≤ sizeLine ∧ n = y.length := e
    subst e'
    exact len_str (by omega) ⟨.int _, H, I.tok _, ⟨_, rfl⟩, q⟩
  | byt y =>
    obtain ⟨t, rfl⟩ := rx
    obtain ⟨hy, e'⟩ : y.size ≤ sizeLine ∧ n = y.size := e
    subst e'
    exact PySem.W.len_bytes (by omega) ⟨.int _, H, I.tok _, ⟨_, rfl⟩, q⟩
  | ref p =>
    cases rx
    have e' : (∃ xs, SqL X.K H p xs ∧ n = xs.length) ∨ ∃ xs, SqT X.K H p xs ∧ n = xs.length := e
    rcases e' with ⟨xs, hx, e'⟩ | ⟨xs, hx, e'⟩
    · subst e'
      obtain ⟨its, r', pl, hz⟩ := I.list hx
      have hlen := r'.length
      exact Calls.call_len_list pl.isList (by simp only [List.size_toArray]; omega) ⟨.int xs.length, H, I.tok _, ⟨_, by simp only [List.size_toArray]; rw [hlen]⟩, q⟩
    · subst e'
      obtain ⟨its, r', pl, hz⟩ := I.tuple hx
      have hlen := r'.length
      exact len_tuple pl (by simp only [List.size_toArray]; omega) ⟨.int xs.length, H, I.tok _, ⟨_, by simp only [List.size_toArray]; rw [hlen]⟩, q⟩
  | _ => exact (show False from e).elim
/-- divmod: a new tuple -/
theorem call_divmod : CallR X (.builtin "divmod") (fun xs H Q => ∃ i j, xs = [.int i, .int j] ∧ CDiv i j ∧ ∀ p, H p = none → Q (.ref p) (upd H p (.tup [.int (i / j), .int (i % j)]))) := by
  intro pins s σ H xs us Q I r h
  obtain ⟨i, j, rfl, ⟨h1, h2⟩, q⟩ := h
  obtain ⟨u, w', rfl, ⟨t, rfl⟩, ⟨t', rfl⟩⟩ := vals2 r
  refine divmod_int (by omega) ?_ (.inl (PyProof.noPylong_small (by omega)))
  rw [Int.fdiv_eq_ediv_of_nonneg i (by omega), Int.fmod_eq_emod_of_nonneg i (by omega)]
  have hn : H s.heap.objs.size = none := I.hok.fresh (Nat.le_refl _)
  refine ⟨.ref s.heap.objs.size, _, ?_, rfl, q _ hn⟩
  refine I.laid (fun b o e => Heap.get?_push_of_some _ e) (Nat.le_refl _) ⟨by simp only [List.length_cons, List.length_nil]; rw [sizeLine_eq]; decide, [.int (i / j) s.toks, .int (i % j) (s.toks + 1)], .cons ⟨_, rfl⟩ (.cons ⟨_, rfl⟩ .nil), ?_⟩
  exact ⟨_, Heap.get?_push_size s.heap rfl, rfl, 0, rfl⟩
end
end L2

namespace L2
open PySem PySem.Spec PyProof.Rows

/-! ### an instance, its attributes a map -/
structure ObjM (h : Heap) (x dx C : Addr) (mA : Str → Option Value) : Prop where
  obj : h.get? x = some (PySem.W.instObj C dx)
  ns : h.Ns1 dx mA
  ne : dx ≠ x

theorem lookIn_ns {h : Heap} {dx : Addr} {mA : Str → Option Value} (n : h.Ns1 dx mA) : ∃ od, h.get? dx = some od ∧ ∀ name, PySem.W.lookIn name od = some (mA name) := by
  obtain ⟨o, es, ep, ho, hd, hk, _, hm⟩ := n
  refine ⟨o, ho, fun name => ?_⟩
  have e := hm name
  unfold nsFind findBy at e
  rw [← Array.find?_toList] at e
  unfold PySem.W.lookIn
  rw [hd]
  dsimp only
  split
  · rename_i y q
    rw [q] at e
    exact congrArg some e
  · rename_i q
    rw [q] at e
    have a : es.toList.any (·.refKey) = false := by
      rw [List.any_eq_false]
      intro y hy
      obtain ⟨z, t, hkey⟩ := hk y (Array.mem_toList_iff.mp hy)
      simp [DictEntry.refKey, hkey]
    have a' : ¬ es.toList.any (·.refKey) = true := by rw [a]; exact Bool.false_ne_true
    rw [if_neg a']
    exact congrArg some e

theorem ObjM.look {h : Heap} {x dx C : Addr} {mA : Str → Option Value} (I : ObjM h x dx C mA) : ∃ od, PySem.W.InstAt h x (PySem.W.instObj C dx) C (some od) ∧ ∀ name, PySem.W.lookIn name od = some (mA name) :=
  let ⟨od, ho, hl⟩ := lookIn_ns I.ns
  ⟨od, ⟨I.obj, rfl, rfl, ho⟩, hl⟩

section
variable {prog : Program} {w : World} {A : Around} {E : Value → Shared → Prop} {s : Shared} {K : PySem.W.Frag} {x dx C f : Addr} {mA : Str → Option Value} {name : Str} {v : Value}

theorem get_map {expr : Bool} {Q : Value → Shared → Prop} (X : K.In s.heap) (I : ObjM s.heap x dx C mA) (hg : PySem.W.plainGet K C name = true) (hh : PySem.W.hasDictIn K C = true)
    (ha : PySem.W.findIn K (.ref C) name = some none) (hv : mA name = some v) (hv' : PySem.W.handedIn v = true) (h : Q v { s with toks := s.toks + 1 }) :
    wpAny (model prog w) A (getAttr (.ref x) name expr) Q E s := by
  obtain ⟨od, J, hl⟩ := I.look
  exact PySem.W.get_value X J (PySem.W.plainGet_of hg).1 (PySem.W.findObj_own hh ha rfl (by rw [hl, hv])) hv' h

theorem get_const {expr : Bool} {a : Value} {Q : Value → Shared → Prop} (X : K.In s.heap) (I : ObjM s.heap x dx C mA) (hg : PySem.W.plainGet K C name = true) (hh : PySem.W.hasDictIn K C = true)
    (ha : PySem.W.findIn K (.ref C) name = some (some a)) (hn : PySem.W.specialIn K a "__get__" = some none) (hc : PySem.W.copiedNames.contains name = false) (hv : mA name = none) (hv' : PySem.W.handedIn a = true)
    (h : Q a { s with toks := s.toks + 1 }) : wpAny (model prog w) A (getAttr (.ref x) name expr) Q E s := by
  obtain ⟨od, J, hl⟩ := I.look
  exact PySem.W.get_value X J (PySem.W.plainGet_of hg).1 (PySem.W.findObj_cls hh ha hn hv' hc (by rw [hl, hv])) hv' h

theorem get_meth {pl : Sem Bool} {Q : Value × List Value → Shared → Prop} (X : K.In s.heap) (I : ObjM s.heap x dx C mA) (hg : PySem.W.plainGet K C name = true)
    (hf : PySem.W.findIn K (.ref C) name = some (some (.ref f))) (ht : PySem.W.isFn K (.ref f) = true) (hv : mA name = none) (h : Q (.ref f, [.ref x]) s) :
    wpAny (model prog w) A (getMethod (.ref x) name pl) Q E s := by
  obtain ⟨od, J, hl⟩ := I.look
  exact PySem.W.method_fn X J (PySem.W.plainGet_of hg).1 (PySem.W.plainGet_of hg).2 hf (beq_iff_eq.mp ht) (by show (PySem.W.lookIn name od).map (·.isSome) = some false; rw [hl, hv]; rfl) h

theorem set_map {ns : List Str} {Q : Unit → Shared → Prop} (X : K.In s.heap) (I : ObjM s.heap x dx C mA)
    (hs : PySem.W.findIn K (.ref C) "__setattr__" = some (some (.builtin "object.__setattr__"))) (hp : PySem.W.plainOver K C = true) (ht : PySem.W.takerIn K C name = some none) (hh : PySem.W.hasDictIn K C = true)
    (hw : PySem.Within mA ns) (hsz : ns.length ≤ sizeLine)
    (h : ∀ h', ObjM h' x dx C (fun y => if y = name then some v else mA y) → Heap.SameBut dx s.heap h' → Q () { s with heap := h', toks := s.toks + 2 }) :
    wpAny (model prog w) A (setAttr (.ref x) name v) Q E s := by
  obtain ⟨od, J, hl⟩ := I.look
  refine PySem.W.set_plain X J hs (PySem.W.osa_open (s := { s with toks := s.toks + 1 }) (r := none) X J hp ht fun b => ?_)
  obtain ⟨cd, hc, hd'⟩ := PySem.W.any_some hh
  have hx : s.heap.get? x = some ⟨.ref C, some dx, .plain, #[]⟩ := I.obj
  refine wpAny_bind (wpAny_pure (wpAny_bind (wpAny_bind (wpAny_loadPart hx (wpAny_bind (PySem.W.Looks.here (s := { s with toks := s.toks + 1 }) (PySem.W.looks_clsIn X hc) ?_))))))
  rw [hd']
  refine wpAny_pure (a := some dx) (wpAny_bind (wpAny_pure (wpAny_bind ?_)))
  refine wpAny_nsSet1 (s := { s with toks := s.toks + 1 }) I.ns fun h' hn2 hs2 => ?_
  obtain ⟨oD, esD, epD, hoD, hdD, hcD⟩ := hn2.count (PySem.Within.cons name v hw)
  refine wpAny_bind (wpAny_lookBehind hoD (by rw [hdD]; exact pastItsLine_dict (Nat.le_trans hcD (by rw [List.length_cons]; omega))) ?_)
  exact wpAny_pure (h _ ⟨(hs2.2 _ (Ne.symm I.ne)).trans I.obj, hn2, I.ne⟩ hs2)

/-- C(..): the dict at the heap's end, the instance behind it; then its __init__ -/
theorem make_map {R : Result → Shared → Prop} {vs : List Value} {kw : List (Str × Value)} (X : K.In s.heap) (hm : PySem.W.makesIn K C = true)
    (hi : PySem.W.findIn K (.ref C) "__init__" = some (some (.ref f))) (hf : PySem.W.typeIn K (.ref f) = some (.type "function"))
    (h : codeAny (model prog w) (A.under (.builtin "type.__call__" ⟨.ref C :: vs, kw⟩)) (.call (.ref f) ⟨.ref (s.heap.objs.size + 1) :: vs, kw⟩) (PySem.W.InitBack (s.heap.objs.size + 1) R)
      { s with heap := (s.heap.push PySem.W.emptyDict).push (PySem.W.instObj C s.heap.objs.size) }) :
    codeAny (model prog w) A (.call (.ref C) ⟨vs, kw⟩) R s := by
  obtain ⟨hh, g, d, t, os⟩ := s
  exact PySem.W.make_core (PySem.W.makes_of X hm) (PySem.W.looks_findIn X hi) (fun self => PySem.W.bind_fn X self hf) (.inl rfl) h
/-- C() where there is no __init__ but object's -/
theorem make_map0 {R : Result → Shared → Prop} (X : K.In s.heap) (hm : PySem.W.makesIn K C = true)
    (hi : PySem.W.findIn K (.ref C) "__init__" = some (some (.builtin "object.__init__")))
    (hb : ∀ self, PySem.W.Looks (model prog w) s.heap (bindSpecial (.builtin "object.__init__") self) (.builtin "object.__init__", [self]))
    (h : codeAny (model prog w) (A.under (.builtin "type.__call__" ⟨[.ref C], []⟩)) (.call (.builtin "object.__init__") ⟨[.ref (s.heap.objs.size + 1)], []⟩) (PySem.W.InitBack (s.heap.objs.size + 1) R)
      { s with heap := (s.heap.push PySem.W.emptyDict).push (PySem.W.instObj C s.heap.objs.size) }) :
    codeAny (model prog w) A (.call (.ref C) ⟨[], []⟩) R s := by
  obtain ⟨hh, g, d, t, os⟩ := s
  exact PySem.W.make_core (PySem.W.makes_of X hm) (PySem.W.looks_findIn X hi) hb (.inr ⟨rfl, rfl⟩) h
end

/-! ### the attributes as a list of pairs -/
def putF (f : Str) (v : V) : List (Str × V) → List (Str × V)
  | [] => [(f, v)]
  | (g, x) :: r => if g = f then (g, v) :: r else (g, x) :: putF f v r
theorem lookup_putF (f g : Str) (v : V) : ∀ fs : List (Str × V), (putF f v fs).lookup g = if g = f then some v else fs.lookup g
  | [] => by
    show List.lookup g [(f, v)] = _
    by_cases h : g = f
    · have hb : (g == f) = true := beq_iff_eq.mpr h
      simp only [List.lookup, hb, if_pos h]
    · have hb : (g == f) = false := beq_eq_false_iff_ne.mpr h
      simp only [List.lookup, hb, if_neg h]
  | (k, x) :: r => by
    have ih := lookup_putF f g v r
    rw [show putF f v ((k, x) :: r) = (if k = f then (k, v) :: r else (k, x) :: putF f v r) from rfl]
    by_cases hk : k = f
    · rw [if_pos hk]
      by_cases h : g = k
      · have hb : (g == k) = true := beq_iff_eq.mpr h
        simp only [List.lookup, hb, if_pos (h.trans hk)]
      · have hb : (g == k) = false := beq_eq_false_iff_ne.mpr h
        simp only [List.lookup, hb, if_neg (fun e : g = f => h (e.trans hk.symm))]
    · rw [if_neg hk]
      by_cases h : g = k
      · have hb : (g == k) = true := beq_iff_eq.mpr h
        simp only [List.lookup, hb, if_neg (fun e : g = f => hk (h.symm.trans e))]
      · have hb : (g == k) = false := beq_eq_false_iff_ne.mpr h
        simp only [List.lookup, hb]
        exact ih
theorem keys_putF (f : Str) (v : V) : ∀ fs : List (Str × V), f ∈ (putF f v fs).map (·.1) ∧ ∀ g, g ∈ fs.map (·.1) → g ∈ (putF f v fs).map (·.1)
  | [] => ⟨by simp [putF], fun g h => by simp at h⟩
  | (k, x) :: r => by
    obtain ⟨i1, i2⟩ := keys_putF f v r
    rw [show putF f v ((k, x) :: r) = (if k = f then (k, v) :: r else (k, x) :: putF f v r) from rfl]
    by_cases hk : k = f
    · rw [if_pos hk]
      subst hk
      exact ⟨by simp, fun g h => by simpa using h⟩
    · rw [if_neg hk]
      refine ⟨?_, fun g h => ?_⟩
      · rw [List.map_cons]
        exact List.mem_cons_of_mem _ i1
      · rw [List.map_cons] at h ⊢
        rcases List.mem_cons.mp h with e | e
        · exact List.mem_cons.mpr (.inl e)
        · exact List.mem_cons_of_mem _ (i2 g e)
theorem length_putF (f : Str) (v : V) : ∀ fs : List (Str × V), (putF f v fs).length ≤ fs.length + 1
  | [] => by simp [putF]
  | (k, x) :: r => by
    have ih := length_putF f v r
    rw [show putF f v ((k, x) :: r) = (if k = f then (k, v) :: r else (k, x) :: putF f v r) from rfl]
    by_cases hk : k = f
    · rw [if_pos hk, List.length_cons, List.length_cons]; omega
    · rw [if_neg hk, List.length_cons, List.length_cons]; omega

theorem RelO.some_of {v : V} {o : Option Value} (r : RelO (some v) o) : ∃ u, o = some u ∧ RelV v u := by
  cases o with
  | none => exact (show False from r).elim
  | some u => exact ⟨u, rfl, r⟩
theorem RelO.none_of {o : Option Value} (r : RelO none o) : o = none := by
  cases o with
  | none => rfl
  | some u => exact (show False from r).elim
theorem handed_of {v : V} {u : Value} (r : RelV v u) : PySem.W.handedIn u = true := by
  cases v with
  | non => cases (show u = Value.none from r); rfl
  | bl b => cases (show u = Value.bool b from r); rfl
  | int i => obtain ⟨t, e⟩ := (show ∃ t, u = Value.int i t from r); cases e; rfl
  | str x => obtain ⟨t, e⟩ := (show ∃ t, u = Value.str x t from r); cases e; rfl
  | byt b => obtain ⟨t, e⟩ := (show ∃ t, u = Value.bytes b t from r); cases e; rfl
  | flt b => obtain ⟨t, e⟩ := (show ∃ t, u = Value.float b t from r); cases e; rfl
  | ref a => cases (show u = Value.ref a from r); rfl
  | ty n => cases (show u = Value.type n from r); rfl

section
variable {P : Program} {w : World} {H H' : Hp} {h h' : Heap} {a C dx : Addr} {fs fs' : List (Str × V)}
theorem ins_get (hok : HOk P w H h) (e : H a = some (.ins C dx fs)) : ∃ mA, ObjM h a dx C mA ∧ (∀ f, RelO (fs.lookup f) (mA f)) ∧ PySem.Within mA (fs.map (·.1)) ∧ fs.length ≤ 1000 ∧ H dx = some (.own a) := by
  obtain ⟨d, z, ne, ob, mA, n, r, q⟩ := (show ObjOk P w H h a (.ins C dx fs) from hok a _ e)
  exact ⟨mA, ⟨ob, n, ne⟩, r, q, z, d⟩
end

/-! ### what of the text a class must have -/
structure Cls (K : PySem.W.Frag) (C : Addr) : Prop where
  pg : PySem.W.plainGet K C Str.empty = true
  hd : PySem.W.hasDictIn K C = true
  po : PySem.W.plainOver K C = true
  sa : PySem.W.findIn K (.ref C) "__setattr__" = some (some (.builtin "object.__setattr__"))
theorem Cls.get {K : PySem.W.Frag} {C : Addr} (c : Cls K C) (f : Str) : PySem.W.plainGet K C f = true := c.pg
/-- no class of it has the name -/
def NoAttr (K : PySem.W.Frag) (C : Addr) (f : Str) : Prop := PySem.W.findIn K (.ref C) f = some none
theorem NoAttr.taker {K : PySem.W.Frag} {C : Addr} {f : Str} (n : NoAttr K C f) : PySem.W.takerIn K C f = some none := by
  unfold PySem.W.takerIn
  rw [show PySem.W.findIn K (.ref C) f = some none from n]
  rfl
/-- a constant of the class -/
structure Con (K : PySem.W.Frag) (C : Addr) (f : Str) (v : V) (u : Value) : Prop where
  at_ : PySem.W.findIn K (.ref C) f = some (some u)
  rel : RelV v u
  get : PySem.W.specialIn K u "__get__" = some none
  cp : PySem.W.copiedNames.contains f = false
/-- a method: a plain def of the class or of one above it -/
structure Meth (K : PySem.W.Frag) (C : Addr) (m : Str) (f : Addr) : Prop where
  at_ : PySem.W.findIn K (.ref C) m = some (some (.ref f))
  fn : PySem.W.isFn K (.ref f) = true
  kp : PySem.W.keepIn K (.ref f) = true

section
variable {X : Cx} {pins : List (Addr × Obj)} {σ : St} {H : Hp} {s : Shared} {a C dx : Addr} {fs : List (Str × V)} {f : Str} {v : V} {A : Around} {E : Value → Shared → Prop}

theorem getattr_ok {b : Bool} {Q : Value → Shared → Prop} (I : Inv X pins σ H s) (e : H a = some (.ins C dx fs)) (c : Cls X.K C) (n : NoAttr X.K C f) (l : fs.lookup f = some v)
    (h : ∀ u s', Inv X pins σ H s' → RelV v u → Q u s') : wpAny (model X.prog X.w) A (getAttr (.ref a) f b) Q E s := by
  obtain ⟨mA, O, r, _, _, _⟩ := ins_get I.hok e
  obtain ⟨u, hu, ru⟩ := RelO.some_of (v := v) (o := mA f) (by rw [← l]; exact r f)
  exact get_map I.kIn O (c.get f) c.hd n hu (handed_of ru) (h u _ (I.tok _) ru)

theorem getcon_ok {b : Bool} {u : Value} {Q : Value → Shared → Prop} (I : Inv X pins σ H s) (e : H a = some (.ins C dx fs)) (c : Cls X.K C) (k : Con X.K C f v u) (l : fs.lookup f = none)
    (h : ∀ s', Inv X pins σ H s' → Q u s') : wpAny (model X.prog X.w) A (getAttr (.ref a) f b) Q E s := by
  obtain ⟨mA, O, r, _, _, _⟩ := ins_get I.hok e
  have hn : mA f = none := RelO.none_of (by rw [← l]; exact r f)
  exact get_const I.kIn O (c.get f) c.hd k.at_ k.get k.cp hn (handed_of k.rel) (h _ (I.tok _))

theorem getmeth_ok {m : Str} {g : Addr} {pl : Sem Bool} {Q : Value × List Value → Shared → Prop} (I : Inv X pins σ H s) (e : H a = some (.ins C dx fs)) (c : Cls X.K C) (k : Meth X.K C m g) (l : fs.lookup m = none)
    (h : Q (.ref g, [.ref a]) s) : wpAny (model X.prog X.w) A (getMethod (.ref a) m pl) Q E s := by
  obtain ⟨mA, O, r, _, _, _⟩ := ins_get I.hok e
  have hn : mA m = none := RelO.none_of (by rw [← l]; exact r m)
  exact get_meth I.kIn O (c.get m) k.at_ k.fn hn h

theorem setattr_ok {y : V} {u : Value} {Q : Unit → Shared → Prop} (I : Inv X pins σ H s) (e : H a = some (.ins C dx fs)) (c : Cls X.K C) (n : NoAttr X.K C f) (hl : fs.length < 1000) (ry : RelV y u)
    (h : ∀ s', Inv X pins σ (upd H a (.ins C dx (putF f y fs))) s' → Q () s') : wpAny (model X.prog X.w) A (setAttr (.ref a) f u) Q E s := by
  obtain ⟨mA, O, r, wi, _, ho⟩ := ins_get I.hok e
  have hz : (fs.map (·.1)).length ≤ sizeLine := by rw [List.length_map, sizeLine_eq]; omega
  refine set_map I.kIn O c.sa c.po n.taker c.hd wi hz fun h' O' sb => h _ ?_
  have hd : ∃ o, h'.get? dx = some o := let ⟨o, _, _, e', _⟩ := O'.ns; ⟨o, e'⟩
  refine I.write (x := a) (e := dx) (by rw [e]; exact True.intro) (.inr ho) (fun b q hb z => (sb.2 b hb).trans z) hd ?_
  refine ⟨by rw [upd_ne O.ne]; exact ho, ?_, O.ne, O'.obj, _, O'.ns, fun g => ?_, fun g hg => ?_⟩
  · have := length_putF f y fs; omega
  · show RelO ((putF f y fs).lookup g) (if g = f then some u else mA g)
    rw [lookup_putF]
    by_cases q : g = f
    · rw [if_pos q, if_pos q]; exact ry
    · rw [if_neg q, if_neg q]; exact r g
  · by_cases q : g = f
    · rw [q]; exact (keys_putF f y fs).1
    · refine (keys_putF f y fs).2 g (wi g fun z => hg ?_)
      show (if g = f then some u else mA g) = none
      rw [if_neg q]; exact z

/-- a new instance, tracked, without attributes -/
theorem Inv.made (I : Inv X pins σ H s) : Inv X pins σ (upd (upd H s.heap.objs.size (.own (s.heap.objs.size + 1))) (s.heap.objs.size + 1) (.ins C s.heap.objs.size []))
    { s with heap := (s.heap.push PySem.W.emptyDict).push (PySem.W.instObj C s.heap.objs.size) } := by
  have e1 : (s.heap.push PySem.W.emptyDict).get? s.heap.objs.size = some PySem.W.emptyDict := Heap.get?_push_size s.heap rfl
  have e2 : ((s.heap.push PySem.W.emptyDict).push (PySem.W.instObj C s.heap.objs.size)).get? (s.heap.objs.size + 1) = some (PySem.W.instObj C s.heap.objs.size) := by
    have := Heap.get?_push_size (s.heap.push PySem.W.emptyDict) (o := PySem.W.instObj C s.heap.objs.size) rfl
    rwa [Heap.size_push] at this
  have e3 : (s.heap.push PySem.W.emptyDict).Ns s.heap.objs.size (fun _ => none) := ⟨PySem.W.emptyDict, #[], _, e1, rfl, (fun e he => absurd he (by simp)), fun _ => rfl⟩
  have I1 := I.laid (a := s.heap.objs.size) (o := .own (s.heap.objs.size + 1)) (h' := s.heap.push PySem.W.emptyDict) (t' := s.toks) (fun b u q => Heap.get?_push_of_some _ q) (Nat.le_refl _) ⟨_, e1⟩
  refine I1.laid (a := s.heap.objs.size + 1) (o := .ins C s.heap.objs.size []) (t' := s.toks) (fun b u q => Heap.get?_push_of_some _ q) (Nat.le_of_eq (Heap.size_push _ _)) ?_
  have ne : s.heap.objs.size ≠ s.heap.objs.size + 1 := Nat.ne_of_lt (Nat.lt_succ_self _)
  refine ⟨by rw [upd_ne ne, upd_same], Nat.zero_le _, ne, e2, fun _ => none, (Heap.Ns1.of_empty e3).at fun o q => Heap.get?_push_of_some _ q, fun _ => True.intro, fun y hy => absurd rfl hy⟩

/-- e.f where nothing but the object is asked: through attributeBase (super) and the last hold -/
theorem attr_of {prog : Program} {w : World} {env : Env} {e : Expr} {f : Str} {pos : Pos} {s : Shared} {Q : Value → Shared → Prop} (hb : attributeBase e f env (eval e env) = eval e env)
    (h : wpAny (model prog w) A (eval e env) (fun o s₁ => wpAny (model prog w) A (getAttr o f true) Q E s₁) E s) : wpAny (model prog w) A (eval (.Attribute e f pos) env) Q E s :=
  Attribute_any_ h (by rw [arm_eval_Attribute, hb])
end

/-! ### readings and rules -/
/-- e.f, an attribute of the instance -/
def tFld (K : PySem.W.Frag) (ta : TE) (f : Str) : TE := fun σ H Q => ta σ H fun x H1 => ∃ a C dx fs v, x = .ref a ∧ H1 a = some (.ins C dx fs) ∧ Cls K C ∧ NoAttr K C f ∧ fs.lookup f = some v ∧ Q v H1
/-- e.f, a constant of the class -/
def tCon (K : PySem.W.Frag) (ta : TE) (f : Str) : TE := fun σ H Q => ta σ H fun x H1 => ∃ a C dx fs v u, x = .ref a ∧ H1 a = some (.ins C dx fs) ∧ Cls K C ∧ Con K C f v u ∧ fs.lookup f = none ∧ Q v H1
/-- e.f = value -/
def sFld (K : PySem.W.Frag) (ta tv : TE) (f : Str) : TS := fun D σ H => tv σ H fun y H1 => ta σ H1 fun x H2 => ∃ a C dx fs, x = .ref a ∧ H2 a = some (.ins C dx fs) ∧ Cls K C ∧ NoAttr K C f ∧ fs.length < 1000 ∧
  D.nx σ (upd H2 a (.ins C dx (putF f y fs)))
/-- an augmented operator on two values -/
def InOp (X : Cx) (op : Operator) (rd : V → V → Hp → VK → Prop) : Prop :=
  ∀ (pins : List (Addr × Obj)) (s : Shared) (σ : St) (H : Hp) (x y : V) (u v : Value) (Q : VK), Inv X pins σ H s → RelV x u → RelV y v → rd x y H Q → wpAny (model X.prog X.w) X.A (inplaceOp op u v) (EP X pins σ Q) X.xe s
/-- e.f op= value -/
def sFldAug (K : PySem.W.Frag) (ta tv : TE) (rd : V → V → Hp → VK → Prop) (f : Str) : TS := fun D σ H => ta σ H fun x H1 => ∃ a C dx fs v, x = .ref a ∧ H1 a = some (.ins C dx fs) ∧ Cls K C ∧ NoAttr K C f ∧ fs.lookup f = some v ∧
  tv σ H1 fun y H2 => rd v y H2 fun z H3 => ∃ dx' fs', H3 a = some (.ins C dx' fs') ∧ fs'.length < 1000 ∧ D.nx σ (upd H3 a (.ins C dx' (putF f z fs')))

section
variable {X : Cx} {o e value : Expr} {f : Str} {pos pos' tpos : Pos} {ta tv : TE}
theorem pe_fld (he : PE X e ta) (hb : attributeBase e f X.env (eval e X.env) = eval e X.env) : PE X (.Attribute e f pos) (tFld X.K ta f) := by
  intro pins s σ H Q I h
  refine attr_of hb (thn (he pins s σ H _ I h) fun u s1 ⟨x, H1, I1, rx, a, C, dx, fs, v, ex, ea, c, n, l, q⟩ => ?_)
  subst ex
  obtain rfl : u = Value.ref a := rx
  exact getattr_ok I1 ea c n l fun u' s2 I2 ru => ⟨v, H1, I2, ru, q⟩
theorem pe_con (he : PE X e ta) (hb : attributeBase e f X.env (eval e X.env) = eval e X.env) : PE X (.Attribute e f pos) (tCon X.K ta f) := by
  intro pins s σ H Q I h
  refine attr_of hb (thn (he pins s σ H _ I h) fun u s1 ⟨x, H1, I1, rx, a, C, dx, fs, v, u0, ex, ea, c, k, l, q⟩ => ?_)
  subst ex
  obtain rfl : u = Value.ref a := rx
  exact getcon_ok I1 ea c k l fun s2 I2 => ⟨v, H1, I2, k.rel, q⟩
theorem ps_fld (ha : PE X o ta) (hv : PE X value tv) (hs : swapsWith value (some (.Attribute o f pos')) pos.line X.env = pure false) : PS X (.Assign [.Attribute o f pos'] value pos) (sFld X.K ta tv f) := by
  intro pins s σ H D I h
  refine plainObj_wpAny_Assign_Attribute (thn (hv pins s σ H _ I h) fun u s1 ⟨y, H1, I1, ry, q⟩ => thn (ha pins s1 σ H1 _ I1 q) fun ov s2 ⟨x, H2, I2, rx, a, C, dx, fs, ex, ea, c, n, l, q2⟩ => ?_) hs
  subst ex
  obtain rfl : ov = Value.ref a := rx
  exact setattr_ok I2 ea c n l ry fun s3 I3 => ⟨σ, _, I3, q2⟩
theorem ps_fldaug {op : Operator} {rd : V → V → Hp → VK → Prop} (ha : PE X o ta) (hv : PE X value tv) (hop : InOp X op rd) : PS X (.AugAssign (.Attribute o f tpos) op value pos) (sFldAug X.K ta tv rd f) := by
  intro pins s σ H D I h
  refine wpAny_AugAssign_AttributeAny (thn (ha pins s σ H _ I h) fun ov s1 ⟨x, H1, I1, rx, a, C, dx, fs, v, ex, ea, c, n, l, q⟩ => ?_)
  subst ex
  obtain rfl : ov = Value.ref a := rx
  refine getattr_ok I1 ea c n l fun u s2 I2 ru => thn (hv pins s2 σ H1 _ I2 q) fun w3 s3 ⟨y, H2, I3, ry, q3⟩ => thn (hop pins s3 σ H2 v y u w3 _ I3 ru ry q3) fun w4 s4 ⟨z, H3, I4, rz, dx', fs', ea', l', q4⟩ => ?_
  exact setattr_ok I4 ea' c n l' rz fun s5 I5 => ⟨σ, _, I5, q4⟩
def rAdd : V → V → Hp → VK → Prop := fun x y H Q => ∃ i j, x = .int i ∧ y = .int j ∧ Q (.int (i + j)) H
def rSub : V → V → Hp → VK → Prop := fun x y H Q => ∃ i j, x = .int i ∧ y = .int j ∧ Q (.int (i - j)) H
theorem in_add : InOp X .Add rAdd := by
  rintro pins s σ H x y u v Q I rx ry ⟨i, j, rfl, rfl, q⟩
  obtain ⟨t, rfl⟩ := (show ∃ t, u = Value.int i t from rx)
  obtain ⟨t', rfl⟩ := (show ∃ t', v = Value.int j t' from ry)
  exact PyProof.Rows.iadd_int ⟨.int (i + j), H, I.tok _, ⟨_, rfl⟩, q⟩
theorem in_sub : InOp X .Sub rSub := by
  rintro pins s σ H x y u v Q I rx ry ⟨i, j, rfl, rfl, q⟩
  obtain ⟨t, rfl⟩ := (show ∃ t, u = Value.int i t from rx)
  obtain ⟨t', rfl⟩ := (show ∃ t', v = Value.int j t' from ry)
  exact PyProof.Rows.isub_int ⟨.int (i - j), H, I.tok _, ⟨_, rfl⟩, q⟩

/-- what is between an instance and its method: the tree of a method call -/
theorem methcall_of {pl : Sem Bool} {m : Str} {apos : Pos} {args : List Expr} {pins : List (Addr × Obj)} {s : Shared} {σ : St} {H : Hp} {Q : Value → Shared → Prop} {te : TE} (he : PE X e te) (I : Inv X pins σ H s)
    (h : te σ H fun x H1 => ∃ a C dx fs g, x = .ref a ∧ H1 a = some (.ins C dx fs) ∧ Cls X.K C ∧ Meth X.K C m g ∧ fs.lookup m = none ∧
      ∀ s1, Inv X pins σ H1 s1 → wpAny (model X.prog X.w) X.A (callWith pos (.ref g) [.ref a] (backTo pos (starEach args X.env)) (backToKw pos (keywordEach [] X.env))) Q X.xe s1)
    (ht : eval (.Call (.Attribute e m apos) args [] pos) X.env = (do
      let ov ← eval e X.env
      standAt apos.atName
      let (f, first) ← holding [ov] (getMethod ov m pl)
      callWith pos f first (backTo pos (starEach args X.env)) (backToKw pos (keywordEach [] X.env)))) :
    wpAny (model X.prog X.w) X.A (eval (.Call (.Attribute e m apos) args [] pos) X.env) Q X.xe s := by
  refine PySem.W.methodCall_KW (pl := pl) (thn (he pins s σ H _ I h) fun u s1 ⟨x, H1, I1, rx, a, C, dx, fs, g, ex, ea, c, k, l, q⟩ => ?_) ht
  subst ex
  obtain rfl : u = Value.ref a := rx
  exact getmeth_ok I1 ea c k l (q s1 I1)
end

/-! ### isinstance -/
section
variable {X : Cx} {pins : List (Addr × Obj)} {σ : St} {H : Hp} {s : Shared} {A : Around} {E : Value → Shared → Prop} {Q : Value → Shared → Prop} {c : Value} {b : Bool}
/-- the type of a value, as the fragment's deciders take it; for an instance its class -/
inductive TyOf (K : PySem.W.Frag) (H : Hp) : V → Value → Prop where
  | non : TyOf K H .non (.type "NoneType")
  | bl (x : Bool) : TyOf K H (.bl x) (.type "bool")
  | int (i : Int) : TyOf K H (.int i) (.type "int")
  | str (x : Str) : TyOf K H (.str x) (.type "str")
  | flt (x : UInt64) : TyOf K H (.flt x) (.type "float")
  | lst {a : Addr} {xs : List V} (e : H a = some (.lst xs)) : TyOf K H (.ref a) (.type "list")
  | frz {a : Addr} {o : Obj} {xs : List V} (e : H a = some (.frz o (.lst xs))) : TyOf K H (.ref a) (.type "list")
  | tup {a : Addr} {xs : List V} (e : H a = some (.tup xs)) : TyOf K H (.ref a) (.type "tuple")
  | dK {a : Addr} {kvs : List (Key × V)} (e : H a = some (.dK kvs)) : TyOf K H (.ref a) (.type "dict")
  | dT {a : Addr} {kvs : List (List Key × V)} (e : H a = some (.dT kvs)) : TyOf K H (.ref a) (.type "dict")
  | ins {a C dx : Addr} {fs : List (Str × V)} (e : H a = some (.ins C dx fs)) (cl : Cls K C) (ha : PySem.W.findIn K (.ref C) "__class__" = some (some (.builtin "object.__class__")))
      (hn : PySem.W.specialIn K (.builtin "object.__class__") "__get__" = some (some (.builtin "getset_descriptor.__get__"))) (htk : PySem.W.takesIn K (.builtin "object.__class__") = some true)
      (hm : PySem.W.mroIn K C (.type "object") = some true) : TyOf K H (.ref a) (.ref C)
/-- isinstance(x, c) for one class c, a built-in or an own one: kitOne's answer -/
theorem isinst_ok {x : V} {u t : Value} (I : Inv X pins σ H s) (rx : RelV x u) (ty : TyOf X.K H x t) (e : PySem.W.kitOne X.K t c = some b) (h : ∀ tk, Q (.bool b) { s with toks := tk }) :
    wpAny (model X.prog X.w) A (call (.builtin "isinstance") [u, c]) Q E s := by
  cases ty with
  | non => cases (show u = Value.none from rx); exact PySem.W.kia_one PySem.W.kitx_none I.kIn True.intro e (fun z => nomatch z) h
  | bl y => cases (show u = Value.bool y from rx); exact PySem.W.kia_one PySem.W.kitx_bool I.kIn True.intro e (fun z => nomatch z) h
  | int i => obtain ⟨t, q⟩ := (show ∃ t, u = Value.int i t from rx); cases q; exact PySem.W.kia_one PySem.W.kitx_int I.kIn True.intro e (fun z => nomatch z) h
  | str y => obtain ⟨t, q⟩ := (show ∃ t, u = Value.str y t from rx); cases q; exact PySem.W.kia_one PySem.W.kitx_str I.kIn True.intro e (fun z => nomatch z) h
  | flt y => obtain ⟨t, q⟩ := (show ∃ t, u = Value.float y t from rx); cases q; exact PySem.W.kia_one PySem.W.kitx_float I.kIn True.intro e (fun z => nomatch z) h
  | @lst a xs ea =>
    cases (show u = Value.ref a from rx)
    obtain ⟨_, _, n, _, h1⟩ := (show ObjOk X.prog X.w H s.heap a (.lst xs) from I.hok a _ ea)
    exact PySem.W.kia_one PySem.W.kitx_list I.kIn ⟨_, h1, rfl⟩ e (fun z => nomatch z) h
  | @frz a ob xs ea =>
    cases (show u = Value.ref a from rx)
    obtain ⟨_, _, _, n, _, h1⟩ := (show ObjOk X.prog X.w H s.heap a (.frz ob (.lst xs)) from I.hok a _ ea)
    exact PySem.W.kia_one PySem.W.kitx_list I.kIn ⟨_, h1, rfl⟩ e (fun z => nomatch z) h
  | @tup a xs ea =>
    cases (show u = Value.ref a from rx)
    obtain ⟨_, _, _, p⟩ := (show ObjOk X.prog X.w H s.heap a (.tup xs) from I.hok a _ ea)
    obtain ⟨o, h1, h2, _⟩ := p
    exact PySem.W.kia_one PySem.W.kitx_tuple I.kIn ⟨o, h1, h2⟩ e (fun z => nomatch z) h
  | @dK a kvs ea =>
    cases (show u = Value.ref a from rx)
    obtain ⟨_, _, vs, _, p⟩ := (show ObjOk X.prog X.w H s.heap a (.dK kvs) from I.hok a _ ea)
    obtain ⟨o, es, ep, h1, h2, _⟩ := p
    exact PySem.W.kia_one PySem.W.kitx_dict I.kIn ⟨o, h1, h2.1⟩ e (fun z => nomatch z) h
  | @dT a kvs ea =>
    cases (show u = Value.ref a from rx)
    obtain ⟨_, _, xs, _, o, es, ep, h1, h2, _⟩ := (show ObjOk X.prog X.w H s.heap a (.dT kvs) from I.hok a _ ea)
    exact PySem.W.kia_one PySem.W.kitx_dict I.kIn ⟨o, h1, h2.1⟩ e (fun z => nomatch z) h
  | @ins a C dx fs ea cl ha hn htk hm =>
    cases (show u = Value.ref a from rx)
    obtain ⟨mA, O, _⟩ := ins_get I.hok ea
    obtain ⟨od, J, _⟩ := O.look
    exact PySem.W.kia_one (PySem.W.kitx_own (cl.get _) cl.hd ha hn htk hm) I.kIn J e (fun z => nomatch z) h
end
end L2

namespace L2
open PySem PySem.Spec PyProof.Rows

/-! ### room -/
structure Room (k : Nat) (A : Around) : Prop where
  hd : A.handled = none
  dp : A.depth + 3 * k + 5 < recursionLimit
  un : A.units + 16 * k + 200 < cLine
theorem Room.mono {j k : Nat} {A : Around} (r : Room k A) (h : j ≤ k) : Room j A := ⟨r.hd, by have := r.dp; omega, by have := r.un; omega⟩
theorem Room.deeper {k : Nat} {A : Around} (r : Room (k + 1) A) (env : Env) : Room k (A.deeper env) :=
  ⟨r.hd, by have := r.dp; show A.depth + 1 + 3 * k + 5 < _; omega, by have := r.un; show A.units + 3 + 16 * k + 200 < _; omega⟩
theorem Room.in1 {k : Nat} {A : Around} (r : Room (k + 1) A) : Room k A.in1 :=
  ⟨r.hd, by have := r.dp; show A.depth + 3 * k + 5 < _; omega, by have := r.un; show A.units + 1 + 16 * k + 200 < _; omega⟩
theorem make_depth {A : Around} {C : Addr} {us : List Value} {kw : List (Str × Value)} : (A.under (.builtin "type.__call__" ⟨.ref C :: us, kw⟩)).depth = A.depth + 1 := by
  first | rfl | simp [Around.under, Code.weight, Code.isCreation, Code.isGuard, Code.isCaller, Code.frames, Code.isFrame, guardIds]
theorem make_units {A : Around} {C : Addr} {us : List Value} {kw : List (Str × Value)} : (A.under (.builtin "type.__call__" ⟨.ref C :: us, kw⟩)).units = A.units + 1 := by
  first | rfl | simp [Around.under, Code.cUnits, Code.frames, Code.isFrame]
theorem Room.make {k : Nat} {A : Around} (r : Room (k + 1) A) (C : Addr) (us : List Value) (kw : List (Str × Value)) : Room k (A.under (.builtin "type.__call__" ⟨.ref C :: us, kw⟩)) :=
  ⟨r.hd, by have := r.dp; rw [make_depth]; omega, by have := r.un; rw [make_units]; omega⟩
theorem Room.depth {k : Nat} {A : Around} (r : Room k A) : A.depth < recursionLimit := by have := r.dp; omega
theorem Room.units {k : Nat} {A : Around} (r : Room k A) : A.units + 64 < cLine := by have := r.un; omega
theorem Room.units0 {k : Nat} {A : Around} (r : Room k A) : A.units < cLine := by have := r.un; omega

/-! ### argument lists and displays -/
def tNil : TA := fun _ H Q => Q [] H
def tCons (ta : TE) (tr : TA) : TA := fun σ H Q => ta σ H fun x H1 => tr σ H1 fun xs H2 => Q (x :: xs) H2
section
variable {X : Cx} {e : Expr} {es : List Expr} {te : TE} {t : TA} {pos : Pos}
theorem pa_nil : PA X [] tNil := fun _ _ _ _ H Q I h => Calls.spliced_nil ⟨[], H, I, .nil, h⟩
theorem pa_cons (ha : PE X e te) (hr : PA X es t) (hs : starEach (e :: es) X.env = (false, eval e X.env) :: starEach es X.env := by rfl) : PA X (e :: es) (tCons te t) := by
  intro pos pins s σ H Q I h
  rw [hs]
  show wpAny _ _ (spliced ((false, eval e X.env) :: backTo pos (starEach es X.env))) _ _ s
  refine Calls.spliced_cons (thn (ha pins s σ H _ I h) fun u s1 ⟨x, H1, I1, r1, q1⟩ => ?_)
  exact thn (hr pos pins s1 σ H1 _ I1 q1) fun us s2 ⟨xs, H2, I2, r2, q2⟩ => ⟨x :: xs, H2, I2, .cons r1 r2, q2⟩

/-- a tuple, a list of written items -/
def tTup (t : TA) : TE := fun σ H Q => t σ H fun xs H1 => xs.length ≤ sizeLine ∧ ∀ p, H1 p = none → Q (.ref p) (upd H1 p (.tup xs))
def tLst (t : TA) : TE := fun σ H Q => t σ H fun xs H1 => xs.length ≤ sizeLine ∧ ∀ p, H1 p = none → Q (.ref p) (upd H1 p (.lst xs))
theorem pe_tup {x1} (h : PA X es t) : PE X (.Tuple es x1 pos) (tTup t) := by
  intro pins s σ H Q I hq
  refine wpAny_Tuple_spliced (thn (h pos pins s σ H _ I hq) fun us s1 ⟨xs, H1, I1, r, z, q⟩ => ⟨by rw [← r.length]; exact z, ?_⟩)
  have hf : H1 s1.heap.objs.size = none := I1.hok.fresh (Nat.le_refl _)
  refine ⟨.ref s1.heap.objs.size, upd H1 s1.heap.objs.size (.tup xs), I1.laid (t' := s1.toks) (fun b u e => Heap.get?_push_of_some _ e) (Nat.le_refl _) ?_, rfl, q _ hf⟩
  exact ⟨z, us, r, ⟨_, Heap.get?_push_size _ rfl, rfl, _, rfl⟩⟩
theorem pe_lst (h : PA X es t) : PE X (.List es pos) (tLst t) := by
  intro pins s σ H Q I hq
  refine wpAny_List_spliced (thn (h pos pins s σ H _ I hq) fun us s1 ⟨xs, H1, I1, r, z, q⟩ => ⟨by rw [← r.length]; exact z, ?_⟩)
  have hf : H1 s1.heap.objs.size = none := I1.hok.fresh (Nat.le_refl _)
  refine ⟨.ref s1.heap.objs.size, upd H1 s1.heap.objs.size (.lst xs), I1.laid (t' := s1.toks) (fun b u e => Heap.get?_push_of_some _ e) (Nat.le_refl _) ?_, rfl, q _ hf⟩
  exact ⟨z, us, 0, r, Heap.get?_push_size _ rfl⟩
end

/-! ### what a def promises -/
/-- a def's promise: the bound arguments in the parameters' order, the heap, the wanted end, the wanted exception -/
abbrev Sp := List V → Hp → VK → XK → Prop
/-- how an exception lies behind a call (file 08 gives it): the callers' frames, abstract heap and state ahead of the call, the wish, the exception, the state -/
abbrev CXT := List Env → Hp → Shared → XK → Value → Shared → Prop

/-- the state at a call -/
structure Env0 (P : Program) (w : World) (K : PySem.W.Frag) (mg : Str → Option Value) (base : Heap) (A : Around) (outer : List Env) (s : Shared) (H : Hp) : Prop where
  frames : A.frames = some outer
  mod : Mod K mg base
  bs : ∀ b o, base.get? b = some o → s.heap.get? b = some o ∧ H b = none
  bsz : base.objs.size ≤ s.heap.objs.size
  funs : s.heap.FunFrames base outer
  frf : ∀ b ∈ frs outer, H b = none
  hok : HOk P w H s.heap
  bare : AllBare s.gens
/-- a call's end -/
def CE (outer : List Env) (P : Program) (w : World) (H : Hp) (s : Shared) (Q : VK) (u : Value) (s' : Shared) : Prop :=
  ∃ v H', s'.os = s.os ∧ AllBare s'.gens ∧ Un (frs outer) [] H H' s.heap s'.heap ∧ HOk P w H' s'.heap ∧ RelV v u ∧ Q v H'
def CR (CX : CXT) (outer : List Env) (P : Program) (w : World) (H : Hp) (s : Shared) (Q : VK) (E : XK) (r : Result) (s' : Shared) : Prop :=
  match r with
  | .ok (.ret u) => CE outer P w H s Q u s'
  | .ok _ => False
  | .error e => CX outer H s E e s'
structure FnOk (P : Program) (w : World) (K : PySem.W.Frag) (mg : Str → Option Value) (base : Heap) (CX : CXT) (k : Nat) (f : Addr) (fd : FuncData) (ps : List Str) (sp : Sp) : Prop where
  len : ∀ vs H Q E, sp vs H Q E → vs.length = ps.length
  run : ∀ (A : Around) (outer : List Env) (s : Shared) (H : Hp) (args : Args) (us : List Value) (vs : List V) (Q : VK) (E : XK), Room k A → Env0 P w K mg base A outer s H → BindsTo s fd args (ps.zip us) → Vals vs us → sp vs H Q E →
    codeAny (model P w) A (.call (.ref f) args) (CR CX outer P w H s Q E) s
theorem FnOk.mono {P : Program} {w : World} {K : PySem.W.Frag} {mg : Str → Option Value} {base : Heap} {CX : CXT} {j k : Nat} {f : Addr} {fd : FuncData} {ps : List Str} {sp : Sp} (F : FnOk P w K mg base CX j f fd ps sp) (h : j ≤ k) :
    FnOk P w K mg base CX k f fd ps sp := ⟨F.len, fun A outer s H args us vs Q E hr => F.run A outer s H args us vs Q E (hr.mono h)⟩
/-- a weaker promise -/
theorem FnOk.imp {P : Program} {w : World} {K : PySem.W.Frag} {mg : Str → Option Value} {base : Heap} {CX : CXT} {k : Nat} {f : Addr} {fd : FuncData} {ps : List Str} {sp sp' : Sp} (F : FnOk P w K mg base CX k f fd ps sp)
    (h : ∀ vs H Q E, sp' vs H Q E → sp vs H Q E) : FnOk P w K mg base CX k f fd ps sp' :=
  ⟨fun vs H Q E q => F.len vs H Q E (h _ _ _ _ q), fun A outer s H args us vs Q E hr he hb hv hs => F.run A outer s H args us vs Q E hr he hb hv (h _ _ _ _ hs)⟩

theorem Env0.make {P : Program} {w : World} {K : PySem.W.Frag} {mg : Str → Option Value} {base : Heap} {A : Around} {outer : List Env} {s : Shared} {H : Hp} (e : Env0 P w K mg base A outer s H) (C : Addr) (us : List Value) (kw : List (Str × Value)) :
    Env0 P w K mg base (A.under (.builtin "type.__call__" ⟨.ref C :: us, kw⟩)) outer s H := ⟨by first | exact e.frames | (simpa [Around.under, Code.envs, Code.isFrame, pushEnvs] using e.frames), e.mod, e.bs, e.bsz, e.funs, e.frf, e.hok, e.bare⟩
theorem Env0.in1 {P : Program} {w : World} {K : PySem.W.Frag} {mg : Str → Option Value} {base : Heap} {A : Around} {outer : List Env} {s : Shared} {H : Hp} (e : Env0 P w K mg base A outer s H) :
    Env0 P w K mg base A.in1 outer s H := ⟨e.frames, e.mod, e.bs, e.bsz, e.funs, e.frf, e.hok, e.bare⟩

section
variable {X : Cx} {pins : List (Addr × Obj)} {σ : St} {H : Hp} {s s' : Shared}
/-- from a body: what a callee wants -/
theorem Inv.env0 (I : Inv X pins σ H s) : Env0 X.prog X.w X.K X.mg X.base X.A X.stack s H :=
  ⟨I.ok.frames, I.ok.mod, I.bs, Nat.le_trans I.ok.bsz I.sz, I.stack, I.stkFree, I.hok, I.bare⟩
/-- behind a call -/
theorem Inv.after {Q : VK} {u : Value} (I : Inv X pins σ H s) (h : CE X.stack X.prog X.w H s Q u s') : EP X pins σ Q u s' := by
  obtain ⟨v, H', os, bare, un, hok, r, q⟩ := h
  obtain ⟨hh, g, d, t, os'⟩ := s'
  obtain rfl : os' = s.os := os
  exact ⟨v, H', I.call (h' := hh) (g' := g) (d' := d) (t' := t) (ch := []) un hok bare (fun b z => absurd z (by simp)), r, q⟩
end

/-! ### calls -/
/-- f(..): the written arguments, then the defaults dvs; E: what is wanted of an exception -/
def tCall (sp : Sp) (dvs : List V) (E : XK) (t : TA) : TE := fun σ H Q => t σ H fun vs H1 => sp (vs ++ dvs) H1 Q E
/-- o.m(..) of an instance of the class at C -/
def tMeth (C : Addr) (m : Str) (sp : Sp) (dvs : List V) (E : XK) (ta : TE) (t : TA) : TE := fun σ H Q => ta σ H fun x H1 => ∃ a dx fs, x = .ref a ∧ H1 a = some (.ins C dx fs) ∧ fs.lookup m = none ∧
  t σ H1 fun vs H2 => sp (x :: (vs ++ dvs)) H2 Q E
/-- C(..): a new instance and its dict, then __init__ -/
def tMake (C : Addr) (sp : Sp) (dvs : List V) (E : XK) (t : TA) : TE := fun σ H Q => t σ H fun vs H1 => ∀ x dx, H1 x = none → H1 dx = none → dx ≠ x →
  sp (.ref x :: (vs ++ dvs)) (upd (upd H1 dx (.own x)) x (.ins C dx [])) (fun v H2 => v = .non ∧ Q (.ref x) H2) E

/-- how the parameters are bound: us the positional arguments, kw the keywords' values by name, ds the defaults that fill up -/
def Binds (K : PySem.W.Frag) (fd : FuncData) (ps : List Str) (ds : List Value) : Prop :=
  ∀ (s : Shared) (us : List Value), K.In s.heap → (us ++ ds).length = ps.length → BindsTo s fd ⟨us, []⟩ (ps.zip (us ++ ds))
/-- every parameter is given -/
theorem Binds.all {K : PySem.W.Frag} {fd : FuncData} {ps : List Str} (h : ∀ us : List Value, us.length = ps.length → bindArgs fd ⟨us, []⟩ = pure (ps.zip us)) : Binds K fd ps [] := fun s us _ hl => by
  rw [List.append_nil] at hl ⊢
  exact .of_eq (h us hl)

/-- an exception of a callee reaches what this body wants of exceptions -/
def Passes (CX : CXT) (X : Cx) (E : XK) : Prop := ∀ (pins : List (Addr × Obj)) (σ : St) (H : Hp) (s : Shared) (e : Value) (s' : Shared), Inv X pins σ H s → CX X.stack H s E e s' → X.xe e s'

section
variable {X : Cx} {CX : CXT} {k : Nat} {f C : Addr} {fd : FuncData} {ps : List Str} {sp : Sp} {dvs : List V} {ds : List Value} {E : XK} {x m : Str} {p pos apos : Pos} {e o : Expr} {es : List Expr} {ta : TE} {t : TA}

/-- the callee runs -/
theorem run_fn {pins : List (Addr × Obj)} {σ : St} {H : Hp} {s : Shared} {Q : VK} {us : List Value} {vs : List V} (F : FnOk X.prog X.w X.K X.mg X.base CX k f fd ps sp) (hr : Room k X.A) (hb : Binds X.K fd ps ds) (hd : Vals dvs ds) (hx : Passes CX X E)
    (I : Inv X pins σ H s) (r : Vals vs us) (h : sp (vs ++ dvs) H Q E) : wpAny (model X.prog X.w) X.A (call (.ref f) us) (EP X pins σ Q) X.xe s := by
  have r2 : Vals (vs ++ dvs) (us ++ ds) := r.append hd
  have hl : (us ++ ds).length = ps.length := by rw [← r2.length]; exact F.len _ _ _ _ h
  refine wpAny_call (codeAny_mono (F.run X.A X.stack s H ⟨us, []⟩ (us ++ ds) (vs ++ dvs) Q E hr I.env0 (hb s us I.kIn hl) r2 h) fun r s' hq => ?_)
  cases r with
  | error e => exact hx pins σ H s e s' I hq
  | ok fl =>
    cases fl with
    | ret u => exact I.after hq
    | next => exact False.elim hq
    | brk => exact False.elim hq
    | cont => exact False.elim hq

theorem pe_call (F : FnOk X.prog X.w X.K X.mg X.base CX k f fd ps sp) (hr : Room k X.A) (hg : Gl X x) (hm : X.mg x = some (.ref f)) (hk : PySem.W.keepIn X.K (.ref f) = true) (hb : Binds X.K fd ps ds) (hd : Vals dvs ds) (hx : Passes CX X E)
    (ha : PA X (e :: es) t) (hdb : (x == ("__debug__" : Str)) = false := by decide) (he : starEach (e :: es) X.env = (false, eval e X.env) :: starEach es X.env := by rfl) (hpl : (backTo pos (starEach es X.env)).any (·.1) = false := by rfl) :
    PE X (.Call (.Name x p) (e :: es) [] pos) (tCall sp dvs E t) := by
  intro pins s σ H Q I h
  refine wpAny_Call_Name_kw (ld_glob I hg hm ?_ hdb)
  refine PySem.W.callWith_K (h₀ := X.base) I.ok.mod.kin hk (thn (ha pos pins s σ H _ I h) fun us s1 ⟨vs, H1, I1, r, q⟩ => ⟨I1.kIn, ?_⟩) he hpl
  exact run_fn F hr hb hd hx I1 r q
theorem pe_call0 (F : FnOk X.prog X.w X.K X.mg X.base CX k f fd ps sp) (hr : Room k X.A) (hg : Gl X x) (hm : X.mg x = some (.ref f)) (hk : PySem.W.keepIn X.K (.ref f) = true) (hb : Binds X.K fd ps ds) (hd : Vals dvs ds) (hx : Passes CX X E)
    (hdb : (x == ("__debug__" : Str)) = false := by decide) : PE X (.Call (.Name x p) [] [] pos) (tCall sp dvs E tNil) := by
  intro pins s σ H Q I h
  refine wpAny_Call_Name_kw (ld_glob I hg hm ?_ hdb)
  exact PySem.W.callWith_K0 I.kIn hk (run_fn (us := []) F hr hb hd hx I .nil h)

/-- o.m(e, ..) -/
theorem pe_meth {pl : Sem Bool} (he : PE X o ta) (c : Cls X.K C) (hm : Meth X.K C m f) (F : FnOk X.prog X.w X.K X.mg X.base CX k f fd ps sp) (hr : Room k X.A) (hb : Binds X.K fd ps ds) (hd : Vals dvs ds) (hx : Passes CX X E) (ha : PA X (e :: es) t)
    (hst : starEach (e :: es) X.env = (false, eval e X.env) :: starEach es X.env := by rfl) (hpl : (backTo pos (starEach es X.env)).any (·.1) = false := by rfl)
    (ht : eval (.Call (.Attribute o m apos) (e :: es) [] pos) X.env = (do
      let ov ← eval o X.env
      standAt apos.atName
      let (f, first) ← holding [ov] (getMethod ov m pl)
      callWith pos f first (backTo pos (starEach (e :: es) X.env)) (backToKw pos (keywordEach [] X.env))) := by rfl) :
    PE X (.Call (.Attribute o m apos) (e :: es) [] pos) (tMeth C m sp dvs E ta t) := by
  intro pins s σ H Q I h
  refine PySem.W.methodCall_KW (pl := pl) (thn (he pins s σ H _ I h) fun u s1 ⟨x, H1, I1, rx, a, dx, fs, ex, ea, l, q⟩ => ?_) ht
  subst ex
  obtain rfl : u = Value.ref a := rx
  refine getmeth_ok I1 ea c hm l ?_
  refine PySem.W.callWith_K (first := [.ref a]) (h₀ := X.base) I.ok.mod.kin hm.kp (thn (ha pos pins s1 σ H1 _ I1 q) fun us s2 ⟨vs, H2, I2, r, q2⟩ => ⟨I2.kIn, ?_⟩) hst hpl
  exact run_fn (us := .ref a :: us) (vs := .ref a :: vs) F hr hb hd hx I2 (.cons rfl r) q2
/-- o.m() -/
theorem pe_meth0 {pl : Sem Bool} (he : PE X o ta) (c : Cls X.K C) (hm : Meth X.K C m f) (F : FnOk X.prog X.w X.K X.mg X.base CX k f fd ps sp) (hr : Room k X.A) (hb : Binds X.K fd ps ds) (hd : Vals dvs ds) (hx : Passes CX X E)
    (ht : eval (.Call (.Attribute o m apos) [] [] pos) X.env = (do
      let ov ← eval o X.env
      standAt apos.atName
      let (f, first) ← holding [ov] (getMethod ov m pl)
      callWith pos f first (backTo pos (starEach [] X.env)) (backToKw pos (keywordEach [] X.env))) := by rfl) :
    PE X (.Call (.Attribute o m apos) [] [] pos) (tMeth C m sp dvs E ta tNil) := by
  intro pins s σ H Q I h
  refine PySem.W.methodCall_KW (pl := pl) (thn (he pins s σ H _ I h) fun u s1 ⟨x, H1, I1, rx, a, dx, fs, ex, ea, l, q⟩ => ?_) ht
  subst ex
  obtain rfl : u = Value.ref a := rx
  refine getmeth_ok I1 ea c hm l ?_
  exact PySem.W.callWith_K0 (first := [.ref a]) I1.kIn hm.kp (run_fn (us := [.ref a]) (vs := [.ref a]) F hr hb hd hx I1 (.cons rfl .nil) q)

/-- what a class must have to be made -/
structure Mk (K : PySem.W.Frag) (C f : Addr) : Prop where
  makes : PySem.W.makesIn K C = true
  init : PySem.W.findIn K (.ref C) "__init__" = some (some (.ref f))
  fn : PySem.W.isFn K (.ref f) = true
  kp : PySem.W.keepIn K (.ref C) = true

theorem run_make {pins : List (Addr × Obj)} {σ : St} {H : Hp} {s : Shared} {Q : VK} {us : List Value} {vs : List V} (M : Mk X.K C f) (F : FnOk X.prog X.w X.K X.mg X.base CX k f fd ps sp) (hr : Room (k + 1) X.A) (hb : Binds X.K fd ps ds) (hd : Vals dvs ds)
    (hx : Passes CX X E) (I : Inv X pins σ H s) (r : Vals vs us)
    (h : ∀ x dx, H x = none → H dx = none → dx ≠ x → sp (.ref x :: (vs ++ dvs)) (upd (upd H dx (.own x)) x (.ins C dx [])) (fun v H2 => v = .non ∧ Q (.ref x) H2) E) :
    wpAny (model X.prog X.w) X.A (call (.ref C) us) (EP X pins σ Q) X.xe s := by
  have hq := h (s.heap.objs.size + 1) s.heap.objs.size (I.hok.fresh (Nat.le_succ _)) (I.hok.fresh (Nat.le_refl _)) (Nat.ne_of_lt (Nat.lt_succ_self _))
  have I2 := Inv.made (C := C) I
  have r2 : Vals (V.ref (s.heap.objs.size + 1) :: (vs ++ dvs)) (Value.ref (s.heap.objs.size + 1) :: (us ++ ds)) := .cons rfl (r.append hd)
  have hl : (Value.ref (s.heap.objs.size + 1) :: us ++ ds).length = ps.length := by
    have e := r2.length
    rw [F.len _ _ _ _ hq] at e
    exact e.symm
  refine wpAny_call (make_map (f := f) I.kIn M.makes M.init (beq_iff_eq.mp M.fn) (codeAny_mono (F.run _ X.stack _ _ ⟨Value.ref (s.heap.objs.size + 1) :: us, []⟩ (Value.ref (s.heap.objs.size + 1) :: (us ++ ds)) _ _ E (hr.make C us [])
    (I2.env0.make C us []) (hb _ (Value.ref (s.heap.objs.size + 1) :: us) I2.kIn hl) r2 hq) fun r s' hq' => ?_))
  cases r with
  | error e => exact hx pins σ _ _ e s' I2 hq'
  | ok fl =>
    cases fl with
    | ret u =>
      obtain ⟨v, H', I3, rv, ev, q3⟩ := I2.after hq'
      subst ev
      exact ⟨rv, ⟨V.ref (s.heap.objs.size + 1), H', I3, rfl, q3⟩⟩
    | next => exact False.elim hq'
    | brk => exact False.elim hq'
    | cont => exact False.elim hq'
theorem pe_make (M : Mk X.K C f) (F : FnOk X.prog X.w X.K X.mg X.base CX k f fd ps sp) (hr : Room (k + 1) X.A) (hg : Gl X x) (hm : X.mg x = some (.ref C)) (hb : Binds X.K fd ps ds) (hd : Vals dvs ds) (hx : Passes CX X E)
    (ha : PA X (e :: es) t) (hdb : (x == ("__debug__" : Str)) = false := by decide) (he : starEach (e :: es) X.env = (false, eval e X.env) :: starEach es X.env := by rfl) (hpl : (backTo pos (starEach es X.env)).any (·.1) = false := by rfl) :
    PE X (.Call (.Name x p) (e :: es) [] pos) (tMake C sp dvs E t) := by
  intro pins s σ H Q I h
  refine wpAny_Call_Name_kw (ld_glob I hg hm ?_ hdb)
  refine PySem.W.callWith_K (h₀ := X.base) I.ok.mod.kin M.kp (thn (ha pos pins s σ H _ I h) fun us s1 ⟨vs, H1, I1, r, q⟩ => ⟨I1.kIn, ?_⟩) he hpl
  exact run_make M F hr hb hd hx I1 r q
theorem pe_make0 (M : Mk X.K C f) (F : FnOk X.prog X.w X.K X.mg X.base CX k f fd ps sp) (hr : Room (k + 1) X.A) (hg : Gl X x) (hm : X.mg x = some (.ref C)) (hb : Binds X.K fd ps ds) (hd : Vals dvs ds) (hx : Passes CX X E)
    (hdb : (x == ("__debug__" : Str)) = false := by decide) : PE X (.Call (.Name x p) [] [] pos) (tMake C sp dvs E tNil) := by
  intro pins s σ H Q I h
  refine wpAny_Call_Name_kw (ld_glob I hg hm ?_ hdb)
  exact PySem.W.callWith_K0 I.kIn M.kp (run_make (us := []) M F hr hb hd hx I .nil h)
end

/-! ### keywords -/
/-- the values of the keywords, from the left -/
def PK (X : Cx) (kws : List Keyword) (t : TA) : Prop :=
  ∀ (pos : Pos) (pins : List (Addr × Obj)) (s : Shared) (σ : St) (H : Hp) (Q : List V → Hp → Prop), Inv X pins σ H s → t σ H Q → wpAny (model X.prog X.w) X.A (evalAll ((backToKw pos (keywordEach kws X.env)).map (·.2))) (AP X pins σ Q) X.xe s
section
variable {X : Cx} {CX : CXT} {k : Nat} {f C : Addr} {fd : FuncData} {ps ks : List Str} {sp : Sp} {E : XK} {x m : Str} {p pos apos kpos : Pos} {e o : Expr} {es : List Expr} {kws : List Keyword} {te ta : TE} {t tk : TA} {nm : Option Str}
theorem pk_nil : PK X [] tNil := fun _ _ _ _ H Q I h => wpAny_evalAll_nil ⟨[], H, I, .nil, h⟩
theorem pk_cons (ha : PE X e te) (hr : PK X kws t) : PK X (⟨nm, e, kpos⟩ :: kws) (tCons te t) := by
  intro pos pins s σ H Q I h
  show wpAny _ _ (evalAll ((do let v ← eval e X.env; standAt pos; pure v) :: (backToKw pos (keywordEach kws X.env)).map (·.2))) _ _ s
  refine wpAny_evalAll_cons (wpAny_bind (thn (ha pins s σ H _ I h) fun u s1 ⟨x, H1, I1, r1, q1⟩ => wpAny_bind (wpAny_standAt (wpAny_pure ?_))))
  exact thn (hr pos pins s1 σ H1 _ I1 q1) fun us s2 ⟨xs, H2, I2, r2, q2⟩ => ⟨x :: xs, H2, I2, .cons r1 r2, q2⟩

/-- how a call with keywords binds: g puts the positional values us and the keywords' values ws (names ks) in the parameters' order, defaults among them -/
structure KBinds (K : PySem.W.Frag) (fd : FuncData) (ps ks : List Str) (g : List Value → List Value → List Value) (gV : List V → List V → List V) : Prop where
  to : ∀ (s : Shared) (us ws : List Value), K.In s.heap → (g us ws).length = ps.length → BindsTo s fd ⟨us, ks.zip ws⟩ (ps.zip (g us ws))
  rel : ∀ {vs : List V} {us : List Value} {zs : List V} {ws : List Value}, Vals vs us → Vals zs ws → Vals (gV vs zs) (g us ws)
def tCallK (sp : Sp) (gV : List V → List V → List V) (E : XK) (t tk : TA) : TE := fun σ H Q => t σ H fun vs H1 => tk σ H1 fun zs H2 => sp (gV vs zs) H2 Q E
variable {g : List Value → List Value → List Value} {gV : List V → List V → List V}
theorem run_fnk {pins : List (Addr × Obj)} {σ : St} {H : Hp} {s : Shared} {Q : VK} {us ws : List Value} {vs zs : List V} (F : FnOk X.prog X.w X.K X.mg X.base CX k f fd ps sp) (hr : Room k X.A) (hb : KBinds X.K fd ps ks g gV) (hx : Passes CX X E)
    (I : Inv X pins σ H s) (r : Vals vs us) (rz : Vals zs ws) (h : sp (gV vs zs) H Q E) : wpAny (model X.prog X.w) X.A (call (.ref f) us (ks.zip ws)) (EP X pins σ Q) X.xe s := by
  have r2 := hb.rel r rz
  have hl : (g us ws).length = ps.length := by rw [← r2.length]; exact F.len _ _ _ _ h
  refine wpAny_call (codeAny_mono (F.run X.A X.stack s H ⟨us, ks.zip ws⟩ (g us ws) (gV vs zs) Q E hr I.env0 (hb.to s us ws I.kIn hl) r2 h) fun r s' hq => ?_)
  cases r with
  | error e => exact hx pins σ H s e s' I hq
  | ok fl =>
    cases fl with
    | ret u => exact I.after hq
    | next => exact False.elim hq
    | brk => exact False.elim hq
    | cont => exact False.elim hq
/-- f(e, .., k = v, ..) -/
theorem pe_callK (F : FnOk X.prog X.w X.K X.mg X.base CX k f fd ps sp) (hr : Room k X.A) (hg : Gl X x) (hm : X.mg x = some (.ref f)) (hk : PySem.W.keepIn X.K (.ref f) = true) (hb : KBinds X.K fd ps ks g gV) (hx : Passes CX X E)
    (ha : PA X (e :: es) t) (hkw : PK X kws tk) (hall : (backToKw pos (keywordEach kws X.env)).all (·.1.isSome) = true := by rfl) (hks : (backToKw pos (keywordEach kws X.env)).filterMap (·.1) = ks := by rfl)
    (hdb : (x == ("__debug__" : Str)) = false := by decide) (he : starEach (e :: es) X.env = (false, eval e X.env) :: starEach es X.env := by rfl)
    (hpl : ((backTo pos (starEach (e :: es) X.env)).any (·.1) || (backToKw pos (keywordEach kws X.env)).any (·.1.isNone)) = false := by rfl) :
    PE X (.Call (.Name x p) (e :: es) kws pos) (tCallK sp gV E t tk) := by
  intro pins s σ H Q I h
  refine wpAny_Call_Name_kw (ld_glob I hg hm ?_ hdb)
  refine PySem.W.callWith_KW (h₀ := X.base) I.ok.mod.kin hk hall (thn (ha pos pins s σ H _ I h) fun us s1 ⟨vs, H1, I1, r, q⟩ => ?_) hpl he
  refine thn (hkw pos pins s1 σ H1 _ I1 q) fun ws s2 ⟨zs, H2, I2, rz, q2⟩ => ⟨I2.kIn, ?_⟩
  rw [hks]
  exact run_fnk F hr hb hx I2 r rz q2
end

/-! ### a def's body keeps its promise -/
/-- names: the parameters first -/
structure FnScope (N P : List Str) (sc : Scope) : Prop where
  kind : sc.kind = .function
  co : sc.isCoroutine = false
  gen : sc.isGenerator = false
  nd : N.Nodup
  pre : N.take P.length = P
  par : ∀ x ∈ P, sc.names.lookup x = some .local ∨ sc.names.lookup x = some .cell
  nofree : ∀ y ∈ sc.names, y.2 ≠ .free

theorem bindL_out {kindOf : Str → Option NameKind} {x : Str} : ∀ {binds : List (Str × Value)} {m : Str → Option Value}, (∀ v, (x, v) ∉ binds) → bindL kindOf binds m x = m x
  | [], _, _ => rfl
  | (n, v) :: r, m, h => by
    unfold bindL
    rw [bindL_out fun w hw => h w (List.mem_cons_of_mem _ hw)]
    split
    · have : x ≠ n := by rintro rfl; exact h v List.mem_cons_self
      simp [this]
    · rfl
theorem bindC_out {kindOf : Str → Option NameKind} {x : Str} : ∀ {binds : List (Str × Value)} {m : Str → Option Value}, (∀ v, (x, v) ∉ binds) → bindC kindOf binds m x = m x
  | [], _, _ => rfl
  | (n, v) :: r, m, h => by
    unfold bindC
    rw [bindC_out fun w hw => h w (List.mem_cons_of_mem _ hw)]
    split
    · rfl
    · have : x ≠ n := by rintro rfl; exact h v List.mem_cons_self
      simp [this]
theorem bindL_get {kindOf : Str → Option NameKind} {x : Str} {v : Value} : ∀ {P : List Str} {vs : List Value} {i : Nat} {m : Str → Option Value}, P.Nodup → P[i]? = some x → vs[i]? = some v → kindOf x = some .local →
    bindL kindOf (P.zip vs) m x = some v
  | [], _, _, _, _, h, _, _ => by simp at h
  | _ :: _, [], _, _, _, _, h, _ => by simp at h
  | p :: P, w :: vs, 0, m, nd, h1, h2, hk => by
    simp at h1 h2; subst h1; subst h2
    show bindL kindOf ((p, w) :: P.zip vs) m p = _
    unfold bindL
    rw [bindL_out fun v hv => (List.nodup_cons.mp nd).1 (List.of_mem_zip hv).1, if_pos hk]
    simp
  | p :: P, w :: vs, i + 1, m, nd, h1, h2, hk => by
    show bindL kindOf ((p, w) :: P.zip vs) m x = _
    unfold bindL
    exact bindL_get (i := i) (List.nodup_cons.mp nd).2 (by simpa using h1) (by simpa using h2) hk
theorem bindC_get {kindOf : Str → Option NameKind} {x : Str} {v : Value} : ∀ {P : List Str} {vs : List Value} {i : Nat} {m : Str → Option Value}, P.Nodup → P[i]? = some x → vs[i]? = some v → kindOf x ≠ some .local →
    bindC kindOf (P.zip vs) m x = some v
  | [], _, _, _, _, h, _, _ => by simp at h
  | _ :: _, [], _, _, _, _, h, _ => by simp at h
  | p :: P, w :: vs, 0, m, nd, h1, h2, hk => by
    simp at h1 h2; subst h1; subst h2
    show bindC kindOf ((p, w) :: P.zip vs) m p = _
    unfold bindC
    rw [bindC_out fun v hv => (List.nodup_cons.mp nd).1 (List.of_mem_zip hv).1, if_neg hk]
    simp
  | p :: P, w :: vs, i + 1, m, nd, h1, h2, hk => by
    show bindC kindOf ((p, w) :: P.zip vs) m x = _
    unfold bindC
    exact bindC_get (i := i) (List.nodup_cons.mp nd).2 (by simpa using h1) (by simpa using h2) hk

/-- the names' values at the entry -/
def start (N : List Str) (vs : List V) : St := vs.map some ++ List.replicate (N.length - vs.length) none

/-- the context of a def's body, at its entry; an exception leaves the frame, then lies as CX says -/
def cxOf (CX : CXT) (P : Program) (w : World) (K : PySem.W.Frag) (mg : Str → Option Value) (base : Heap) (N : List Str) (qual : Str) (scope : Scope) (f : Addr) (cd : Value) (A : Around) (outer : List Env) (s : Shared) (H : Hp) (E : XK) : Cx where
  prog := P
  w := w
  K := K
  mg := mg
  base := base
  A := A.deeper (envOfC qual scope s.heap.objs.size f cd)
  N := N
  s_0 := s
  H_0 := H
  env := envOfC qual scope s.heap.objs.size f cd
  outer := outer
  stack := envOfC qual scope s.heap.objs.size f cd :: outer
  ex := []
  calm := true
  fn := fun _ => true
  pn := []
  xe := fun e s' => wpAny (model P w) (A.deeper (envOfC qual scope s.heap.objs.size f cd)) (leaving (envOfC qual scope s.heap.objs.size f cd) e) (fun _ s'' => CX outer H s E e s'') (fun e' s'' => CX outer H s E e' s'') s'

theorem cell_has {sc : Scope} {n : Nat} {x : Str} (h : sc.names.lookup x = some .cell) : ∃ c, (cellsFrom n sc.names []).lookup x = some c := by
  have q := PySem.W.cellsFrom_some sc.names n [] (.inl h)
  exact Option.isSome_iff_exists.mp q

theorem inv_start {CX : CXT} {P : Program} {w : World} {K : PySem.W.Frag} {mg : Str → Option Value} {base : Heap} {N ps : List Str} {qual : Str} {scope : Scope} {f : Addr} {cd : Value} {A : Around} {outer : List Env} {s s1 : Shared} {H : Hp} {E : XK} {us : List Value} {vs : List V}
    (S : FnScope N ps scope) (hd : A.handled = none) (e0 : Env0 P w K mg base A outer s H) (hl : vs.length = ps.length) (r : Vals vs us)
    (x : InCallC s s.heap.objs.size (bindL (envOfC qual scope s.heap.objs.size f cd).kindOf (ps.zip us) fun _ => none) (cellsFrom (s.heap.objs.size + 1) scope.names []) (bindC (envOfC qual scope s.heap.objs.size f cd).kindOf (ps.zip us) fun _ => none) s1) :
    Inv (cxOf CX P w K mg base N qual scope f cd A outer s H E) [] (start N vs) H s1 := by
  have hpl : ps.length ≤ N.length := by have := congrArg List.length S.pre; rw [List.length_take] at this; omega
  obtain ⟨h1, tk, rfl, hk⟩ := x.done
  have noA : ∀ b : Addr, b ∉ (cxOf CX P w K mg base N qual scope f cd A outer s H E).ex := fun b z => absurd (show b ∈ ([] : List Addr) from z) (by simp)
  refine ⟨⟨e0.mod, S.kind, rfl, rfl, Nat.le_refl _, fun y z c h1 h2 => ?_, fun y hy => ?_, fun y c _ h => ?_, fun _ => hd, Around.frames_deeper e0.frames, .inr ⟨rfl, rfl⟩, fun b z => absurd z (noA b), e0.bs, e0.bsz, fun b _ _ => noA b, fun b z => absurd z (noA b), e0.funs, e0.frf⟩,
    rfl, e0.bare, Un.kept hk, ⟨_, x.toInCall.ns, fun i y v h1 h2 h3 => ?_⟩, fun y c h => ⟨_, x.cell y c h⟩, e0.hok.fresh (Nat.le_refl _), fun y c h => ?_, fun p hp => absurd (show p ∈ ([] : List (Addr × Obj)) from hp) (by simp), e0.hok.kept hk, ?_⟩
  · exact name_of_addr x.apart (PySem.mem_of_lookup h1) (PySem.mem_of_lookup h2)
  · have hy : scope.names.lookup y = some .cell ∨ scope.names.lookup y = some .free := hy
    rcases hy with hy | hy
    · exact cell_has hy
    · exact absurd rfl (S.nofree _ (PySem.mem_of_lookup hy))
  · exact Nat.le_of_lt (x.above y c (PySem.mem_of_lookup h))
  · have hi : i < vs.length := by
      unfold start at h2
      by_cases hi : i < vs.length
      · exact hi
      · rw [List.getElem?_append_right (by simpa using hi)] at h2
        rw [List.getElem?_replicate] at h2
        split at h2 <;> cases h2
    have ha : vs[i]? = some v := by
      unfold start at h2
      rw [List.getElem?_append_left (by simpa using hi), List.getElem?_map] at h2
      cases e : vs[i]? with
      | none => rw [e] at h2; cases h2
      | some a => rw [e] at h2; cases h2; rfl
    obtain ⟨u, hu, rv⟩ := r.get ha
    have hp : ps[i]? = some y := by
      rw [← S.pre, List.getElem?_take_of_lt (by omega)]; exact h1
    have ndP : ps.Nodup := by rw [← S.pre]; exact S.nd.sublist (List.take_sublist _ _)
    refine ⟨u, rv, ?_⟩
    rcases S.par y (List.mem_of_getElem? hp) with k | k
    · exact .inl ⟨k, bindL_get ndP hp hu k⟩
    · obtain ⟨c, e⟩ := cell_has (n := s.heap.objs.size + 1) k
      refine .inr ⟨.inl k, c, e, ?_⟩
      have q := x.cell y c e
      rw [bindC_get ndP hp hu (by show scope.names.lookup y ≠ _; rw [k]; decide)] at q
      exact q
  · exact e0.hok.fresh (Nat.le_of_lt (x.above y c (PySem.mem_of_lookup h)))
  · unfold start
    show _ = N.length
    rw [List.length_append, List.length_map, List.length_replicate]
    omega

/-- THE RULE: a def (or a method) of the text, by its body. The body's reading t is chosen for each entry; it is run at the parameters' values -/
theorem fn_of {CX : CXT} {P : Program} {w : World} {K : PySem.W.Frag} {mg : Str → Option Value} {base : Heap} {k : Nat} {f : Addr} {name qual : Str} {params : Arguments} {body : List Stmt} {scope : Scope} {dV kV doc pm cdv ct oc : Value} {an od : Option Addr}
    {osl : Array (Option Value)} {N ps : List Str} {sp : Sp} (lk : K.lookup f = some ⟨oc, od, .func (PySem.W.fnOf name qual params body scope dV kV doc pm an cdv ct), osl⟩) (hcd : PySem.W.codeIn K cdv qual = true) (S : FnScope N ps scope)
    (len : ∀ vs H Q E, sp vs H Q E → vs.length = ps.length)
    (hbody : ∀ (A : Around) (outer : List Env) (s : Shared) (H : Hp) (vs : List V) (Q : VK) (E : XK), Room k (A.deeper (envOfC qual scope s.heap.objs.size f cdv)) → sp vs H Q E →
      ∃ t, PSs (cxOf CX P w K mg base N qual scope f cdv A outer s H E) body t ∧ t { nx := fun _ H' => Q .non H', rt := Q } (start N vs) H) :
    FnOk P w K mg base CX (k + 1) f (PySem.W.fnOf name qual params body scope dV kV doc pm an cdv ct) ps sp := by
  refine ⟨len, fun A outer s H args us vs Q E hr e0 hb r hsp => ?_⟩
  have hl := len _ _ _ _ hsp
  have KX : K.In s.heap := e0.mod.kin.keeps fun b o e => (e0.bs b o e).1
  have lim : s.heap.NoLimit := e0.mod.nolimit.keeps fun b o e => (e0.bs b o e).1
  have hkind : ∀ y ∈ ps.zip us, scope.names.lookup y.1 = some .local ∨ (scope.names.lookup y.1 = some .cell ∧ ((cellsFrom (s.heap.objs.size + 1) scope.names []).lookup y.1).isSome = true) := fun ⟨n, v⟩ hy => by
    rcases S.par n (List.of_mem_zip hy).1 with q | q
    · exact .inl q
    · exact .inr ⟨q, PySem.W.cellsFrom_some _ _ _ (.inl q)⟩
  refine codeAny_call_function hr.depth (KX _ _ lk) rfl S.co S.gen rfl (PySem.W.codeRec_of KX hcd) (hb _ _ _ _ ?_)
  refine wpAny_newFunctionEnv_cells S.kind hkind fun env he s1 x => ?_
  subst he
  refine ⟨lim.keeps x.toInCall.keep, codeAny_func ?_⟩
  obtain ⟨t, ht, hq⟩ := hbody A outer s H vs Q E (hr.deeper _) hsp
  have I : Inv (cxOf CX P w K mg base N qual scope f cdv A outer s H E) [] (start N vs) H s1 := inv_start S hr.hd e0 hl r x
  refine wpAny_mono (ht [] s1 (start N vs) H _ I hq) (fun fl s' hs => ?_) fun e s' hs => hs
  have fin : ∀ {σ' : St} {H' : Hp} {v : V} {u : Value}, Inv (cxOf CX P w K mg base N qual scope f cdv A outer s H E) [] σ' H' s' → RelV v u → Q v H' → CE outer P w H s Q u s' :=
    fun {σ' H' v u} J rv q => ⟨v, H', J.os, J.bare, J.base, J.hok, rv, q⟩
  cases fl with
  | ret u =>
    obtain ⟨v, σ', H', J, rv, q⟩ := hs
    exact fin J rv q
  | next =>
    obtain ⟨σ', H', J, q⟩ := hs
    exact fin (v := V.non) (u := Value.none) J rfl q
  | brk =>
    obtain ⟨_, _, _, q⟩ := hs
    exact False.elim q
  | cont =>
    obtain ⟨_, _, _, q⟩ := hs
    exact False.elim q
end L2

namespace L2
open PySem PySem.Spec PyProof.Rows
section
variable {X : Cx} {x : Str} {p pos : Pos} {e : Expr} {es : List Expr} {t : TA} {id T : String} {r : List V → Hp → VK → Prop}

def tCB (r : List V → Hp → VK → Prop) (t : TA) : TE := fun σ H Q => t σ H fun vs H1 => r vs H1 Q
/-- f(e, ..), f a built-in function -/
theorem pe_callB (hc : CallR X (.builtin id) r) (hg : Gl X x) (hm : X.mg x = none) (hv : bootBuiltins x = some (.builtin id)) (ha : PA X (e :: es) t) (hn : x ≠ "__name__" := by decide) (hdb : (x == ("__debug__" : Str)) = false := by decide)
    (he : starEach (e :: es) X.env = (false, eval e X.env) :: starEach es X.env := by rfl) (hpl : (backTo pos (starEach es X.env)).any (·.1) = false := by rfl) : PE X (.Call (.Name x p) (e :: es) [] pos) (tCB r t) := by
  intro pins s σ H Q I h
  refine wpAny_Call_Name_kw (ld_blt I hg hm hv ?_ hn hdb)
  exact PyProof.Rows.callWith_builtin1 (thn (ha pos pins s σ H _ I h) fun us s1 ⟨vs, H1, I1, r1, q1⟩ => hc pins s1 σ H1 vs us Q I1 r1 q1) he hpl
/-- T(e, ..), T a built-in type -/
theorem pe_callTy (hc : CallR X (.type T) r) (hg : Gl X x) (hm : X.mg x = none) (hv : bootBuiltins x = some (.type T)) (ha : PA X (e :: es) t) (hn : x ≠ "__name__" := by decide) (hdb : (x == ("__debug__" : Str)) = false := by decide)
    (he : starEach (e :: es) X.env = (false, eval e X.env) :: starEach es X.env := by rfl) (hpl : (backTo pos (starEach es X.env)).any (·.1) = false := by rfl) : PE X (.Call (.Name x p) (e :: es) [] pos) (tCB r t) := by
  intro pins s σ H Q I h
  refine wpAny_Call_Name_kw (ld_blt I hg hm hv ?_ hn hdb)
  exact PyProof.Rows.callWith_type1 (thn (ha pos pins s σ H _ I h) fun us s1 ⟨vs, H1, I1, r1, q1⟩ => hc pins s1 σ H1 vs us Q I1 r1 q1) he hpl
/-- T() -/
theorem pe_callTy0 (hc : CallR X (.type T) r) (hg : Gl X x) (hm : X.mg x = none) (hv : bootBuiltins x = some (.type T)) (hn : x ≠ "__name__" := by decide) (hdb : (x == ("__debug__" : Str)) = false := by decide) :
    PE X (.Call (.Name x p) [] [] pos) (tCB r tNil) := by
  intro pins s σ H Q I h
  refine wpAny_Call_Name_kw (ld_blt I hg hm hv ?_ hn hdb)
  exact PyProof.Rows.callWith_type0 (hc pins s σ H [] [] Q I .nil h)
end
end L2

namespace HT
open PySem PyProof.Rows

/-- t < u of tuples of ints -/
def lexLt : List Int → List Int → Bool
  | [], [] => false
  | [], _ :: _ => true
  | _ :: _, [] => false
  | x :: xs, y :: ys => if x = y then lexLt xs ys else decide (x < y)
theorem lexLt_cons (x y : Int) (xs ys : List Int) : lexLt (x :: xs) (y :: ys) = if x = y then lexLt xs ys else decide (x < y) := rfl
theorem lexLt_nil_nil : lexLt [] [] = false := rfl
theorem lexLt_nil_cons (y : Int) (ys : List Int) : lexLt [] (y :: ys) = true := rfl
theorem lexLt_cons_nil (x : Int) (xs : List Int) : lexLt (x :: xs) [] = false := rfl

theorem eqAt_int (A : Around) (s : Shared) (a : Int) (t : Tok) (c : Int) (u : Tok) : ∃ e, SeqAt.EqAt A s (.int a t) (.int c u) e ∧ (e = true ↔ a = c) :=
  ⟨(a == c), SeqAt.EqAt.int_int a t c u, by simp⟩
theorem rcLt_int (A : Around) (s : Shared) (a : Int) (t : Tok) (c : Int) (u : Tok) (prog : Program) (w : World) (E : Value → Shared → Prop) (Q : Value → Shared → Prop) (h : Q (.bool (decide (a < c))) s) :
    wpAny (model prog w) A (richCompare .Lt (.int a t) (.int c u)) Q E s :=
  (PyProof.Rows.lt_int h : wpAny (model prog w) A (compareOp .Lt (.int a t) (.int c u)) Q E s)

section
open PySem.SeqAt
open PySem.AutoSeq1 (wpAny_loadPart')
open PySem.MeetsSeq PySem.MeetsSeq2 PySem.MeetsSeq3

theorem tuple_lt_ints (l b : Addr) (items items2 : Array Value) (n n2 : Nat) (dd dd2 : Option Addr) (sl sl2 : Array (Option Value)) (ns ms : List Int) (hi : IntsAre items.toList ns) (hj : IntsAre items2.toList ms) :
    Meets (Builtin.«tuple.__lt__» ⟨[.ref l, .ref b], []⟩)
      (fun _ R s => s.heap.get? l = some { cls := .type "tuple", dict := dd, data := .seq items n, slots := sl } ∧ s.heap.get? b = some { cls := .type "tuple", dict := dd2, data := .seq items2 n2, slots := sl2 } ∧
        R (.ok (.ret (.bool (lexLt ns ms)))) s) :=
  .of_wp fun prog w A R s h => by
    obtain ⟨hp, g, d, tk, os⟩ := s; obtain ⟨hl, hb, h⟩ := h
    have f2 := AutoSeq1.sub_tuple_tuple
    have z1 : items.size = ns.length := by rw [← hi.length]; simp
    have z2 : items2.size = ms.length := by rw [← hj.length]; simp
    wp_walk using wpAny_loadPart' hl, wpAny_loadPart' hb, wpAny_forIn_list _ (fun rest b s' => b.1 = none ∧ s' = ⟨hp, g, d, tk, os⟩ ∧ ∃ (vs ws : List Value) (ns' ms' : List Int), rest = vs.zip ws ∧
      IntsAre vs ns' ∧ IntsAre ws ms' ∧ ns'.length + items2.size = ms'.length + items.size ∧ R (.ok (.ret (.bool (lexLt ns' ms')))) ⟨hp, g, d, tk, os⟩) _
    case turn =>
      rintro ⟨y, x⟩ rest b s' ⟨hb', rfl, vs, ws, ns', ms', hz, hvi, hwi, hlen, hR⟩
      cases hvi with
      | nil => rw [List.zip_nil_left] at hz; cases hz
      | cons a t hvi' =>
        cases hwi with
        | nil => rw [List.zip_nil_right] at hz; cases hz
        | cons c u hwi' =>
          rw [List.zip_cons_cons] at hz
          injection hz with hyx hrest
          injection hyx with hy hx
          subst hy hx
          rw [lexLt_cons] at hR
          simp only [List.length_cons] at hlen
          obtain ⟨e, he, hiff⟩ := eqAt_int A.in1 ⟨hp, g, d, tk, os⟩ a t c u
          refine wpAny_bind (he prog w _ _ ?_)
          cases e with
          | true =>
            rw [if_pos (hiff.mp rfl)] at hR
            wp_walk
            exact ⟨rfl, rfl, _, _, _, _, hrest, hvi', hwi', by omega, hR⟩
          | false =>
            rw [if_neg (fun q => absurd (hiff.mpr q) Bool.false_ne_true)] at hR
            have hri := rcLt_int A.in1 ⟨hp, g, d, tk, os⟩ a t c u prog w
            wp_walk using hri
            exact ⟨_, rfl, by simpa using hR⟩
    case fin =>
      rintro ⟨b1, b2⟩ s' ⟨hb', rfl, vs, ws, ns', ms', hz, hvi, hwi, hlen, hR⟩
      simp only at hb'
      subst hb'
      have hv : lexLt ns' ms' = decide (items.size < items2.size) := by
        cases hvi with
        | nil =>
          cases hwi with
          | nil =>
            simp only [List.length_nil] at hlen
            rw [lexLt_nil_nil]
            exact (decide_eq_false (by omega)).symm
          | cons c u hw =>
            simp only [List.length_nil, List.length_cons] at hlen
            rw [lexLt_nil_cons]
            exact (decide_eq_true (by omega)).symm
        | cons a t hv =>
          cases hwi with
          | nil =>
            simp only [List.length_nil, List.length_cons] at hlen
            rw [lexLt_cons_nil]
            exact (decide_eq_false (by omega)).symm
          | cons c u hw =>
            rw [List.zip_cons_cons] at hz
            cases hz
      rw [hv] at hR
      wp_walk
      exact ⟨_, rfl, by simpa [Builtin.Tuple.tupleCompareSizes] using hR⟩
    case h =>
      exact ⟨rfl, rfl, items.toList, items2.toList, ns, ms, rfl, hi, hj, by omega, h⟩
end

section
variable {prog : Program} {w : World} {A : Around} {E : Value → Shared → Prop} {s : Shared}

theorem lt_tupInts {l b : Addr} {items items2 : Array Value} {ns ms : List Int} {Q : Value → Shared → Prop} (hl : IsTup s.heap l items) (hb : IsTup s.heap b items2) (hi : IntsAre items.toList ns) (hj : IntsAre items2.toList ms)
    (hu : A.units < cLine) (h : Q (.bool (lexLt ns ms)) s) : wpAny (model prog w) A (compareOp .Lt (.ref l) (.ref b)) Q E s := by
  obtain ⟨⟨cls, dd, data, sl⟩, ho, hc, n, hd⟩ := id hl
  obtain ⟨⟨cls2, dd2, data2, sl2⟩, ho2, hc2, n2, hd2⟩ := id hb
  simp only at hc hd hc2 hd2
  subst hc hd hc2 hd2
  exact richCompare_meets_room (op := .Lt) ⟨_, ho, rfl⟩ ⟨_, ho2, rfl⟩ PySem.F.slot_tuple_lt PySem.F.entry_tuple_lt (PySem.F.args_tuple_lt_2 _ _) (tuple_lt_ints l b items items2 n n2 dd dd2 sl sl2 ns ms hi hj)
    ⟨ho, ho2, show Value.bool (lexLt ns ms) ≠ Value.notImplemented ∧ Q (.bool (lexLt ns ms)) s from ⟨(fun x => nomatch x), h⟩⟩ hu

/-- t + u, t not empty -/
theorem cat_tup {t b : Addr} {vs ws : List Value} {Q : Value → Shared → Prop} (ht : IsTup s.heap t vs.toArray) (hb : IsTup s.heap b ws.toArray) (hv : vs ≠ [])
    (h1 : ws = [] → Q (.ref t) s) (h2 : ws ≠ [] → Q (.ref s.heap.objs.size) { s with heap := s.heap.push { cls := .type "tuple", data := .seq (vs ++ ws).toArray } })
    (hsz : vs.length + ws.length ≤ sizeLine) : wpAny (model prog w) A (binaryOp .Add (.ref t) (.ref b)) Q E s := by
  obtain ⟨⟨cls, dd, data, sl⟩, ho, hc, n, hd⟩ := id ht
  obtain ⟨⟨cls2, dd2, data2, sl2⟩, ho2, hc2, n2, hd2⟩ := id hb
  simp only at hc hd hc2 hd2
  subst hc hd hc2 hd2
  have e : vs.toArray ++ ws.toArray = (vs ++ ws).toArray := by simp
  by_cases hw : ws = []
  · exact concat_meets ⟨_, ho, rfl⟩ ⟨_, ho2, rfl⟩ noFill_tuple_add seq_tuple_add PySem.F.slot_tuple_add PySem.F.entry_tuple_add (PySem.F.args_tuple_add_2 _ _)
      (tuple_addW1 t b vs.toArray ws.toArray n n2 dd dd2 sl sl2 (by simpa using hv) (by simp [hw])) ⟨ho, ho2, h1 hw⟩
  · refine concat_meets ⟨_, ho, rfl⟩ ⟨_, ho2, rfl⟩ noFill_tuple_add seq_tuple_add PySem.F.slot_tuple_add PySem.F.entry_tuple_add (PySem.F.args_tuple_add_2 _ _)
      (tuple_addW2 t b vs.toArray ws.toArray n n2 dd dd2 sl sl2 (by simpa using hv) (by simpa using hw) (by rw [List.size_toArray, List.size_toArray]; exact hsz)) ⟨ho, ho2, ?_⟩
    rw [e]
    exact h2 hw

/-! ### t[a:b], not the whole -/
/-- a slice's bound as a place among n (d where it is left out) -/
def sIx (n d : Nat) : Option Int → Nat
  | none => d
  | some v => if v < 0 then (v + (n : Int)).toNat else min v.toNat n
theorem sIx_none (n d : Nat) : sIx n d none = d := rfl
theorem sIx_nat (n d k : Nat) : sIx n d (some (k : Int)) = min k n := by
  show (if (k : Int) < 0 then ((k : Int) + (n : Int)).toNat else min (k : Int).toNat n) = min k n
  rw [if_neg (by omega), Int.toNat_natCast]
theorem sIx_le (n d : Nat) (hd : d ≤ n) (o : Option Int) : sIx n d o ≤ n := by
  cases o with
  | none => exact hd
  | some v =>
    show (if v < 0 then (v + (n : Int)).toNat else min v.toNat n) ≤ n
    by_cases hv : v < 0
    · rw [if_pos hv]; omega
    · rw [if_neg hv]; exact Nat.min_le_right _ _
theorem clip_eq (v : Int) (n d : Nat) : (if v < 0 then max (v + (n : Int)) 0 else min v (n : Int)) = ((sIx n d (some v) : Nat) : Int) := by
  show (if v < 0 then max (v + (n : Int)) 0 else min v (n : Int)) = (((if v < 0 then (v + (n : Int)).toNat else min v.toNat n) : Nat) : Int)
  by_cases hv : v < 0
  · simp only [if_pos hv]; omega
  · simp only [if_neg hv]; omega
theorem adjust_gen (lo hi : Option Int) (n : Nat) : Builtin.Slice.sliceAdjust lo hi 1 (n : Int) = (((sIx n 0 lo : Nat) : Int), ((sIx n n hi : Nat) : Int)) := by
  have h1 : ¬ ((1 : Int) < 0) := by omega
  unfold Builtin.Slice.sliceAdjust
  simp only [h1, if_false]
  refine Prod.ext ?_ ?_
  · cases lo with
    | none => rfl
    | some v => exact clip_eq v n 0
  · cases hi with
    | none => rfl
    | some v => exact clip_eq v n n
theorem places_gen (i j : Nat) : Builtin.Slice.slicePlaces (i : Int) (j : Int) 1 = j - i := by
  unfold Builtin.Slice.slicePlaces
  have h1 : (1 : Int) > 0 := by omega
  simp only [h1, if_true, Int.ediv_one]
  split <;> omega
theorem slicePart_ {v : Value} {o : Option Int} {Q : Option Int → Shared → Prop} (p : IsPart v o) (h : Q o s) : wpAny (model prog w) A (Builtin.Slice.slicePartIndex v) Q E s := by
  cases p with
  | none => exact slicePart_none h
  | int i t => exact slicePart_int h
theorem sliceApplied_gen {sl : Addr} {vl vu : Value} {lo hi : Option Int} {n : Nat} {Q : Int × Int × Nat → Shared → Prop} (hs : s.heap.IsSliceOf sl vl vu .none) (pl : IsPart vl lo) (pu : IsPart vu hi)
    (h : Q (((sIx n 0 lo : Nat) : Int), 1, sIx n n hi - sIx n 0 lo) s) : wpAny (model prog w) A (Builtin.Slice.sliceApplied (.ref sl) (pure (n : Int))) Q E s := by
  obtain ⟨os, hos, hcs, hds⟩ := id hs
  unfold Builtin.Slice.sliceApplied Builtin.Slice.sliceFields
  refine wpAny_bind (wpAny_bind (wpAny_field hos hds (x := vl) rfl (wpAny_bind (wpAny_field hos hds (x := vu) rfl (wpAny_bind (wpAny_field hos hds (x := .none) rfl (wpAny_pure ?_)))))))
  refine wpAny_bind (slicePart_none ?_)
  show wpAny _ _ (if ((1 : Int) == 0) = true then _ else _) _ _ s
  rw [if_neg (by decide)]
  refine wpAny_bind (slicePart_ pl (wpAny_bind (slicePart_ pu (wpAny_bind (wpAny_pure ?_)))))
  show wpAny _ _ (match Builtin.Slice.sliceAdjust lo hi 1 (n : Int) with | (lo, hi) => pure (lo, (1 : Int), Builtin.Slice.slicePlaces lo hi 1)) _ _ s
  rw [adjust_gen lo hi n]
  show wpAny _ _ (pure (((sIx n 0 lo : Nat) : Int), (1 : Int), Builtin.Slice.slicePlaces ((sIx n 0 lo : Nat) : Int) ((sIx n n hi : Nat) : Int) 1)) _ _ s
  rw [places_gen]
  exact wpAny_pure h
theorem pick_gen (xs : Array Value) (i k : Nat) : ((List.range k).filterMap fun (m : Nat) => xs[((i : Int) + (m : Int) * 1).toNat]?).toArray = ((xs.toList.drop i).take k).toArray := by
  have e : (fun (m : Nat) => xs[((i : Int) + (m : Int) * 1).toNat]?) = fun m => xs[i + m]? := by
    funext m
    have : ((i : Int) + (m : Int) * 1).toNat = i + m := by omega
    rw [this]
  rw [e]
  have := pick_run xs i k
  rw [List.filterMap_map] at this
  have e2 : ((fun x => xs[x]?) ∘ fun x => i + x) = fun m => xs[i + m]? := rfl
  rw [e2] at this
  rw [this]

theorem getItem_tuple_cut {t sl : Addr} {items : Array Value} {vl vu : Value} {lo hi : Option Int} {Q : Value → Shared → Prop} (ht : IsTup s.heap t items) (hs : s.heap.IsSliceOf sl vl vu .none) (pl : IsPart vl lo) (pu : IsPart vu hi)
    (hw : ¬ (sIx items.size 0 lo = 0 ∧ sIx items.size items.size hi = items.size))
    (h : Q (.ref s.heap.objs.size) { s with heap := s.heap.push { cls := .type "tuple", data := .seq ((items.toList.drop (sIx items.size 0 lo)).take (sIx items.size items.size hi - sIx items.size 0 lo)).toArray } })
    (hsz : items.size ≤ sizeLine) : wpAny (model prog w) A (getItem (.ref t) (.ref sl)) Q E s := by
  have htake : sizeOk (.seq ((items.toList.drop (sIx items.size 0 lo)).take (sIx items.size items.size hi - sIx items.size 0 lo)).toArray) := by
    show ((items.toList.drop (sIx items.size 0 lo)).take (sIx items.size items.size hi - sIx items.size 0 lo)).toArray.size ≤ sizeLine
    rw [List.size_toArray, List.length_take, List.length_drop, Array.length_toList]
    omega
  have hj : sIx items.size items.size hi ≤ items.size := sIx_le _ _ (Nat.le_refl _) hi
  obtain ⟨os, hos, hcs, hds⟩ := id hs
  have hTs : s.TypeIs (.ref sl) "slice" := ⟨os, hos, hcs⟩
  unfold getItem
  try with_reducible refine wpAny_holding ?_
  first | refine wpAny_bind (wpAny_pure ?_) | skip
  refine wpAny_bind (wpAny_sequenceKey ht.typeIs (by decide) ?_)
  refine wpAny_bind (wpAny_callSpecial?_slot (name := Str.ofString "__getitem__") ht.typeIs PyProof.Rows.slot_tuple_getitem
    (wpAny_call_entry PyProof.Rows.slot_tuple_getitem ht.typeIs entry_tuple_getitem ?_ (args_tuple_getitem _ _)))
  show wpAny _ _ (Builtin.Tuple.tupleItemsOf (.ref t) >>= _) _ _ s
  refine wpAny_bind (tupleItemsOf_ ht ?_)
  refine wpAny_bind (wpAny_typeOf hTs ?_)
  rw [if_pos (by decide)]
  refine wpAny_bind (sliceApplied_gen hs pl pu ?_)
  have hno : ¬ ((((sIx items.size 0 lo : Nat) : Int) == 0 && (1 : Int) == 1 && (sIx items.size items.size hi - sIx items.size 0 lo) == items.size) = true) := by
    intro q
    rw [Bool.and_eq_true, Bool.and_eq_true] at q
    have q1 : ((sIx items.size 0 lo : Nat) : Int) = 0 := eq_of_beq q.1.1
    have q2 : sIx items.size items.size hi - sIx items.size 0 lo = items.size := eq_of_beq q.2
    exact hw ⟨by omega, by omega⟩
  show wpAny _ _ (if (((sIx items.size 0 lo : Nat) : Int) == 0 && (1 : Int) == 1 && (sIx items.size items.size hi - sIx items.size 0 lo) == items.size) = true then _ else _) _ _ s
  rw [if_neg hno, pick_gen]
  first
    | exact wpAny_bind (m := Builtin.Tuple.tupleExact _) (wpAny_newObj_type (wpAny_pure ⟨_, rfl, wpAny_pure h⟩) htake)
    | exact wpAny_bind (m := Builtin.Tuple.tupleExact _) (wpAny_newObj_type (wpAny_bind (wpAny_pure (wpAny_pure ⟨_, rfl, wpAny_pure h⟩))) htake)
    | exact wpAny_bind (wpAny_bind (m := Builtin.Tuple.tupleExact _) (wpAny_newObj_type (wpAny_pure (wpAny_pure ⟨_, rfl, wpAny_pure h⟩)) htake))
    | exact wpAny_bind (wpAny_bind (m := Builtin.Tuple.tupleExact _) (wpAny_newObj_type (wpAny_pure ⟨_, rfl, wpAny_pure h⟩) htake))
end
end HT

namespace L2
open PySem PySem.Spec PyProof.Rows

/-! ### the parts of a slice -/
abbrev TO := St → Hp → (Option Int → Hp → Prop) → Prop
/-- a slice's part (left out, or an int) -/
def PO (X : Cx) (e : Option Expr) (t : TO) : Prop :=
  ∀ (pins : List (Addr × Obj)) (s : Shared) (σ : St) (H : Hp) (Q : Option Int → Hp → Prop), Inv X pins σ H s → t σ H Q →
    wpAny (model X.prog X.w) X.A (evalPart e X.env) (fun u s' => ∃ o H', Inv X pins σ H' s' ∧ IsPart u o ∧ Q o H') X.xe s
def tNoPart : TO := fun _ H Q => Q none H
def tPart (t : TE) : TO := fun σ H Q => t σ H fun x H1 => ∃ i, x = .int i ∧ Q (some i) H1

theorem intsAre_of {ns : List Int} : ∀ {us : List Value}, Vals (ns.map V.int) us → IntsAre us ns := by
  induction ns with
  | nil => intro us r; rw [List.map_nil] at r; cases r; exact .nil
  | cons n ns ih =>
    intro us r
    rw [List.map_cons] at r
    cases r with
    | cons r1 r2 =>
      obtain ⟨t, e⟩ := r1
      subst e
      exact .cons n t (ih r2)

section
variable {X : Cx} {e : Expr} {te : TE} {lo hi : Option Expr} {tl th : TO} {pos p2 : Pos}

theorem po_none : PO X none tNoPart := by
  intro pins s σ H Q I h
  rw [evalPart_none]
  exact wpAny_pure ⟨none, H, I, .none, h⟩
theorem po_some (h : PE X e te) : PO X (some e) (tPart te) := by
  intro pins s σ H Q I hw
  rw [evalPart_some]
  refine thn (h pins s σ H _ I hw) fun u s1 ⟨x, H1, I1, r1, q1⟩ => ?_
  obtain ⟨i, rfl, q⟩ := q1
  obtain ⟨t, rfl⟩ := r1
  exact ⟨some i, H1, I1, .int i t, q⟩

/-- what a slice of a value is, by values: the slice object stands at sl -/
def SlR (X : Cx) (r : V → Option Int → Option Int → Hp → VK → Prop) : Prop :=
  ∀ (pins : List (Addr × Obj)) (s : Shared) (σ : St) (H : Hp) (x : V) (v vl vu : Value) (lo hi : Option Int) (sl : Addr) (Q : VK), Inv X pins σ H s → RelV x v → s.heap.IsSliceOf sl vl vu .none → IsPart vl lo → IsPart vu hi → r x lo hi H Q →
    ∃ T id, typeLookup (.type T) "__getitem__" = pure (some (.builtin id)) ∧ s.TypeIs v T ∧ wpAny (model X.prog X.w) X.A (getItem v (.ref sl)) (EP X pins σ Q) X.xe s
theorem SlR.or {r r' : V → Option Int → Option Int → Hp → VK → Prop} (h : SlR X r) (h' : SlR X r') : SlR X (fun x lo hi H Q => r x lo hi H Q ∨ r' x lo hi H Q) := by
  intro pins s σ H x v vl vu lo hi sl Q I rx hs pl pu q
  rcases q with q | q
  · exact h pins s σ H x v vl vu lo hi sl Q I rx hs pl pu q
  · exact h' pins s σ H x v vl vu lo hi sl Q I rx hs pl pu q
def tSl (r : V → Option Int → Option Int → Hp → VK → Prop) (te : TE) (tl th : TO) : TE := fun σ H Q => te σ H fun x H1 => tl σ H1 fun l H2 => th σ H2 fun u H3 => r x l u H3 Q
/-- a[lo:hi], any a -/
theorem pe_slice {r : V → Option Int → Option Int → Hp → VK → Prop} (hr : SlR X r) (he : PE X e te) (hl : PO X lo tl) (hu : PO X hi th) : PE X (.Subscript e (.Slice lo hi none p2) pos) (tSl r te tl th) := by
  intro pins s σ H Q I h
  refine Subscript_ (thn (he pins s σ H _ I h) fun v s1 ⟨x, H1, I1, r1, q1⟩ => ?_)
  refine wpAny_Slice (thn (hl pins s1 σ H1 _ I1 q1) fun vl s2 ⟨l, H2, I2, pl, q2⟩ => thn (hu pins s2 σ H2 _ I2 q2) fun vu s3 ⟨u, H3, I3, pu, q3⟩ => ?_)
  rw [evalPart_none]
  refine wpAny_pure ?_
  have I4 : Inv X pins σ H3 { s3 with heap := s3.heap.push { cls := .type "slice", data := .fields #[vl, vu, .none] } } := I3.kept (t' := s3.toks) fun b ob q => Heap.get?_push_of_some _ q
  obtain ⟨T, id, hT, ht, hg⟩ := hr pins { s3 with heap := s3.heap.push { cls := .type "slice", data := .fields #[vl, vu, .none] } } σ H3 x v vl vu l u s3.heap.objs.size Q I4 r1 (Heap.IsSliceOf.new ..) pl pu q3
  show wpAny (model X.prog X.w) X.A (subscriptTail e (.Slice lo hi none p2) v (.ref s3.heap.objs.size)) (EP X pins σ Q) X.xe { s3 with heap := s3.heap.push { cls := .type "slice", data := .fields #[vl, vu, .none] } }
  exact tail_any (ops := [.ref s3.heap.objs.size, v]) ht hT hg (by with_unfolding_all rfl)

/-- the items of xs[lo:hi] -/
def cutV (xs : List V) (lo hi : Option Int) : List V := (xs.drop (HT.sIx xs.length 0 lo)).take (HT.sIx xs.length xs.length hi - HT.sIx xs.length 0 lo)
theorem cutV_length (xs : List V) (lo hi : Option Int) : (cutV xs lo hi).length ≤ xs.length := by
  unfold cutV
  rw [List.length_take, List.length_drop]
  omega
/-- t[lo:hi], not the whole of it (the whole would be t itself) -/
def rSlT (K : PySem.W.Frag) : V → Option Int → Option Int → Hp → VK → Prop := fun x lo hi H Q => ∃ a xs, x = .ref a ∧ SqT K H a xs ∧
  ¬ (HT.sIx xs.length 0 lo = 0 ∧ HT.sIx xs.length xs.length hi = xs.length) ∧ ∀ p, H p = none → Q (.ref p) (upd H p (.tup (cutV xs lo hi)))
theorem sl_tup : SlR X (rSlT X.K) := by
  intro pins s σ H x v vl vu lo hi sl Q I rx hs pl pu h
  obtain ⟨a, xs, rfl, hx, hw, q⟩ := h
  cases rx
  obtain ⟨its, r, ht, hz⟩ := I.tuple hx
  have hlen : its.toArray.size = xs.length := by rw [List.size_toArray]; exact r.length.symm
  refine ⟨"tuple", _, PyProof.Rows.slot_tuple_getitem.lookup, ht.typeIs, ?_⟩
  refine HT.getItem_tuple_cut ht hs pl pu (by rw [hlen]; exact hw) ?_ (by rw [hlen]; exact hz)
  rw [hlen]
  refine ⟨.ref s.heap.objs.size, _, I.laid (t' := s.toks) (o := .tup (cutV xs lo hi)) (fun b ob q => Heap.get?_push_of_some _ q) (Nat.le_refl _) ?_, rfl, q _ (I.hok.fresh (Nat.le_refl _))⟩
  exact ⟨Nat.le_trans (cutV_length xs lo hi) hz, _, (r.drop (HT.sIx xs.length 0 lo)).take (HT.sIx xs.length xs.length hi - HT.sIx xs.length 0 lo), IsTup.new _ _⟩

/-! ### t < u, t + u -/
def rLtT (K : PySem.W.Frag) : R2 := fun x y H Q => ∃ a b ns ms, x = .ref a ∧ y = .ref b ∧ SqT K H a (ns.map V.int) ∧ SqT K H b (ms.map V.int) ∧ Q (.bl (HT.lexLt ns ms)) H
theorem op_ltT (hu : X.A.units < cLine) : OpR X (compareOp .Lt) (rLtT X.K) := by
  intro pins s σ H x y v u Q I rx ry h
  obtain ⟨a, b, ns, ms, rfl, rfl, ha, hb, q⟩ := h
  cases rx
  cases ry
  obtain ⟨its, r1, p1, _⟩ := I.tuple ha
  obtain ⟨its2, r2, p2, _⟩ := I.tuple hb
  have i1 : IntsAre its.toArray.toList ns := intsAre_of r1
  have i2 : IntsAre its2.toArray.toList ms := intsAre_of r2
  exact HT.lt_tupInts p1 p2 i1 i2 hu ⟨.bl (HT.lexLt ns ms), H, I, rfl, q⟩
/-- t + u, t not empty: u empty gives t itself -/
def rCatT (K : PySem.W.Frag) : R2 := fun x y H Q => ∃ a b xs ys, x = .ref a ∧ y = .ref b ∧ SqT K H a xs ∧ SqT K H b ys ∧ xs ≠ [] ∧ xs.length + ys.length ≤ sizeLine ∧
  (ys = [] → Q (.ref a) H) ∧ (ys ≠ [] → ∀ p, H p = none → Q (.ref p) (upd H p (.tup (xs ++ ys))))
theorem Vals.nil_iff {xs : List V} {us : List Value} (r : Vals xs us) : us = [] ↔ xs = [] := by
  cases r with
  | nil => simp
  | cons _ _ => simp
theorem op_catT : OpR X (binaryOp .Add) (rCatT X.K) := by
  intro pins s σ H x y v u Q I rx ry h
  obtain ⟨a, b, xs, ys, rfl, rfl, ha, hb, hx, hz, q1, q2⟩ := h
  cases rx
  cases ry
  obtain ⟨its, r1, p1, _⟩ := I.tuple ha
  obtain ⟨its2, r2, p2, _⟩ := I.tuple hb
  refine HT.cat_tup p1 p2 (fun z => hx (r1.nil_iff.mp z)) (fun z => ⟨.ref a, H, I, rfl, q1 (r2.nil_iff.mp z)⟩) (fun z => ?_) (by rw [← r1.length, ← r2.length]; exact hz)
  refine ⟨.ref s.heap.objs.size, _, I.laid (t' := s.toks) (o := .tup (xs ++ ys)) (fun b ob q => Heap.get?_push_of_some _ q) (Nat.le_refl _) ?_, rfl, q2 (fun w => z (r2.nil_iff.mpr w)) _ (I.hok.fresh (Nat.le_refl _))⟩
  exact ⟨by rw [List.length_append]; exact hz, _, r1.append r2, IsTup.new _ _⟩
/-- tuple(t) -/
theorem call_tupleT : CallR X (.type "tuple") (fun xs H Q => ∃ a ys, xs = [.ref a] ∧ SqT X.K H a ys ∧ Q (.ref a) H) := by
  intro pins s σ H xs us Q I r h
  obtain ⟨a, ys, rfl, ha, q⟩ := h
  obtain ⟨u, rfl, ru⟩ := vals1 r
  cases ru
  obtain ⟨its, _, p1, _⟩ := I.tuple ha
  exact call_tuple_same (items := its.toArray) p1 ⟨.ref a, H, I, rfl, q⟩
end
end L2

namespace L2
open PySem PySem.Spec PyProof.Rows

/-! ### places -/
/-- the place that an index of any sign means -/
def ixN (n : Nat) (i : Int) : Option Nat := if 0 ≤ i then (if i < n then some i.toNat else none) else if -(n : Int) ≤ i then some (i + n).toNat else none
def atI {α : Type} (xs : List α) (i : Int) : Option α := (ixN xs.length i).bind fun j => xs[j]?
theorem ixN_seq {n : Nat} {i : Int} {j : Nat} (h : ixN n i = some j) : seqIndex? i n = some j ∧ j < n ∧ -(n : Int) ≤ i ∧ i < n := by
  unfold ixN at h
  by_cases h0 : 0 ≤ i
  · rw [if_pos h0] at h
    by_cases h1 : i < n
    · rw [if_pos h1] at h
      have e : i.toNat = j := Option.some.inj h
      exact ⟨by rw [seqIndex_of h0 h1, e], by omega, by omega, h1⟩
    · rw [if_neg h1] at h; cases h
  · rw [if_neg h0] at h
    by_cases h1 : -(n : Int) ≤ i
    · rw [if_pos h1] at h
      have e : (i + n).toNat = j := Option.some.inj h
      exact ⟨by rw [seqIndex_neg (by omega) h1, e], by omega, h1, by omega⟩
    · rw [if_neg h1] at h; cases h
theorem atI_get {α : Type} {xs : List α} {i : Int} {v : α} (h : atI xs i = some v) : ∃ j, seqIndex? i xs.length = some j ∧ xs[j]? = some v ∧ j < xs.length ∧ -(xs.length : Int) ≤ i ∧ i < xs.length := by
  unfold atI at h
  cases e : ixN xs.length i with
  | none => rw [e] at h; cases h
  | some j =>
    rw [e] at h
    obtain ⟨h1, h2, h3, h4⟩ := ixN_seq e
    exact ⟨j, h1, h, h2, h3, h4⟩
theorem atI_nat {α : Type} {xs : List α} {j : Nat} {v : α} (h : xs[j]? = some v) : atI xs (j : Int) = some v := by
  have hj : j < xs.length := (List.getElem?_eq_some_iff.mp h).1
  have e : ixN xs.length (j : Int) = some j := by
    unfold ixN
    rw [if_pos (by omega), if_pos (by omega)]; simp
  unfold atI; rw [e]; exact h
theorem atI_last {α : Type} (xs : List α) (v : α) : atI (xs ++ [v]) (-1) = some v := by
  have hl : (xs ++ [v]).length = xs.length + 1 := by simp
  have e : ixN (xs ++ [v]).length (-1) = some xs.length := by
    unfold ixN
    rw [hl, if_neg (by decide), if_pos (by omega)]
    congr 1
    omega
  unfold atI
  rw [e]
  show (xs ++ [v])[xs.length]? = some v
  simp

/-! ### what may be subscripted -/
/-- what stands as an index of a plain subscript -/
def PlainIx (b : Expr) : Prop := ∀ o i, subscripted b false o i = operate [o, i] (getItem o i)
/-- a subscript by values -/
def IxR (X : Cx) (r : R2) : Prop :=
  ∀ (value slice : Expr) (pins : List (Addr × Obj)) (s : Shared) (σ : St) (H : Hp) (x y : V) (v u : Value) (Q : VK), Inv X pins σ H s → RelV x v → RelV y u → r x y H Q →
    subscripted slice false v u = operate [v, u] (getItem v u) → wpAny (model X.prog X.w) X.A (subscriptTail value slice v u) (EP X pins σ Q) X.xe s
/-- a call of a builtin's method by values: the receiver, the arguments -/
def MtR (X : Cx) (id : String) (r : V → List V → Hp → VK → Prop) : Prop :=
  ∀ (pins : List (Addr × Obj)) (s : Shared) (σ : St) (H : Hp) (x : V) (xs : List V) (v : Value) (us : List Value) (Q : VK), Inv X pins σ H s → RelV x v → Vals xs us → r x xs H Q →
    wpAny (model X.prog X.w) X.A (call (.builtin id) (v :: us)) (EP X pins σ Q) X.xe s
section
variable {X : Cx} {a b : Expr} {ta tb : TE} {pos : Pos}
theorem IxR.or {r r' : R2} (h : IxR X r) (h' : IxR X r') : IxR X (fun x y H Q => r x y H Q ∨ r' x y H Q) := by
  intro value slice pins s σ H x y v u Q I rx ry q hs
  rcases q with q | q
  · exact h value slice pins s σ H x y v u Q I rx ry q hs
  · exact h' value slice pins s σ H x y v u Q I rx ry q hs
theorem MtR.or {id : String} {r r' : V → List V → Hp → VK → Prop} (h : MtR X id r) (h' : MtR X id r') : MtR X id (fun x xs H Q => r x xs H Q ∨ r' x xs H Q) := by
  intro pins s σ H x xs v us Q I rx rs q
  rcases q with q | q
  · exact h pins s σ H x xs v us Q I rx rs q
  · exact h' pins s σ H x xs v us Q I rx rs q
/-- a[b] -/
theorem pe_ix {r : R2} (hr : IxR X r) (ha : PE X a ta) (hb : PE X b tb) (hs : PlainIx b) : PE X (.Subscript a b pos) (tOp r ta tb) := by
  intro pins s σ H Q I h
  exact Subscript_ (binT ha hb I h fun v u s2 x y H2 I2 rx ry q => hr a b pins s2 σ H2 x y v u Q I2 rx ry q (hs _ _))

def rIxL (K : PySem.W.Frag) : R2 := fun x y H Q => ∃ p xs i v, x = .ref p ∧ y = .int i ∧ SqL K H p xs ∧ atI xs i = some v ∧ Q v H
def rIxT (K : PySem.W.Frag) : R2 := fun x y H Q => ∃ p xs i v, x = .ref p ∧ y = .int i ∧ SqT K H p xs ∧ atI xs i = some v ∧ Q v H
def rIxS : R2 := fun x y H Q => ∃ z i c, x = .str z ∧ y = .int i ∧ z.length ≤ sizeLine ∧ atI z.cps.toList i = some c ∧ Q (.str ⟨#[c]⟩) H
theorem ix_list : IxR X (rIxL X.K) := by
  intro value slice pins s σ H x y v u Q I rx ry h hs
  obtain ⟨p, xs, i, z, rfl, rfl, hq, he, q⟩ := h
  cases rx
  obtain ⟨t, rfl⟩ := ry
  obtain ⟨its, r, pl, hz⟩ := I.list hq
  obtain ⟨j, h1, h2, h3, h4, h5⟩ := atI_get he
  obtain ⟨w, ew, rw'⟩ := r.get h2
  have hl := r.length
  have hn := line63
  have fin : EP X pins σ Q w s := ⟨z, H, I, rw', q⟩
  by_cases h0 : 0 ≤ i
  · have hj : i.toNat = j := by
      rw [seqIndex_of h0 h5] at h1
      exact Option.some.inj h1
    exact item_listR pl.isList h0 (by omega) (by rw [hj]; simpa using ew) fin hs
  · have hj : (i + (its.toArray.size : Int)).toNat = j := by
      rw [seqIndex_neg (by omega) h4] at h1
      rw [List.size_toArray, ← hl]
      exact Option.some.inj h1
    exact subscriptTail_builtinR (x := w) pl.isList.typeIs slot_list_getitem.lookup
      (wpAny_getItem_list_neg (Q := fun r s' => r = w ∧ EP X pins σ Q r s') pl.isList (by omega) (by rw [List.size_toArray] <;> omega) (by omega) (by rw [hj]; simpa using ew) ⟨rfl, fin⟩) hs
theorem ix_tup : IxR X (rIxT X.K) := by
  intro value slice pins s σ H x y v u Q I rx ry h hs
  obtain ⟨p, xs, i, z, rfl, rfl, hq, he, q⟩ := h
  cases rx
  obtain ⟨t, rfl⟩ := ry
  obtain ⟨its, r, pl, hz⟩ := I.tuple hq
  obtain ⟨j, h1, h2, h3, h4, h5⟩ := atI_get he
  obtain ⟨w, ew, rw'⟩ := r.get h2
  have hl := r.length
  have hn := line63
  have fin : EP X pins σ Q w s := ⟨z, H, I, rw', q⟩
  exact subscriptTail_builtinR (x := w) pl.typeIs slot_tuple_getitem.lookup
    (getItem_tuple (j := j) (Q := fun r s' => r = w ∧ EP X pins σ Q r s') pl (by omega) (by omega) (by rw [List.size_toArray, ← hl]; exact h1) (by simpa using ew) ⟨rfl, fin⟩) hs
theorem ix_str : IxR X rIxS := by
  intro value slice pins s σ H x y v u Q I rx ry h hs
  obtain ⟨z, i, c, rfl, rfl, hz, he, q⟩ := h
  obtain ⟨t, rfl⟩ := rx
  obtain ⟨t', rfl⟩ := ry
  obtain ⟨j, h1, h2, h3, h4, h5⟩ := atI_get he
  have hl : z.cps.toList.length = z.length := by simp [Str.length]
  rw [hl] at h1 h4 h5
  have hn := line63
  exact tail_any (typeIs_str s z t) slot_str_getitem.lookup (getItem_str (c := c) (by
    have e1 : decide (i < -(2 ^ 63 : Int)) = false := decide_eq_false (by omega)
    have e2 : decide (i ≥ 2 ^ 63) = false := decide_eq_false (by omega)
    rw [e1, e2, Bool.or_false]) (by rw [h1]; simpa using h2) ⟨.str ⟨#[c]⟩, H, I.tok _, ⟨_, rfl⟩, q⟩) hs
/-- list, tuple or str -/
def rIx (K : PySem.W.Frag) : R2 := fun x y H Q => rIxL K x y H Q ∨ rIxT K x y H Q ∨ rIxS x y H Q
theorem ix_seq : IxR X (rIx X.K) := ix_list.or (ix_tup.or ix_str)

/-! ### xs[i] = v, any sign -/
/-- the list's object behind a store -/
theorem mapSeq_set (its : List Value) (n j : Nat) (u : Value) : Obj.mapSeq (·.setIfInBounds j u) { cls := .type "list", data := .seq its.toArray n } = { cls := .type "list", data := .seq (its.set j u).toArray n } := by
  simp [Obj.mapSeq]
theorem Inv.lst {pins : List (Addr × Obj)} {σ : St} {H : Hp} {s : Shared} {p : Addr} {xs : List V} (I : Inv X pins σ H s) (h : H p = some (.lst xs)) :
    ∃ (its : List Value) (n : Nat), Vals xs its ∧ s.heap.get? p = some { cls := .type "list", data := .seq its.toArray n } ∧ xs.length ≤ sizeLine := by
  obtain ⟨z, its, n, r, e⟩ := I.hok p _ h
  exact ⟨its, n, r, e, z⟩
/-- the list at p is written by an update of its object -/
theorem Inv.lstUpd {pins : List (Addr × Obj)} {σ : St} {H : Hp} {s : Shared} {p : Addr} {xs ys : List V} {its its' : List Value} {n n' : Nat} {f : Obj → Obj} (I : Inv X pins σ H s) (h : H p = some (.lst xs))
    (ho : s.heap.get? p = some { cls := .type "list", data := .seq its.toArray n }) (hf : f { cls := .type "list", data := .seq its.toArray n } = { cls := .type "list", data := .seq its'.toArray n' }) (r : Vals ys its') (hz : ys.length ≤ sizeLine) (t : Nat) :
    Inv X pins σ (upd H p (.lst ys)) { s with heap := s.heap.update p f, toks := t } := by
  have e : (s.heap.update p f).get? p = some { cls := .type "list", data := .seq its'.toArray n' } := by
    rw [Heap.get?_update_self f ho (by rw [hf] <;> rfl), hf]
  refine I.write (x := p) (e := p) (by rw [h]; trivial) (.inl rfl) (fun b u hb q => (Heap.get?_update_other _ _ (Ne.symm hb)).trans q) ⟨_, e⟩ ?_
  exact ⟨hz, its', n', r, e⟩
def rSetL : V → V → V → Hp → (Hp → Prop) → Prop := fun o i v H Q => ∃ p xs k j, o = .ref p ∧ i = .int k ∧ H p = some (.lst xs) ∧ ixN xs.length k = some j ∧ Q (upd H p (.lst (xs.set j v)))
theorem set_list : PSet X rSetL := by
  intro pins s σ H o i v ov iv u Q I ro ri rv h
  obtain ⟨p, xs, k, j, rfl, rfl, hp, hj, q⟩ := h
  cases ro
  obtain ⟨t, rfl⟩ := ri
  obtain ⟨its, n, r, ho, hz⟩ := I.lst hp
  obtain ⟨h1, h2, h3, h4⟩ := ixN_seq hj
  have hl := r.length
  have hn := line63
  have I' : Inv X pins σ (upd H p (.lst (xs.set j v))) { s with heap := s.heap.update p (Obj.mapSeq (·.setIfInBounds j u)) } :=
    I.lstUpd hp ho (mapSeq_set its n j u) (r.set rv j) (by rw [List.length_set]; exact hz) s.toks
  by_cases h0 : 0 ≤ k
  · have hk : k.toNat = j := by
      rw [seqIndex_of h0 h4] at h1
      exact Option.some.inj h1
    exact PySem.W.ki_setAt ho h0 (by omega) (by rw [List.size_toArray, ← hl]; exact h4) (by rw [hk]; exact ⟨_, I', q⟩)
  · have hk : (k + (its.toArray.size : Int)).toNat = j := by
      rw [seqIndex_neg (by omega) h3] at h1
      rw [List.size_toArray, ← hl]
      exact Option.some.inj h1
    exact PySem.W.ki_setBack ho (by omega) (by rw [List.size_toArray, ← hl]; exact h3) (by omega) (by rw [hk]; exact ⟨_, I', q⟩)

/-! ### slices -/
theorem slice_bounds (lo hi : Option Int) (n : Nat) : (sliceBounds lo hi none n).1 = ((HT.sIx n 0 lo : Nat) : Int) ∧ (sliceBounds lo hi none n).2.1 = ((HT.sIx n n hi : Nat) : Int) ∧ (sliceBounds lo hi none n).2.2 = 1 := by
  refine ⟨?_, ?_, rfl⟩
  · cases lo with
    | none => simp [sliceBounds, HT.sIx]
    | some i =>
      simp only [sliceBounds, HT.sIx, Option.getD_none, show (1 : Int) > 0 by decide, if_true]
      by_cases h : i < 0
      · simp only [h, if_true] <;> omega
      · simp only [h, if_false] <;> omega
  · cases hi with
    | none => simp [sliceBounds, HT.sIx]
    | some i =>
      simp only [sliceBounds, HT.sIx, Option.getD_none, show (1 : Int) > 0 by decide, if_true]
      by_cases h : i < 0
      · simp only [h, if_true] <;> omega
      · simp only [h, if_false] <;> omega
theorem slicePick_cut (its : List Value) (lo hi : Option Int) : slicePick its.toArray lo hi none = ((its.drop (HT.sIx its.length 0 lo)).take (HT.sIx its.length its.length hi - HT.sIx its.length 0 lo)).toArray := by
  obtain ⟨h1, h2, h3⟩ := slice_bounds lo hi its.toArray.size
  unfold slicePick
  rw [h1, h2, h3]
  simp only [sliceRange_one, pick_run, List.size_toArray] <;> rfl
/-- xs[lo:hi] of a list: a new list -/
def rSlL (K : PySem.W.Frag) : V → Option Int → Option Int → Hp → VK → Prop := fun x lo hi H Q => ∃ a xs, x = .ref a ∧ SqL K H a xs ∧ ∀ p, H p = none → Q (.ref p) (upd H p (.lst (cutV xs lo hi)))
theorem sl_list : SlR X (rSlL X.K) := by
  intro pins s σ H x v vl vu lo hi sl Q I rx hs pl pu h
  obtain ⟨a, xs, rfl, hx, q⟩ := h
  cases rx
  obtain ⟨its, r, ht, hz⟩ := I.list hx
  have hlen := r.length
  refine ⟨"list", _, slot_list_getitem.lookup, ht.isList.typeIs, ?_⟩
  refine wpAny_getItem_list_slice ht.isList hs pl pu .none (by simp) ?_ (by rw [List.size_toArray] <;> omega)
  rw [slicePick_cut, ← hlen]
  refine ⟨.ref s.heap.objs.size, _, I.laid (t' := s.toks) (o := .lst (cutV xs lo hi)) (fun b ob q => Heap.get?_push_of_some _ q) (Nat.le_refl _) ?_, rfl, q _ (I.hok.fresh (Nat.le_refl _))⟩
  exact ⟨Nat.le_trans (cutV_length xs lo hi) hz, _, 0, (r.drop (HT.sIx xs.length 0 lo)).take (HT.sIx xs.length xs.length hi - HT.sIx xs.length 0 lo), Heap.get?_push_size _ rfl⟩

/-! ### in, not in: flat items -/
def flatV : V → Bool
  | .non => true
  | .bl _ => true
  | .int _ => true
  | .str _ => true
  | _ => false
/-- == of flat values -/
def eqV : V → V → Bool
  | .non, .non => true
  | .bl a, .bl b => a == b
  | .bl a, .int b => (if a then 1 else 0) == b
  | .int a, .bl b => a == (if b then 1 else 0)
  | .int a, .int b => a == b
  | .str a, .str b => a == b
  | _, _ => false
theorem eqAt_V {A : Around} {s : Shared} {y x : V} {u v : Value} (ry : RelV y u) (rx : RelV x v) (fy : flatV y = true) (fx : flatV x = true) : SeqAt.EqAt A s u v (eqV y x) := by
  cases y with
  | non =>
    cases ry
    cases x with
    | non => cases rx; exact SeqAt.EqAt.same _
    | bl b => cases rx; exact SeqAt.EqAt.none_bool b
    | int b => obtain ⟨t, rfl⟩ := rx; exact SeqAt.EqAt.none_int b t
    | str b => obtain ⟨t, rfl⟩ := rx; exact SeqAt.EqAt.none_str b t
    | _ => exact absurd (show false = true from fx) Bool.false_ne_true
  | bl a =>
    cases ry
    cases x with
    | non => cases rx; exact SeqAt.EqAt.bool_none a
    | bl b => cases rx; exact SeqAt.EqAt.bool_bool a b
    | int b => obtain ⟨t, rfl⟩ := rx; exact SeqAt.EqAt.bool_int a b t
    | str b => obtain ⟨t, rfl⟩ := rx; exact SeqAt.EqAt.bool_str a b t
    | _ => exact absurd (show false = true from fx) Bool.false_ne_true
  | int a =>
    obtain ⟨t', rfl⟩ := ry
    cases x with
    | non => cases rx; exact SeqAt.EqAt.int_none a t'
    | bl b => cases rx; exact SeqAt.EqAt.int_bool a t' b
    | int b => obtain ⟨t, rfl⟩ := rx; exact SeqAt.EqAt.int_int a t' b t
    | str b => obtain ⟨t, rfl⟩ := rx; exact SeqAt.EqAt.int_str a t' b t
    | _ => exact absurd (show false = true from fx) Bool.false_ne_true
  | str a =>
    obtain ⟨t', rfl⟩ := ry
    cases x with
    | non => cases rx; exact SeqAt.EqAt.str_none a t'
    | bl b => cases rx; exact SeqAt.EqAt.str_bool a t' b
    | int b => obtain ⟨t, rfl⟩ := rx; exact SeqAt.EqAt.str_int a t' b t
    | str b => obtain ⟨t, rfl⟩ := rx; exact SeqAt.EqAt.str_str a t' b t
    | _ => exact absurd (show false = true from fx) Bool.false_ne_true
  | _ => exact absurd (show false = true from fy) Bool.false_ne_true
/-- the items' answers, read off the values (a value's own answer does not lean on its token) -/
def eqU (x : V) (u : Value) : Bool := match u with
  | .none => eqV .non x
  | .bool b => eqV (.bl b) x
  | .int i _ => eqV (.int i) x
  | .str z _ => eqV (.str z) x
  | _ => false
theorem eqU_of {x y : V} {u : Value} (r : RelV y u) (f : flatV y = true) : eqU x u = eqV y x := by
  cases y with
  | non => cases r; rfl
  | bl b => cases r; rfl
  | int i => obtain ⟨t, rfl⟩ := r; rfl
  | str z => obtain ⟨t, rfl⟩ := r; rfl
  | _ => exact absurd (show false = true from f) Bool.false_ne_true
theorem any_eqU {x : V} : ∀ {xs : List V} {us : List Value}, Vals xs us → xs.all flatV = true → us.any (eqU x) = xs.any fun y => eqV y x
  | _, _, .nil, _ => rfl
  | y :: xs, u :: us, .cons r t, f => by
    rw [List.all_cons, Bool.and_eq_true] at f
    rw [List.any_cons, List.any_cons, eqU_of r f.1, any_eqU t f.2]
theorem mem_eqAt {A : Around} {s : Shared} {x : V} {v : Value} (rx : RelV x v) (fx : flatV x = true) : ∀ {xs : List V} {us : List Value}, Vals xs us → xs.all flatV = true → ∀ u ∈ us, SeqAt.EqAt A s u v (eqU x u)
  | _, _, .nil, _ => fun u hu => by cases hu
  | y :: xs, u :: us, .cons r t, f => fun u' hu => by
    rw [List.all_cons, Bool.and_eq_true] at f
    rcases List.mem_cons.mp hu with rfl | hu
    · rw [eqU_of r f.1]; exact eqAt_V r rx f.1 fx
    · exact mem_eqAt rx fx t f.2 u' hu
def inV (x : V) (xs : List V) : Bool := xs.any fun y => eqV y x
/-- x in a list or tuple of flat items -/
def rIn (K : PySem.W.Frag) (neg : Bool) : R2 := fun x y H Q => ∃ p xs, y = .ref p ∧ (SqL K H p xs ∨ SqT K H p xs) ∧ flatV x = true ∧ xs.all flatV = true ∧ Q (.bl (if neg then !inV x xs else inV x xs)) H
theorem op_in_seq : OpR X (compareOp .In) (rIn X.K false) := by
  intro pins s σ H x y v u Q I rx ry h
  obtain ⟨p, xs, rfl, hq, fx, fs, q⟩ := h
  cases ry
  rcases hq with hq | hq
  · obtain ⟨its, r, pl, hz⟩ := I.list hq
    refine SeqAt.in_listAt (eqU x) pl.isList (fun w hw => mem_eqAt rx fx r fs w (by simpa using hw)) ⟨.bl _, H, I, rfl, ?_⟩
    rw [show its.toArray.any (eqU x) = its.any (eqU x) by simp, any_eqU r fs]
    exact q
  · obtain ⟨its, r, pl, hz⟩ := I.tuple hq
    refine SeqAt.in_tupleAt (eqU x) pl (fun w hw => mem_eqAt rx fx r fs w (by simpa using hw)) ⟨.bl _, H, I, rfl, ?_⟩
    rw [show its.toArray.any (eqU x) = its.any (eqU x) by simp, any_eqU r fs]
    exact q
theorem op_notIn_seq : OpR X (compareOp .NotIn) (rIn X.K true) := by
  intro pins s σ H x y v u Q I rx ry h
  obtain ⟨p, xs, rfl, hq, fx, fs, q⟩ := h
  cases ry
  rcases hq with hq | hq
  · obtain ⟨its, r, pl, hz⟩ := I.list hq
    refine SeqAt.notIn_listAt (eqU x) pl.isList (fun w hw => mem_eqAt rx fx r fs w (by simpa using hw)) ⟨.bl _, H, I, rfl, ?_⟩
    rw [show its.toArray.any (eqU x) = its.any (eqU x) by simp, any_eqU r fs]
    exact q
  · obtain ⟨its, r, pl, hz⟩ := I.tuple hq
    refine SeqAt.notIn_tupleAt (eqU x) pl (fun w hw => mem_eqAt rx fx r fs w (by simpa using hw)) ⟨.bl _, H, I, rfl, ?_⟩
    rw [show its.toArray.any (eqU x) = its.any (eqU x) by simp, any_eqU r fs]
    exact q
theorem op_notIn_str : OpR X (compareOp .NotIn) (fun x y H Q => ∃ i j, x = .str i ∧ y = .str j ∧ Q (.bl (!(!(Builtin.Str.occurrences j i 0 j.length 1).isEmpty))) H) := by
  intro pins s σ H x y v u Q I rx ry h
  obtain ⟨i, j, rfl, rfl, q⟩ := h
  obtain ⟨t, rfl⟩ := rx
  obtain ⟨t', rfl⟩ := ry
  exact notIn_str ⟨.bl _, H, I, rfl, q⟩

/-! ### len, list(x), tuple(x) of any list or tuple that is read -/
theorem call_len_seq : CallR X (.builtin "len") (fun xs H Q => ∃ p ys, xs = [.ref p] ∧ (SqL X.K H p ys ∨ SqT X.K H p ys) ∧ Q (.int ys.length) H) := by
  intro pins s σ H xs us Q I r h
  obtain ⟨p, ys, rfl, hq, q⟩ := h
  obtain ⟨u, rfl, rx⟩ := vals1 r
  cases rx
  have hn := line63
  rcases hq with hq | hq
  · obtain ⟨its, r', pl, hz⟩ := I.list hq
    have hlen := r'.length
    exact Calls.call_len_list pl.isList (by simp only [List.size_toArray] <;> omega) ⟨.int ys.length, H, I.tok _, ⟨s.toks + 1, by rw [List.size_toArray, hlen]⟩, q⟩
  · obtain ⟨its, r', pl, hz⟩ := I.tuple hq
    have hlen := r'.length
    exact len_tuple pl (by simp only [List.size_toArray] <;> omega) ⟨.int ys.length, H, I.tok _, ⟨s.toks + 1, by rw [List.size_toArray, hlen]⟩, q⟩
theorem call_len_str : CallR X (.builtin "len") (fun xs H Q => ∃ z, xs = [.str z] ∧ z.length ≤ sizeLine ∧ Q (.int z.length) H) := by
  intro pins s σ H xs us Q I r h
  obtain ⟨z, rfl, hz, q⟩ := h
  obtain ⟨u, rfl, t, rfl⟩ := vals1 r
  have hn := line63
  exact len_str (by omega) ⟨.int z.length, H, I.tok _, ⟨_, rfl⟩, q⟩
theorem CallR.or {f : Value} {r r' : List V → Hp → VK → Prop} (h : CallR X f r) (h' : CallR X f r') : CallR X f (fun xs H Q => r xs H Q ∨ r' xs H Q) := by
  intro pins s σ H xs us Q I rs q
  rcases q with q | q
  · exact h pins s σ H xs us Q I rs q
  · exact h' pins s σ H xs us Q I rs q
theorem call_list_of : CallR X (.type "list") (fun xs H Q => ∃ p ys, xs = [.ref p] ∧ (SqL X.K H p ys ∨ SqT X.K H p ys) ∧ ∀ l, H l = none → Q (.ref l) (upd H l (.lst ys))) := by
  intro pins s σ H xs us Q I r h
  obtain ⟨p, ys, rfl, hq, q⟩ := h
  obtain ⟨u, rfl, rx⟩ := vals1 r
  cases rx
  have fin : ∀ (its : List Value), Vals ys its → ys.length ≤ sizeLine → ∀ (h' : Heap) (c' : Nat), (∀ b o', s.heap.get? b = some o' → h'.get? b = some o') →
      h'.get? s.heap.objs.size = some { cls := .type "list", dict := none, data := .seq its.toArray c', slots := #[] } → EP X pins σ Q (.ref s.heap.objs.size) { s with heap := h' } := fun its r' hz h' c' kp e =>
    ⟨.ref s.heap.objs.size, _, I.laid (t' := s.toks) kp (Nat.le_refl _) (show ObjOk X.prog X.w _ h' _ (.lst ys) from ⟨hz, its, c', r', e⟩), rfl, q _ (I.hok.fresh (Nat.le_refl _))⟩
  rcases hq with hq | hq
  · obtain ⟨its, r', pl, hz⟩ := I.list hq
    have hlen := r'.length
    obtain ⟨o, ho, hc, n, hd⟩ := pl.isList
    exact call_list_seq p (.inl rfl) ho hc hd (fun h' c' kp e => fin its r' hz h' c' kp e) (by simp only [List.size_toArray] <;> omega)
  · obtain ⟨its, r', pl, hz⟩ := I.tuple hq
    have hlen := r'.length
    obtain ⟨o, ho, hc, n, hd⟩ := pl
    exact call_list_seq p (.inr rfl) ho hc hd (fun h' c' kp e => fin its r' hz h' c' kp e) (by simp only [List.size_toArray] <;> omega)
theorem call_tuple_of : CallR X (.type "tuple") (fun xs H Q => ∃ p ys, xs = [.ref p] ∧ ((SqL X.K H p ys ∧ ∀ l, H l = none → Q (.ref l) (upd H l (.tup ys))) ∨ (SqT X.K H p ys ∧ Q (.ref p) H))) := by
  intro pins s σ H xs us Q I r h
  obtain ⟨p, ys, rfl, h⟩ := h
  obtain ⟨u, rfl, rx⟩ := vals1 r
  cases rx
  rcases h with ⟨hq, q⟩ | ⟨hq, q⟩
  · obtain ⟨its, r', pl, hz⟩ := I.list hq
    have hlen := r'.length
    refine call_tuple_list pl.isList (fun h' kp => ?_) (by simp only [List.size_toArray] <;> omega)
    have I1 : Inv X pins σ H { s with heap := h' } := I.kept (t' := s.toks) kp
    have I2 : Inv X pins σ (upd H h'.objs.size (.tup ys)) { s with heap := h'.push { cls := .type "tuple", data := .seq its.toArray } } :=
      I1.laid (t' := s.toks) (fun b o e => Heap.get?_push_of_some _ e) (Nat.le_refl _) (show ObjOk X.prog X.w _ _ _ (.tup ys) from ⟨hz, its, r', IsTup.new _ _⟩)
    exact ⟨.ref h'.objs.size, _, I2, rfl, q _ (I1.hok.fresh (Nat.le_refl _))⟩
  · obtain ⟨its, r', pl, hz⟩ := I.tuple hq
    exact call_tuple_same pl ⟨.ref p, H, I, rfl, q⟩

/-! ### the call of a builtin's method: o.m(..) -/
/-- the value is of that builtin type -/
def tyV (K : PySem.W.Frag) (T : String) (x : V) (H : Hp) : Prop := match x with
  | .str _ => T = "str"
  | .int _ => T = "int"
  | .ref p => (T = "list" ∧ ∃ xs, SqL K H p xs) ∨ (T = "tuple" ∧ ∃ o, K.lookup p = some o ∧ o.cls = .type "tuple" ∧ o.dict = none) ∨
      (T = "dict" ∧ ((∃ kvs, H p = some (.dK kvs)) ∨ ∃ kvs, H p = some (.dT kvs))) ∨ (T = "set" ∧ ∃ S n, H p = some (.set S n))
  | _ => False
theorem tyV_is {pins : List (Addr × Obj)} {σ : St} {H : Hp} {s : Shared} {T : String} {x : V} {v : Value} (I : Inv X pins σ H s) (r : RelV x v) (ty : tyV X.K T x H) :
    s.TypeIs v T ∧ ∀ a, v = .ref a → ∃ ob, s.heap.get? a = some ob ∧ ob.dict = none := by
  cases x with
  | str z =>
    obtain ⟨t, rfl⟩ := r
    cases (show T = "str" from ty)
    exact ⟨typeIs_str s z t, fun _ e => nomatch e⟩
  | int i =>
    obtain ⟨t, rfl⟩ := r
    cases (show T = "int" from ty)
    exact ⟨typeIs_int s i t, fun _ e => nomatch e⟩
  | ref p =>
    cases r
    rcases ty with ⟨rfl, xs, hq⟩ | ⟨rfl, o, hk, hc, hd⟩ | ⟨rfl, hk⟩ | ⟨rfl, S, n, hk⟩
    · obtain ⟨its, _, pl, _⟩ := I.list hq
      refine ⟨pl.isList.typeIs, fun a e => ?_⟩
      cases e
      obtain ⟨o, n, e, c, hd, _⟩ := pl
      exact ⟨o, e, hd⟩
    · refine ⟨⟨o, I.kIn p o hk, hc⟩, fun a e => ?_⟩
      cases e
      exact ⟨o, I.kIn _ o hk, hd⟩
    · have z : ∃ o, s.heap.get? p = some o ∧ o.ExactDict := by
        rcases hk with ⟨kvs, hk⟩ | ⟨kvs, hk⟩
        · obtain ⟨_, _, _, _, o, _, _, e, ex, _⟩ := I.hok p _ hk
          exact ⟨o, e, ex⟩
        · obtain ⟨_, _, _, _, o, _, _, e, ex, _⟩ := I.hok p _ hk
          exact ⟨o, e, ex⟩
      obtain ⟨o, e, ex⟩ := z
      refine ⟨⟨o, e, ex.1⟩, fun a e2 => ?_⟩
      cases e2
      exact ⟨o, e, ex.2.1⟩
    · obtain ⟨o, _, _, _, e, ex, _⟩ := I.hok p _ hk
      refine ⟨⟨o, e, ex.1⟩, fun a e2 => ?_⟩
      cases e2
      exact ⟨o, e, ex.2.1⟩
  | _ => exact False.elim ty
def tBM0 (K : PySem.W.Frag) (T : String) (r : V → List V → Hp → VK → Prop) (to : TE) : TE := fun σ H Q => to σ H fun x H1 => tyV K T x H1 ∧ r x [] H1 Q
def tBM (K : PySem.W.Frag) (T : String) (r : V → List V → Hp → VK → Prop) (to : TE) (t : TA) : TE := fun σ H Q => to σ H fun x H1 => tyV K T x H1 ∧ t σ H1 fun xs H2 => r x xs H2 Q
variable {o e : Expr} {es : List Expr} {to : TE} {t : TA} {name : Str} {apos cpos : Pos} {T id : String} {r : V → List V → Hp → VK → Prop}
theorem pe_bm0 (pa : PlainAttrs T) (slot : Slot T name id) (hty : typeOf (.builtin id) = pure (.type "method_descriptor")) (hm : MtR X id r) (ho : PE X o to)
    (hbase : attributeBase o name X.env (eval o X.env) = eval o X.env := by rfl) (hline : (apos.endLine == cpos.line) = true := by rfl) : PE X (.Call (.Attribute o name apos) [] [] cpos) (tBM0 X.K T r to) := by
  intro pins s σ H Q I h
  refine wpAny_Call_method0_late hbase hline (thn (ho pins s σ H _ I h) fun v s1 ⟨x, H1, I1, r1, ty, q1⟩ => ?_)
  obtain ⟨h1, h2⟩ := tyV_is I1 r1 ty
  exact ⟨T, id, pa, slot, hty, h1, h2, Calls.callWith_builtin rfl (PySem.evalArgs_none (hm pins s1 σ H1 x [] v [] Q I1 r1 .nil q1))⟩
theorem pe_bm (pa : PlainAttrs T) (slot : Slot T name id) (hty : typeOf (.builtin id) = pure (.type "method_descriptor")) (hm : MtR X id r) (ho : PE X o to) (ha : PA X (e :: es) t)
    (hbase : attributeBase o name X.env (eval o X.env) = eval o X.env := by rfl)
    (hfew : ((backTo cpos (starEach (e :: es) X.env)).all (fun x => !x.1) && (backToKw cpos (keywordEach [] X.env)).all (fun x => x.1.isSome)
      && decide ((e :: es).length + ([] : List Keyword).length + (if ([] : List Keyword).isEmpty then 0 else 1) < 30)) = true := by rfl)
    (hline : (apos.endLine == cpos.line) = true := by rfl) (hs : starEach (e :: es) X.env = (false, eval e X.env) :: starEach es X.env := by rfl) (hplain : (backTo cpos (starEach es X.env)).any (·.1) = false := by rfl) :
    PE X (.Call (.Attribute o name apos) (e :: es) [] cpos) (tBM X.K T r to t) := by
  intro pins s σ H Q I h
  refine wpAny_Call_method_late hbase hfew hline rfl (thn (ho pins s σ H _ I h) fun v s1 ⟨x, H1, I1, r1, ty, q1⟩ => ?_)
  obtain ⟨h1, h2⟩ := tyV_is I1 r1 ty
  refine ⟨T, id, pa, slot, hty, h1, h2, ?_⟩
  have hA := ha cpos pins s1 σ H1 _ I1 q1
  rw [hs] at hA ⊢
  refine Calls.callWith_builtin (by show (false || (backTo cpos (starEach es X.env)).any (·.1)) = false; rw [hplain] <;> rfl) (Calls.evalArgs_plain ?_)
  exact thn hA fun us s2 ⟨vs, H2, I2, r2, q2⟩ => hm pins s2 σ H2 x vs v us Q I2 r1 r2 q2
/- xs.append(e), list.index on a module's tuple .. are MtR facts of 06m -/
end
end L2

namespace L2
open PySem PySem.Spec PyProof.Rows

def MtM (X : Cx) (id : String) (r : V → List V → Hp → VK → Prop) : Prop :=
  ∀ (pins : List (Addr × Obj)) (s : Shared) (σ : St) (H : Hp) (x : V) (xs : List V) (v : Value) (us : List Value) (Q : VK), Inv X pins σ H s → RelV x v → Vals xs us → r x xs H Q →
    wpAny (model X.prog X.w) X.A (call (.builtin id) (v :: us)) (EP X pins σ Q) X.xe s

/-! ### lists of values -/
theorem Vals.one : ∀ {x : V} {us : List Value}, Vals [x] us → ∃ u, us = [u] ∧ RelV x u
  | _, _, .cons r .nil => ⟨_, rfl, r⟩
theorem Vals.two : ∀ {x y : V} {us : List Value}, Vals [x, y] us → ∃ u v, us = [u, v] ∧ RelV x u ∧ RelV y v
  | _, _, _, .cons r (.cons q .nil) => ⟨_, _, rfl, r, q⟩
theorem Vals.zero : ∀ {us : List Value}, Vals [] us → us = []
  | _, .nil => rfl
theorem Vals.dropLast {xs : List V} {us : List Value} (h : Vals xs us) : Vals xs.dropLast us.dropLast := by
  induction h with
  | nil => exact .nil
  | cons r t ih =>
    cases t with
    | nil => exact .nil
    | cons q t' => exact .cons r ih
theorem Vals.eraseIdx : ∀ {xs : List V} {us : List Value} (i : Nat), Vals xs us → Vals (xs.eraseIdx i) (us.eraseIdx i)
  | _, _, _, .nil => .nil
  | _, _, 0, .cons _ t => t
  | _, _, i + 1, .cons r t => .cons r (Vals.eraseIdx i t)
theorem Vals.reverse {xs : List V} {us : List Value} (h : Vals xs us) : Vals xs.reverse us.reverse := by
  induction h with
  | nil => exact .nil
  | cons r t ih => rw [List.reverse_cons, List.reverse_cons]; exact Vals.append ih (.cons r .nil)
theorem Vals.rep {xs : List V} {us : List Value} (h : Vals xs us) : ∀ k : Nat, Vals (List.replicate k xs).flatten (List.replicate k us).flatten
  | 0 => .nil
  | k + 1 => by
    rw [List.replicate_succ, List.replicate_succ, List.flatten_cons, List.flatten_cons]
    exact Vals.append h (Vals.rep h k)
theorem erase_last {α : Type} (l : List α) : l.eraseIdx (l.length - 1) = l.dropLast := by
  induction l with
  | nil => rfl
  | cons a r ih =>
    cases r with
    | nil => rfl
    | cons b r =>
      have e : (a :: b :: r).length - 1 = ((b :: r).length - 1) + 1 := by
        have h1 : (a :: b :: r).length = r.length + 2 := rfl
        have h2 : (b :: r).length = r.length + 1 := rfl
        omega
      rw [e, List.eraseIdx_cons_succ, ih]
      all_goals rfl
theorem len_erase {α : Type} : ∀ (l : List α) (i : Nat), (l.eraseIdx i).length ≤ l.length
  | [], _ => Nat.le_refl _
  | _ :: _, 0 => Nat.le_succ _
  | _ :: r, i + 1 => Nat.succ_le_succ (len_erase r i)
theorem foldl_rep (its : List Value) : ∀ (k : Nat) (acc : List Value),
    List.foldl (fun x1 x2 => x1 ++ x2) acc.toArray (List.replicate k its.toArray) = (acc ++ (List.replicate k its).flatten).toArray
  | 0, acc => by simp
  | k + 1, acc => by
    have e : acc.toArray ++ its.toArray = (acc ++ its).toArray := by simp
    have e2 : (acc ++ its) ++ (List.replicate k its).flatten = acc ++ (List.replicate (k + 1) its).flatten := by
      rw [List.replicate_succ, List.flatten_cons, List.append_assoc]
    rw [← e2, ← foldl_rep its k (acc ++ its), ← e, List.replicate_succ, List.foldl_cons]

section
variable {X : Cx} {pins : List (Addr × Obj)} {σ : St} {H : Hp} {s : Shared} {l b : Addr} {xs ys zs : List V}

/-! ### the two steps: a tracked list is rewritten, a new list is laid -/
theorem Inv.lset {its its' : List Value} {n : Nat} {f : Array Value → Array Value} {t' : Nat} (I : Inv X pins σ H s) (hH : H l = some (.lst xs))
    (e : s.heap.get? l = some { cls := .type "list", data := .seq its.toArray n }) (hf : f its.toArray = its'.toArray) (hv : Vals ys its') (hz : ys.length ≤ sizeLine) :
    Inv X pins σ (upd H l (.lst ys)) { s with heap := s.heap.update l (Obj.mapSeq f), toks := t' } := by
  have q := PySem.IsL.update e f
  rw [hf] at q
  refine I.write (x := l) (e := l) (by rw [hH]; exact trivial) (.inl rfl) (fun b' u hb hu => (Heap.get?_update_other s.heap (Obj.mapSeq f) (Ne.symm hb)).trans hu) ⟨_, q⟩ ?_
  exact ⟨hz, its', _, hv, q⟩
theorem Inv.lnew {its : List Value} {t' : Nat} (I : Inv X pins σ H s) (hv : Vals ys its) (hz : ys.length ≤ sizeLine) :
    Inv X pins σ (upd H s.heap.objs.size (.lst ys)) { s with heap := s.heap.push { cls := .type "list", data := .seq its.toArray }, toks := t' } :=
  I.laid (fun _ _ q => Heap.get?_push_of_some _ q) (Nat.le_refl _) ⟨hz, its, 0, hv, Heap.get?_push_size _ rfl⟩
theorem Inv.fresh (I : Inv X pins σ H s) : H s.heap.objs.size = none := I.hok.fresh (Nat.le_refl _)
theorem Inv.lstM (I : Inv X pins σ H s) (hH : H l = some (.lst xs)) : xs.length ≤ sizeLine ∧ ∃ (its : List Value) (n : Nat), Vals xs its ∧ xs.length = its.length ∧ s.heap.get? l = some { cls := .type "list", data := .seq its.toArray n } := by
  obtain ⟨z, its, n, r, e⟩ := I.hok l _ hH
  exact ⟨z, its, n, r, r.length, e⟩

theorem notLongL {n : Nat} (h : n ≤ sizeLine) : Builtin.List.listTooLong n = false := by
  unfold Builtin.List.listTooLong
  exact decide_eq_false (by omega)
end

section
variable {X : Cx}

/-! ### methods -/
def rAppend : V → List V → Hp → VK → Prop := fun x vs H Q => ∃ l xs y, x = .ref l ∧ vs = [y] ∧ H l = some (.lst xs) ∧ xs.length < sizeLine ∧ Q .non (upd H l (.lst (xs ++ [y])))
theorem mt_append : MtM X "list.append" rAppend := by
  intro pins s σ H x vs v us Q I rx rv h
  obtain ⟨l, xs, y, rfl, rfl, hH, hz, q⟩ := h
  cases rx
  obtain ⟨u, rfl, ru⟩ := rv.one
  obtain ⟨z, its, n, r, hl, e⟩ := I.lstM hH
  refine call_meets F.slot_list_append ⟨_, e, rfl⟩ F.entry_list_append (F.args_list_append_2 _ _) (PySem.list_append l its.toArray n u (by rw [List.size_toArray]; omega)) ⟨e, ?_⟩
  refine ⟨.non, _, I.lset (its' := its ++ [u]) hH e (by simp) (r.append (.cons ru .nil)) ?_, rfl, q⟩
  rw [List.length_append, List.length_singleton]
  omega

def rExtend : V → List V → Hp → VK → Prop := fun x vs H Q => ∃ l b xs zs, x = .ref l ∧ vs = [.ref b] ∧ H l = some (.lst xs) ∧ H b = some (.lst zs) ∧ xs.length + zs.length ≤ sizeLine ∧ Q .non (upd H l (.lst (xs ++ zs)))
theorem mt_extend : MtM X "list.extend" rExtend := by
  intro pins s σ H x vs v us Q I rx rv h
  obtain ⟨l, b, xs, zs, rfl, rfl, hH, hB, hz, q⟩ := h
  cases rx
  obtain ⟨u, rfl, ru⟩ := rv.one
  cases ru
  obtain ⟨z, its, n, r, hl, e⟩ := I.lstM hH
  obtain ⟨z2, its2, n2, r2, hl2, e2⟩ := I.lstM hB
  have hsz : its.toArray.size + its2.toArray.size ≤ sizeLine := by rw [List.size_toArray, List.size_toArray]; omega
  have hlong : ¬ (!its.toArray.isEmpty && Builtin.List.listTooLong (its.toArray.size + its2.toArray.size)) = true := by
    rw [notLongL hsz, Bool.and_false]
    exact Bool.false_ne_true
  refine call_meets F.slot_list_extend ⟨_, e, rfl⟩ F.entry_list_extend (F.args_list_extend_2 _ _)
    (AutoSeq1.list_extend_list_list_0 l its.toArray n b its2.toArray n2 hlong (by rw [List.size_toArray]; omega) (by omega)) ⟨e, e2, ?_⟩
  refine ⟨.non, _, I.lset (its' := its ++ its2) hH e (by simp) (r.append r2) ?_, rfl, q⟩
  rw [List.length_append]
  omega

def rPop : V → List V → Hp → VK → Prop := fun x vs H Q => ∃ l xs y, x = .ref l ∧ vs = [] ∧ H l = some (.lst xs) ∧ xs[xs.length - 1]? = some y ∧ Q y (upd H l (.lst xs.dropLast))
theorem mt_pop : MtM X "list.pop" rPop := by
  intro pins s σ H x vs v us Q I rx rv h
  obtain ⟨l, xs, y, rfl, rfl, hH, hy, q⟩ := h
  cases rx
  have hus := rv.zero
  subst hus
  obtain ⟨z, its, n, r, hl, e⟩ := I.lstM hH
  obtain ⟨u, hu, ru⟩ := r.get hy
  have hy' : its.toArray[its.toArray.size - 1]? = some u := by
    show its.toArray[its.length - 1]? = some u
    rw [← Array.getElem?_toList, ← hl]
    exact hu
  refine call_meets F.slot_list_pop ⟨_, e, rfl⟩ F.entry_list_pop (F.args_list_pop_1 _) (MeetsSeq.list_pop_last l its.toArray n u hy' (by rw [List.size_toArray]; omega)) ⟨e, ?_⟩
  refine ⟨y, _, I.lset (its' := its.dropLast) hH e ?_ r.dropLast ?_, ru, q⟩
  · show its.toArray.eraseIdxIfInBounds (its.toArray.size - 1) = its.dropLast.toArray
    rw [List.size_toArray, List.eraseIdxIfInBounds_toArray, erase_last]
  · rw [List.length_dropLast]
    omega

def rPopAt : V → List V → Hp → VK → Prop := fun x vs H Q => ∃ l xs i k y, x = .ref l ∧ vs = [.int i] ∧ H l = some (.lst xs) ∧ -(2 ^ 63) ≤ i ∧ i < 2 ^ 63 ∧ seqIndex? i xs.length = some k ∧ xs[k]? = some y ∧ Q y (upd H l (.lst (xs.eraseIdx k)))
theorem mt_popAt : MtM X "list.pop" rPopAt := by
  intro pins s σ H x vs v us Q I rx rv h
  obtain ⟨l, xs, i, k, y, rfl, rfl, hH, h1, h2, hk, hy, q⟩ := h
  cases rx
  obtain ⟨u, rfl, ru⟩ := rv.one
  obtain ⟨t, rfl⟩ := ru
  obtain ⟨z, its, n, r, hl, e⟩ := I.lstM hH
  obtain ⟨w, hw, rw'⟩ := r.get hy
  refine call_meets F.slot_list_pop ⟨_, e, rfl⟩ F.entry_list_pop (F.args_list_pop_2 _ _)
    (MeetsSeq.list_pop_at l its.toArray n i t k w (fitsIndex_both h1 h2) (by rw [List.size_toArray, ← hl]; exact hk) (by rw [← Array.getElem?_toList]; exact hw) (by rw [List.size_toArray]; omega)) ⟨e, ?_⟩
  refine ⟨y, _, I.lset (its' := its.eraseIdx k) hH e ?_ (r.eraseIdx k) ?_, rw', q⟩
  · show its.toArray.eraseIdxIfInBounds k = (its.eraseIdx k).toArray
    rw [List.eraseIdxIfInBounds_toArray]
  · have := len_erase xs k
    omega

def rReverse : V → List V → Hp → VK → Prop := fun x vs H Q => ∃ l xs, x = .ref l ∧ vs = [] ∧ H l = some (.lst xs) ∧ Q .non (upd H l (.lst xs.reverse))
theorem mt_reverse : MtM X "list.reverse" rReverse := by
  intro pins s σ H x vs v us Q I rx rv h
  obtain ⟨l, xs, rfl, rfl, hH, q⟩ := h
  cases rx
  have hus := rv.zero
  subst hus
  obtain ⟨z, its, n, r, hl, e⟩ := I.lstM hH
  refine call_meets F.slot_list_reverse ⟨_, e, rfl⟩ F.entry_list_reverse (F.args_list_reverse_1 _) (AutoSeq1.list_reverse_list_0 l its.toArray n (by rw [List.size_toArray]; omega)) ⟨e, ?_⟩
  refine ⟨.non, _, I.lset (its' := its.reverse) hH e (by simp) r.reverse ?_, rfl, q⟩
  rw [List.length_reverse]
  omega

def rClear : V → List V → Hp → VK → Prop := fun x vs H Q => ∃ l xs, x = .ref l ∧ vs = [] ∧ H l = some (.lst xs) ∧ Q .non (upd H l (.lst []))
theorem mt_clear : MtM X "list.clear" rClear := by
  intro pins s σ H x vs v us Q I rx rv h
  obtain ⟨l, xs, rfl, rfl, hH, q⟩ := h
  cases rx
  have hus := rv.zero
  subst hus
  obtain ⟨z, its, n, r, hl, e⟩ := I.lstM hH
  refine call_meets F.slot_list_clear ⟨_, e, rfl⟩ F.entry_list_clear (F.args_list_clear_1 _) (AutoSeq1.list_clear_list_0 l its.toArray n (by rw [List.size_toArray]; omega)) ⟨e, ?_⟩
  exact ⟨.non, _, I.lset (its' := []) (ys := []) hH e rfl .nil (Nat.zero_le _), rfl, q⟩

/-! ### list + list, list += list, list * int -/
def rCat : R2 := fun x y H Q => ∃ l b xs zs, x = .ref l ∧ y = .ref b ∧ H l = some (.lst xs) ∧ H b = some (.lst zs) ∧ xs.length + zs.length ≤ sizeLine ∧ ∀ p, H p = none → Q (.ref p) (upd H p (.lst (xs ++ zs)))
theorem op_cat : OpR X (binaryOp .Add) rCat := by
  intro pins s σ H x y v u Q I rx ry h
  obtain ⟨l, b, xs, zs, rfl, rfl, hH, hB, hz, q⟩ := h
  cases rx
  cases ry
  obtain ⟨z, its, n, r, hl, e⟩ := I.lstM hH
  obtain ⟨z2, its2, n2, r2, hl2, e2⟩ := I.lstM hB
  refine PySem.P.add_list e e2 ?_ (by rw [List.size_toArray, List.size_toArray]; omega)
  have ea : its.toArray ++ its2.toArray = (its ++ its2).toArray := by simp
  rw [ea]
  exact ⟨.ref _, _, I.lnew (t' := s.toks) (r.append r2) (by rw [List.length_append]; omega), rfl, q _ I.fresh⟩
/-- a list times an int (a negative one is nothing) -/
def rRep : R2 := fun x y H Q => ∃ l k xs, x = .ref l ∧ y = .int k ∧ H l = some (.lst xs) ∧ -(2 ^ 63) ≤ k ∧ k < 2 ^ 63 ∧ xs.length * k.toNat ≤ sizeLine ∧
  ∀ p, H p = none → Q (.ref p) (upd H p (.lst (List.replicate k.toNat xs).flatten))
theorem len_rep {α : Type} (xs : List α) (k : Nat) : (List.replicate k xs).flatten.length = k * xs.length := by
  induction k with
  | zero => simp
  | succ k ih => rw [List.replicate_succ, List.flatten_cons, List.length_append, ih, Nat.succ_mul, Nat.add_comm]
theorem op_rep : OpR X (binaryOp .Mult) rRep := by
  intro pins s σ H x y v u Q I rx ry h
  obtain ⟨l, k, xs, rfl, rfl, hH, h1, h2, hz, q⟩ := h
  cases rx
  obtain ⟨t, rfl⟩ := ry
  obtain ⟨z, its, n, r, hl, e⟩ := I.lstM hH
  have hlen : its.toArray.size * k.toNat ≤ sizeLine := by rw [List.size_toArray, ← hl]; exact hz
  have hcap : ¬ its.toArray.size * k.toNat > (2 ^ 63 - 1) / 8 := by
    have : (sizeLine : Nat) ≤ (2 ^ 63 - 1) / 8 := by decide
    omega
  have hfit : ¬ (!Builtin.List.listFitsIndex k) = true := by
    rw [fitsIndex_both h1 h2]
    exact Bool.false_ne_true
  have hlong : ¬ Builtin.List.listTooLong (its.toArray.size * k.toNat) = true := by
    rw [notLongL hlen]
    exact Bool.false_ne_true
  have hnew : List.foldl (fun x1 x2 => x1 ++ x2) #[] (List.replicate (if its.toArray.isEmpty = true then 0 else k.toNat) its.toArray) = (List.replicate k.toNat its).flatten.toArray := by
    have f0 : ∀ m : Nat, List.foldl (fun x1 x2 => x1 ++ x2) #[] (List.replicate m its.toArray) = (List.replicate m its).flatten.toArray := fun m => by
      have := foldl_rep its m []
      rw [List.nil_append] at this
      exact this
    rw [f0]
    cases its with
    | nil => simp
    | cons a r' => rw [if_neg (by simp)]
  refine wpAny_binaryOp_repeat_ref (T := "list") (U := "int") (by decide) ⟨_, e, rfl⟩ (fun s' => typeIs_int s' k t) noFill_list_mul F.fills_int_mul F.slot_int_rmul repeat_list F.slot_int_index.lookup
    (call_meets F.slot_int_rmul (typeIs_int s k t) F.entry_int_rmul (F.args_int_rmul_2 _ _) (int___rmul___int_list k t l its.toArray n)
      ⟨e, rfl, ⟨_, e, rfl⟩, call_meets F.slot_list_mul ⟨_, e, rfl⟩ F.entry_list_mul (F.args_list_mul_2 _ _) (AutoListH.list___mul___list_int_3 l its.toArray n k t hfit hcap hlong) ⟨e, ?_⟩⟩)
  rw [hnew]
  exact ⟨.ref _, _, I.lnew (t' := s.toks) (r.rep k.toNat) (by rw [len_rep, Nat.mul_comm]; exact hz), rfl, q _ I.fresh⟩

/-! ### del xs[i] -/
theorem del_list {pins : List (Addr × Obj)} {s : Shared} {σ : St} {H : Hp} {l : Addr} {xs : List V} {i : Int} {t : Tok} {k : Nat} {Q : Unit → Shared → Prop} (I : Inv X pins σ H s) (hH : H l = some (.lst xs))
    (h1 : -(2 ^ 63) ≤ i) (h2 : i < 2 ^ 63) (hk : seqIndex? i xs.length = some k) (h : ∀ s', Inv X pins σ (upd H l (.lst (xs.eraseIdx k))) s' → Q () s') :
    wpAny (model X.prog X.w) X.A (delItem (.ref l) (.int i t)) Q X.xe s := by
  obtain ⟨z, its, n, r, hl, e⟩ := I.lstM hH
  refine PySem.P.delItem_list (k := k) e (fitsIndex_both h1 h2) (by rw [List.size_toArray, ← hl]; exact hk) (h _ ?_) (by rw [List.size_toArray]; omega)
  refine I.lset (its' := its.eraseIdx k) (t' := s.toks) hH e ?_ (r.eraseIdx k) ?_
  · show its.toArray.eraseIdxIfInBounds k = (its.eraseIdx k).toArray
    rw [List.eraseIdxIfInBounds_toArray]
  · have := len_erase xs k
    omega
end

/-! ### xs[a:b] = ys -/
section
variable {prog : Program} {w : World} {A : Around} {E : Value → Shared → Prop} {s : Shared}
theorem splice_eq (its its2 : List Value) (a c : Nat) : its.toArray.extract 0 a ++ its2.toArray ++ its.toArray.extract c its.toArray.size = (its.take a ++ its2 ++ its.drop c).toArray := by
  apply Array.toList_inj.mp
  first
    | (simp
       exact List.take_of_length_le (by simp))
    | simp [List.take_of_length_le]
    | simp
theorem bounds_run {a c n : Nat} (hac : a ≤ c) (hc : c ≤ n) : sliceBounds (some (a : Int)) (some (c : Int)) none n = ((a : Int), (c : Int), 1) := by
  simp only [sliceBounds, Option.getD_none]
  have h1 : ¬ ((a : Int) < 0) := by omega
  have h2 : ¬ ((c : Int) < 0) := by omega
  simp only [h1, h2, if_false, show (1 : Int) > 0 by decide, if_true]
  congr 1
  · omega
  · congr 1; omega
set_option maxRecDepth 100000 in
/-- list.__setitem__ with a slice of step one and another list -/
theorem setItem_slice {l b sl : Addr} {items new : Array Value} {n n2 : Nat} {vl vu : Value} {a c : Nat} {Q : Unit → Shared → Prop}
    (e : s.heap.get? l = some { cls := .type "list", data := .seq items n }) (e2 : s.heap.get? b = some { cls := .type "list", data := .seq new n2 }) (hne : l ≠ b)
    (hs : s.heap.IsSliceOf sl vl vu .none) (pl : IsPart vl (some (a : Int))) (pu : IsPart vu (some (c : Int))) (hac : a ≤ c) (hc : c ≤ items.size)
    (hsz : items.size + new.size ≤ sizeLine) (h : Q () { s with heap := s.heap.update l (Obj.mapSeq fun xs => xs.extract 0 a ++ new ++ xs.extract c xs.size) }) :
    wpAny (model prog w) A (setItem (.ref l) (.ref sl) (.ref b)) Q E s := by
  have hl : s.heap.IsList l items := PySem.IsL.isList e
  have hb : s.heap.IsList b new := PySem.IsL.isList e2
  obtain ⟨os, hos, hcs, hds⟩ := id hs
  have hTs : s.TypeIs (.ref sl) "slice" := ⟨os, hos, hcs⟩
  have hstep : ¬ ((rawPart none == rawInt 0) = true) := Bool.false_ne_true
  have hsame : Builtin.List.listSameRef (.ref l) (.ref b) = false := by
    unfold Builtin.List.listSameRef
    exact beq_eq_false_iff_ne.mpr hne
  have hmax : (max (a : Int) (c : Int)).toNat = c := by omega
  have hz' : ((fun xs : Array Value => xs.extract 0 a ++ new ++ xs.extract c xs.size) items).size ≤ sizeLine + 1 := by
    simp only [Array.size_append, Array.size_extract]
    omega
  unfold setItem
  try with_reducible refine wpAny_holding ?_
  first | refine wpAny_bind (wpAny_pure ?_) | skip
  refine wpAny_bind (wpAny_sequenceKey hl.typeIs (by decide) ?_)
  refine wpAny_bind (wpAny_callSpecial?_slot (name := Str.ofString "__setitem__") hl.typeIs slot_list_setitem
    (wpAny_call_entry slot_list_setitem hl.typeIs entry_list_setitem ?_ (args_list_setitem _ _ _)))
  show wpAny _ _ (Builtin.List.listSubscript? (.ref sl) >>= _) _ _ s
  refine wpAny_bind ?_
  unfold Builtin.List.listSubscript?
  refine wpAny_bind (wpAny_specialOf hTs slice_no_index ?_)
  simp only [Option.isNone_none, if_true]
  refine wpAny_pure ?_
  show wpAny _ _ (typeOf (.ref sl) >>= _) _ _ s
  refine wpAny_bind (wpAny_typeOf hTs ?_)
  first
    | rw [if_neg (by decide)]
    | refine PySem.W.KFB.if_not (by decide) ?_
  rw [listSliceParts_eq]
  refine wpAny_bind (wpAny_bind (wpAny_field hos hds (x := .none) rfl (wpAny_bind (wpAny_listPart .none ?_))))
  rw [if_neg hstep]
  refine wpAny_bind (wpAny_field hos hds (x := vl) rfl (wpAny_bind (wpAny_listPart pl ?_)))
  refine wpAny_bind (wpAny_field hos hds (x := vu) rfl (wpAny_bind (wpAny_listPart pu (wpAny_pure ?_))))
  first
    | simp only [hsame, Bool.false_eq_true, if_false]
    | refine PySem.W.KFB.if_not hsame ?_
    | (dsimp only
       rw [if_neg (by rw [hsame]; exact Bool.false_ne_true)])
  refine wpAny_bind (m := Builtin.List.listAllItems (.ref b) "must assign iterable to extended slice") ?_
  unfold Builtin.List.listAllItems
  refine wpAny_bind (wpAny_typeOf hb.typeIs ?_)
  first
    | refine PySem.W.KFB.if_so (by decide) ?_
    | rw [if_pos (by decide)]
    | simp only [beq_self_eq_true, Bool.true_or, if_true]
  unfold Builtin.List.listItems
  refine wpAny_bind (wpAny_seqItems e2 rfl (wpAny_pure ?_))
  refine wpAny_bind (wpAny_bind (wpAny_seqItems e rfl (wpAny_pure ?_)))
  refine wpAny_bind (wpAny_of_eq ((sliceIndices_raw (some (a : Int)) (some (c : Int)) none items.size (by simp)).trans (congrArg (pure : Int × Int × Int → Sem (Int × Int × Int)) (bounds_run hac hc))) ?_)
  show wpAny _ _ (if ((1 : Int) == 1) = true then _ else _) _ _ s
  rw [if_pos (by decide)]
  refine wpAny_bind (wpAny_rule ?_)
  first
    | simp only [notLongL hsz, Bool.false_eq_true, if_false]
    | refine PySem.W.KFB.if_not (notLongL hsz) ?_
  first | refine wpAny_bind (wpAny_pure ?_) | skip
  show wpAny _ _ (updateSeq l (fun xs => xs.extract 0 ((a : Int)).toNat ++ new ++ xs.extract (max (a : Int) (c : Int)).toNat xs.size) >>= _) _ _ s
  rw [hmax, Int.toNat_natCast]
  refine wpAny_bind (wpAny_updateSeq (hz := Nat.le_trans (Nat.le_add_right _ _) hsz) (_hz' := hz') e rfl ?_)
  refine wpAny_bind (wpAny_letGo ?_)
  first
    | exact wpAny_bind (wpAny_pure (wpAny_pure ⟨.none, rfl, wpAny_pure h⟩))
    | exact wpAny_pure ⟨.none, rfl, wpAny_pure h⟩
end

section
variable {X : Cx}
/-- xs[a:c] = ys of another list, at the value level: sl is the slice object that was just made -/
theorem set_slice {pins : List (Addr × Obj)} {s : Shared} {σ : St} {H : Hp} {l b sl : Addr} {xs ys : List V} {a c : Int} {vl vu : Value} {Q : Unit → Shared → Prop} (I : Inv X pins σ H s)
    (hH : H l = some (.lst xs)) (hB : H b = some (.lst ys)) (hne : l ≠ b) (hs : s.heap.IsSliceOf sl vl vu .none) (ra : RelV (.int a) vl) (rc : RelV (.int c) vu) (h0 : 0 ≤ a) (hac : a ≤ c) (hc : c ≤ xs.length)
    (hz : xs.length + ys.length ≤ sizeLine) (h : ∀ s', Inv X pins σ (upd H l (.lst (xs.take a.toNat ++ ys ++ xs.drop c.toNat))) s' → Q () s') :
    wpAny (model X.prog X.w) X.A (setItem (.ref l) (.ref sl) (.ref b)) Q X.xe s := by
  obtain ⟨ta, rfl⟩ := ra
  obtain ⟨tc, rfl⟩ := rc
  obtain ⟨z, its, n, r, hl, e⟩ := I.lstM hH
  obtain ⟨z2, its2, n2, r2, hl2, e2⟩ := I.lstM hB
  obtain ⟨a', rfl⟩ := Int.eq_ofNat_of_zero_le h0
  obtain ⟨c', rfl⟩ := Int.eq_ofNat_of_zero_le (Int.le_trans h0 hac)
  simp only [Int.toNat_natCast] at h
  refine setItem_slice (a := a') (c := c') e e2 hne hs (.int _ _) (.int _ _) (by omega) (by rw [List.size_toArray]; omega) (by rw [List.size_toArray, List.size_toArray]; omega) (h _ ?_)
  refine I.lset (its' := its.take a' ++ its2 ++ its.drop c') (t' := s.toks) hH e ?_ (Vals.append (Vals.append (r.take _) r2) (r.drop _)) ?_
  · exact splice_eq its its2 a' c'
  · rw [List.length_append, List.length_append, List.length_take, List.length_drop]
    omega
end
end L2

namespace L2
open PySem PySem.Spec PyProof.Rows

theorem Vals.ints : ∀ {ns : List Int} {us : List Value}, Vals (ns.map V.int) us → IntsAre us ns
  | [], us, h => by
    rw [List.map_nil] at h
    cases h
    exact IntsAre.nil
  | n :: ns, us, h => by
    rw [List.map_cons] at h
    cases h with
    | cons r t =>
      obtain ⟨k, rfl⟩ := r
      exact IntsAre.cons n k (Vals.ints t)
theorem vals_of_ints : ∀ {us : List Value} {ns : List Int}, IntsAre us ns → Vals (ns.map V.int) us
  | _, _, .nil => by rw [List.map_nil]; exact Paired.nil
  | _, _, .cons n t h => by rw [List.map_cons]; exact Paired.cons (show RelV (V.int n) (Value.int n t) from ⟨t, rfl⟩) (vals_of_ints h)
theorem Vals.strs : ∀ {xs : List Str} {us : List Value}, Vals (xs.map V.str) us → StrsAre us xs
  | [], us, h => by
    rw [List.map_nil] at h
    cases h
    exact StrsAre.nil
  | x :: xs, us, h => by
    rw [List.map_cons] at h
    cases h with
    | cons r t =>
      obtain ⟨k, rfl⟩ := r
      exact StrsAre.cons x k (Vals.strs t)
theorem vals_of_strs : ∀ {us : List Value} {xs : List Str}, StrsAre us xs → Vals (xs.map V.str) us
  | _, _, .nil => by rw [List.map_nil]; exact Paired.nil
  | _, _, .cons x t h => by rw [List.map_cons]; exact Paired.cons (show RelV (V.str x) (Value.str x t) from ⟨t, rfl⟩) (vals_of_strs h)
theorem Vals.bls : ∀ {bs : List Bool} {us : List Value}, Vals (bs.map V.bl) us → us = bs.map Value.bool
  | [], us, h => by
    rw [List.map_nil] at h
    cases h
    rfl
  | b :: bs, us, h => by
    rw [List.map_cons] at h
    cases h with
    | cons r t =>
      cases r
      rw [Vals.bls t, List.map_cons]
theorem Vals.ref1 {a : Addr} {us : List Value} (r : Vals [V.ref a] us) : us = [Value.ref a] := by
  cases r with
  | cons r t =>
    cases t
    cases r
    rfl
theorem Vals.int2 {i j : Int} {us : List Value} (r : Vals [V.int i, V.int j] us) : ∃ t u, us = [Value.int i t, Value.int j u] := by
  cases r with
  | cons r t =>
    cases t with
    | cons r2 t2 =>
      cases t2
      obtain ⟨t, rfl⟩ := r
      obtain ⟨u, rfl⟩ := r2
      exact ⟨t, u, rfl⟩

/-! ### the library's walks over a list of ints, kept objects alone -/
section
variable {prog : Program} {w : World} {A : Around} {E : Value → Shared → Prop} {s : Shared} {l : Addr} {its : List Value} {ns : List Int} {Q : Value → Shared → Prop}
theorem sum_raw (hh : A.handled = none) (hl : s.heap.IsList l its.toArray) (hi : IntsAre its ns)
    (h : ∀ h' tk t', (∀ b o, s.heap.get? b = some o → h'.get? b = some o) → Q (.int ns.sum t') { s with heap := h', toks := tk }) : wpAny (model prog w) A (call (.builtin "sum") [.ref l]) Q E s := by
  obtain ⟨xs, e⟩ := hi.allInts.items
  have hn : numsOf (intItems xs).toList = ns := by rw [← e]; exact hi.numsOf
  rw [nums_intItems] at hn
  rw [e] at hl
  refine PySem.sum_intListG hh hl fun h' tk t' hk => ?_
  have := h h' tk t' hk
  rw [preSum_eq, List.take_of_length_le (by simp), hn]; exact this
theorem max_raw (hh : A.handled = none) (hl : s.heap.IsList l its.toArray) (hi : IntsAre its ns) (hne : 0 < ns.length)
    (h : ∀ h' tk M t', (∀ b o, s.heap.get? b = some o → h'.get? b = some o) → M ∈ ns → (∀ a, a ∈ ns → a ≤ M) → Q (.int M t') { s with heap := h', toks := tk }) : wpAny (model prog w) A (call (.builtin "max") [.ref l]) Q E s := by
  obtain ⟨xs, e⟩ := hi.allInts.items
  have hn : numsOf (intItems xs).toList = ns := by rw [← e]; exact hi.numsOf
  rw [nums_intItems] at hn
  subst hn
  rw [e] at hl
  have hsz : 0 < xs.size := by simpa using hne
  refine PySem.max_intList hh hl hsz fun v h' tk hv hk => ?_
  obtain ⟨t, rfl⟩ := intItems_at hv
  obtain ⟨h1, h2⟩ := argBest_gt (numAt xs) (xs.size - 1)
  refine h h' tk _ t hk ?_ fun a ha => ?_
  · rw [numAt_eq]; exact PySem.getD_mem (by rw [List.length_map, Array.length_toList]; omega)
  · obtain ⟨j, hj, rfl⟩ := mem_getD ha
    rw [List.length_map, Array.length_toList] at hj
    rw [← numAt_eq]; exact h2 j (by omega)
theorem min_raw (hh : A.handled = none) (hl : s.heap.IsList l its.toArray) (hi : IntsAre its ns) (hne : 0 < ns.length)
    (h : ∀ h' tk M t', (∀ b o, s.heap.get? b = some o → h'.get? b = some o) → M ∈ ns → (∀ a, a ∈ ns → M ≤ a) → Q (.int M t') { s with heap := h', toks := tk }) : wpAny (model prog w) A (call (.builtin "min") [.ref l]) Q E s := by
  obtain ⟨xs, e⟩ := hi.allInts.items
  have hn : numsOf (intItems xs).toList = ns := by rw [← e]; exact hi.numsOf
  rw [nums_intItems] at hn
  subst hn
  rw [e] at hl
  have hsz : 0 < xs.size := by simpa using hne
  refine PySem.min_intList hh hl hsz fun v h' tk hv hk => ?_
  obtain ⟨t, rfl⟩ := intItems_at hv
  obtain ⟨h1, h2⟩ := argBest_lt (numAt xs) (xs.size - 1)
  refine h h' tk _ t hk ?_ fun a ha => ?_
  · rw [numAt_eq]; exact PySem.getD_mem (by rw [List.length_map, Array.length_toList]; omega)
  · obtain ⟨j, hj, rfl⟩ := mem_getD ha
    rw [List.length_map, Array.length_toList] at hj
    rw [← numAt_eq]; exact h2 j (by omega)
end

/-! ### the calls, by values (CallR of 03t; MtR of 06l) -/
section
variable {X : Cx}
/-- sum(xs) of a list of ints -/
def rSum (K : PySem.W.Frag) : List V → Hp → VK → Prop := fun vs H Q => ∃ (a : Addr) (ns : List Int), vs = [V.ref a] ∧ SqL K H a (ns.map V.int) ∧ Q (.int ns.sum) H
/-- max(xs), min(xs) of a list of ints -/
def rMax (K : PySem.W.Frag) : List V → Hp → VK → Prop := fun vs H Q => ∃ (a : Addr) (ns : List Int), vs = [V.ref a] ∧ SqL K H a (ns.map V.int) ∧ 0 < ns.length ∧ ∀ m, m ∈ ns → (∀ y, y ∈ ns → y ≤ m) → Q (.int m) H
def rMin (K : PySem.W.Frag) : List V → Hp → VK → Prop := fun vs H Q => ∃ (a : Addr) (ns : List Int), vs = [V.ref a] ∧ SqL K H a (ns.map V.int) ∧ 0 < ns.length ∧ ∀ m, m ∈ ns → (∀ y, y ∈ ns → m ≤ y) → Q (.int m) H
theorem cr_sum (hc : X.calm = true) : CallR X (.builtin "sum") (rSum X.K) := by
  intro pins s σ H vs us Q I r h
  obtain ⟨a, ns, rfl, hs, q⟩ := h
  obtain ⟨its, rv, hl, _⟩ := I.list hs
  rw [Vals.ref1 r]
  exact sum_raw (I.ok.hd hc) hl.isList rv.ints fun h' tk t' hk => ⟨.int _, H, I.kept hk, ⟨_, rfl⟩, q⟩
theorem cr_max (hc : X.calm = true) : CallR X (.builtin "max") (rMax X.K) := by
  intro pins s σ H vs us Q I r h
  obtain ⟨a, ns, rfl, hs, hne, q⟩ := h
  obtain ⟨its, rv, hl, _⟩ := I.list hs
  rw [Vals.ref1 r]
  exact max_raw (I.ok.hd hc) hl.isList rv.ints hne fun h' tk m t' hk h1 h2 => ⟨.int _, H, I.kept hk, ⟨_, rfl⟩, q m h1 h2⟩
theorem cr_min (hc : X.calm = true) : CallR X (.builtin "min") (rMin X.K) := by
  intro pins s σ H vs us Q I r h
  obtain ⟨a, ns, rfl, hs, hne, q⟩ := h
  obtain ⟨its, rv, hl, _⟩ := I.list hs
  rw [Vals.ref1 r]
  exact min_raw (I.ok.hd hc) hl.isList rv.ints hne fun h' tk m t' hk h1 h2 => ⟨.int _, H, I.kept hk, ⟨_, rfl⟩, q m h1 h2⟩

/-! sorted, sort (fewer than 64 items: the library's own bound) -/
def rSorted (K : PySem.W.Frag) : List V → Hp → VK → Prop := fun vs H Q => ∃ (a : Addr) (ns : List Int), vs = [V.ref a] ∧ SqL K H a (ns.map V.int) ∧ ns.length < 64 ∧
  ∀ (ns' : List Int) (p : Addr), ns'.Perm ns → ns'.Pairwise (· ≤ ·) → H p = none → Q (.ref p) (upd H p (.lst (ns'.map V.int)))
def rSortedS (K : PySem.W.Frag) : List V → Hp → VK → Prop := fun vs H Q => ∃ (a : Addr) (xs : List Str), vs = [V.ref a] ∧ SqL K H a (xs.map V.str) ∧ xs.length < 64 ∧
  ∀ (ys : List Str) (p : Addr), ys.Perm xs → sortedS ys = true → H p = none → Q (.ref p) (upd H p (.lst (ys.map V.str)))
theorem small64 {n : Nat} (h : n < 64) : n ≤ sizeLine := by rw [sizeLine_eq]; omega
theorem cr_sorted : CallR X (.builtin "sorted") (rSorted X.K) := by
  intro pins s σ H vs us Q I r h
  obtain ⟨a, ns, rfl, hs, h64, q⟩ := h
  obtain ⟨its, rv, hl, _⟩ := I.list hs
  rw [Vals.ref1 r]
  have hi := rv.ints
  refine PyProof.Rows.sorted_ints hl.isList hi (by rw [hi.length]; exact h64) fun out ns' h1 h2 h3 => ?_
  obtain ⟨ep, he'⟩ := PyProof.Rows.sortedAll_at s.heap its out
  have hlen : (ns'.map V.int).length ≤ sizeLine := by rw [List.length_map, h2.length_eq]; exact small64 h64
  exact ⟨.ref _, upd H (s.heap.objs.size + 1) (.lst (ns'.map V.int)), I.laid (t' := s.toks) (fun _ _ => PyProof.Rows.sortedAll_old) (Nat.le_succ _) ⟨hlen, out.toList, ep, vals_of_ints h1, he'⟩, rfl, q ns' _ h2 h3 (I.hok.fresh (Nat.le_succ _))⟩
theorem cr_sortedS : CallR X (.builtin "sorted") (rSortedS X.K) := by
  intro pins s σ H vs us Q I r h
  obtain ⟨a, xs, rfl, hs, h64, q⟩ := h
  obtain ⟨its, rv, hl, _⟩ := I.list hs
  rw [Vals.ref1 r]
  have hlen0 := rv.length
  rw [List.length_map] at hlen0
  refine PyProof.Rows.sorted_strs hl.isList rv.strs (by rw [← hlen0]; exact h64) fun out ys h1 h2 h3 => ?_
  obtain ⟨ep, he'⟩ := PyProof.Rows.sortedAll_at s.heap its out
  have hlen : (ys.map V.str).length ≤ sizeLine := by rw [List.length_map, h2.length_eq]; exact small64 h64
  exact ⟨.ref _, upd H (s.heap.objs.size + 1) (.lst (ys.map V.str)), I.laid (t' := s.toks) (fun _ _ => PyProof.Rows.sortedAll_old) (Nat.le_succ _) ⟨hlen, out.toList, ep, vals_of_strs h1, he'⟩, rfl, q ys _ h2 h3 (I.hok.fresh (Nat.le_succ _))⟩
/-- xs.sort(), ints -/
def rSort : V → List V → Hp → VK → Prop := fun x xs H Q => ∃ (a : Addr) (ns : List Int), x = V.ref a ∧ xs = [] ∧ H a = some (.lst (ns.map V.int)) ∧ ns.length < 64 ∧
  ∀ ns' : List Int, ns'.Perm ns → ns'.Pairwise (· ≤ ·) → Q .non (upd H a (.lst (ns'.map V.int)))
theorem mt_sort : MtR X "list.sort" rSort := by
  intro pins s σ H x xs v us Q I rx rxs h
  obtain ⟨a, ns, rfl, rfl, ha, h64, q⟩ := h
  cases rx
  cases rxs
  obtain ⟨hz, its, n, rv, hob⟩ := I.hok a _ ha
  have hi := rv.ints
  refine wpAny_call_entry PyProof.Rows.slot_list_sort ⟨_, hob, rfl⟩ PyProof.Rows.entry_list_sort
    (PyProof.Rows.list_sort_tree hob hi (by rw [hi.length]; exact h64) fun out ns' h1 h2 h3 => ⟨.none, rfl, ?_⟩) (PyProof.Rows.args_list_sort _)
  obtain ⟨ep, he'⟩ := PyProof.Rows.sortedHeap_at (vs := its) (out := out) hob
  have hlen : (ns'.map V.int).length ≤ sizeLine := by rw [List.length_map, h2.length_eq]; exact small64 h64
  refine ⟨.non, upd H a (.lst (ns'.map V.int)), I.write (e := a) (t' := s.toks) (by rw [ha]; trivial) (.inl rfl) (fun b u hb hu => ?_) ⟨_, he'⟩ ⟨hlen, out.toList, ep, vals_of_ints h1, he'⟩, rfl, q ns' h2 h3⟩
  rw [PyProof.Rows.sortedHeap_old hb (Heap.lt_size hu)]; exact hu
end

/-! ### list.index, flat items -/
section
variable {X : Cx}
def rIndex (K : PySem.W.Frag) : V → List V → Hp → VK → Prop := fun x xs H Q => ∃ (a : Addr) (ys : List V) (y : V) (j : Nat) (z : V), x = V.ref a ∧ xs = [y] ∧ SqL K H a ys ∧ flatV y = true ∧ ys.all flatV = true ∧ ys[j]? = some z ∧ eqV z y = true ∧
  (∀ (m : Nat) (z' : V), m < j → ys[m]? = some z' → eqV z' y = false) ∧ Q (.int (j : Nat)) H
theorem flat_at {ys : List V} (f : ys.all flatV = true) {j : Nat} {z : V} (h : ys[j]? = some z) : flatV z = true := List.all_eq_true.mp f z (List.mem_of_getElem? h)
theorem mt_index : MtR X "list.index" (rIndex X.K) := by
  intro pins s σ H x xs v us Q I rx rxs h
  obtain ⟨a, ys, y, j, z, rfl, rfl, hs, fy, fys, hz, hzj, hno, q⟩ := h
  cases rx
  cases rxs with
  | cons ry rt =>
    rename_i uy ut
    cases rt
    obtain ⟨its, rv, ⟨⟨cls, dd, data, sl⟩, n, ho, hc, hdn, hd⟩, hlen⟩ := I.list hs
    simp only at hc hd
    subst hc hd
    obtain ⟨u, hu, ru⟩ := rv.get hz
    obtain ⟨hjl, hje⟩ := List.getElem?_eq_some_iff.mp hu
    have hvl := rv.length
    have hj : j < its.toArray.size := by simpa using hjl
    have hsl := sizeLine_eq
    refine call_meets PySem.F.slot_list_index ⟨_, ho, rfl⟩ PySem.F.entry_list_index (PySem.F.args_list_index_2 _ _)
      (SeqAt.list_indexAt a its.toArray n dd sl uy (eqU y) j hj (by omega) ?_ ?_) ⟨ho, fun u' hu' => mem_eqAt ry fy rv fys u' (by simpa using hu'), ?_⟩
    · have e1 : its.toArray[j] = u := by simpa using hje
      rw [e1, eqU_of ru (flat_at fys hz)]
      exact hzj
    · intro m hm hmj
      have hml : m < its.length := by simpa using hm
      have hmy : m < ys.length := by omega
      have hy' : ys[m]? = some ys[m] := List.getElem?_eq_getElem hmy
      obtain ⟨u2, hu2, ru2⟩ := rv.get hy'
      obtain ⟨_, hme⟩ := List.getElem?_eq_some_iff.mp hu2
      have e1 : its.toArray[m] = u2 := by simpa using hme
      rw [e1, eqU_of ru2 (flat_at fys hy')]
      exact hno m _ hmj hy'
    · exact ⟨.int (j : Nat), H, I.tok _, ⟨_, rfl⟩, q⟩
end

/-! ### type(x) of an own instance; is, is not of a module's class -/
section
variable {X : Cx}
theorem cr_type : CallR X (.type "type") (fun xs H Q => ∃ a C dx fs, xs = [V.ref a] ∧ H a = some (.ins C dx fs) ∧ Q (.ref C) H) := by
  intro pins s σ H xs us Q I r h
  obtain ⟨a, C, dx, fs, rfl, ha, q⟩ := h
  rw [Vals.ref1 r]
  obtain ⟨mA, O, _⟩ := ins_get I.hok ha
  obtain ⟨od, J, _⟩ := O.look
  exact PySem.W.kto_own J ⟨.ref C, H, I, rfl, q⟩
/-- an object of the module whose class is no tuple: a class of the text (makesIn says that its type is a type's heir) -/
theorem cls_there {K : PySem.W.Frag} {C : Addr} (h : PySem.W.makesIn K C = true) : ∃ o, K.lookup C = some o ∧ o.cls ≠ .type "tuple" := by
  unfold PySem.W.makesIn at h
  split at h
  · rename_i oc od cd sl ho
    refine ⟨_, ho, fun e => ?_⟩
    rw [Bool.and_eq_true] at h
    have h2 : PySem.W.instIn K (.ref C) (.type "type") = some true := beq_iff_eq.mp h.2
    have e2 : oc = .type "tuple" := e
    have h3 : PySem.W.instIn K (.ref C) (.type "type") = PySem.W.subIn K oc (.type "type") := by
      show ((K.lookup C).map (fun o => o.cls)).bind (fun t => PySem.W.subIn K t (.type "type")) = _
      rw [ho]
      all_goals rfl
    rw [h3, e2] at h2
    have h4 : PySem.W.subIn K (.type "tuple") (.type "type") = some false := by
      show (fastBuiltinMro "tuple").map (·.contains (.type "type")) = some false
      decide +kernel
    rw [h4] at h2
    cases h2
  · cases h
theorem op_is_cls : OpR X (compareOp .Is) (fun x y H Q => ∃ a b, x = V.ref a ∧ y = V.ref b ∧ (a = b ∨ (PySem.W.makesIn X.K a = true ∧ PySem.W.makesIn X.K b = true)) ∧ Q (.bl (decide (a = b))) H) := by
  intro pins s σ H x y v u Q I rx ry h
  obtain ⟨a, b, rfl, rfl, hab, q⟩ := h
  cases rx
  cases ry
  by_cases z : a = b
  · subst z
    exact wpAny_is_ref_self ⟨.bl _, H, I, by simp [RelV], q⟩
  · rcases hab with e | ⟨h1, h2⟩
    · exact absurd e z
    · obtain ⟨o1, e1, n1⟩ := cls_there h1
      obtain ⟨o2, e2, _⟩ := cls_there h2
      exact wpAny_is_ref_other z (I.kIn _ _ e1) (I.kIn _ _ e2) n1 ⟨.bl _, H, I, by simp [RelV, z], q⟩
theorem op_isnot_cls : OpR X (compareOp .IsNot) (fun x y H Q => ∃ a b, x = V.ref a ∧ y = V.ref b ∧ (a = b ∨ (PySem.W.makesIn X.K a = true ∧ PySem.W.makesIn X.K b = true)) ∧ Q (.bl (!decide (a = b))) H) := by
  intro pins s σ H x y v u Q I rx ry h
  obtain ⟨a, b, rfl, rfl, hab, q⟩ := h
  cases rx
  cases ry
  by_cases z : a = b
  · subst z
    exact wpAny_isNot_ref_self ⟨.bl _, H, I, by simp [RelV], q⟩
  · rcases hab with e | ⟨h1, h2⟩
    · exact absurd e z
    · obtain ⟨o1, e1, n1⟩ := cls_there h1
      obtain ⟨o2, e2, _⟩ := cls_there h2
      exact wpAny_isNot_ref_other z (I.kIn _ _ e1) (I.kIn _ _ e2) n1 ⟨.bl _, H, I, by simp [RelV, z], q⟩
end

/-! ### any(xs), all(xs) of a list of bools -/
theorem iter_any {prog : Program} {w : World} {A : Around} {E : Value → Shared → Prop} {s : Shared} {l : Addr} {items : Array Value} {Q : Value → Shared → Prop} (hl : s.heap.IsList l items)
    (h : ∀ s₂ : Shared, s₂ = { s with heap := s.heap.push { cls := .type "list_iterator", data := .fields #[.ref l, .int 0 0] } } →
      (s₂.heap.IsListIter s.heap.objs.size l 0 ∧ s₂.heap.IsList l items) → l ≠ s.heap.objs.size → Q (.ref s.heap.objs.size) s₂) : wpAny (model prog w) A (pyIter (.ref l)) Q E s := by
  have hlt : l < s.heap.objs.size := by obtain ⟨_, e, _⟩ := hl; exact Heap.lt_size e
  exact wpAny_pyIter_list hl (h _ rfl ⟨⟨_, Heap.get?_push_size _ rfl, rfl, rfl⟩, hl.push _⟩ (Nat.ne_of_lt hlt))
theorem truth_bools {prog : Program} {w : World} {A : Around} {bs : List Bool} {its : List Value} (e : its = bs.map Value.bool) :
    TruthOf prog w A (fun i v => its.toArray[i]? = some v) (fun i => bs.getD i false) := fun i v s Q E hv hq => by
  have hv' : its[i]? = some v := by simpa using hv
  rw [e, List.getElem?_map] at hv'
  obtain ⟨b, hb, rfl⟩ := Option.map_eq_some_iff.mp hv'
  have hg : bs.getD i false = b := by rw [List.getD_eq_getElem?_getD, hb] <;> rfl
  have hq' : Q (bs.getD i false) s := hq
  rw [hg] at hq'
  exact wpAny_truthy_bool hq'
theorem any_range : ∀ bs : List Bool, (List.range bs.length).any (fun i => bs.getD i false) = bs.any id
  | [] => rfl
  | b :: bs => by
    rw [List.length_cons, List.range_succ_eq_map, List.any_cons, List.any_map, List.any_cons, ← any_range bs]
    all_goals rfl
theorem all_range : ∀ bs : List Bool, (List.range bs.length).all (fun i => bs.getD i false) = bs.all id
  | [] => rfl
  | b :: bs => by
    rw [List.length_cons, List.range_succ_eq_map, List.all_cons, List.all_map, List.all_cons, ← all_range bs]
    all_goals rfl
section
variable {X : Cx}
def rAny (K : PySem.W.Frag) : List V → Hp → VK → Prop := fun vs H Q => ∃ (a : Addr) (bs : List Bool), vs = [V.ref a] ∧ SqL K H a (bs.map V.bl) ∧ Q (.bl (bs.any id)) H
def rAll (K : PySem.W.Frag) : List V → Hp → VK → Prop := fun vs H Q => ∃ (a : Addr) (bs : List Bool), vs = [V.ref a] ∧ SqL K H a (bs.map V.bl) ∧ Q (.bl (bs.all id)) H
theorem cr_any (hc : X.calm = true) : CallR X (.builtin "any") (rAny X.K) := by
  intro pins s σ H vs us Q I r h
  obtain ⟨a, bs, rfl, hs, q⟩ := h
  obtain ⟨its, rv, hl, _⟩ := I.list hs
  rw [Vals.ref1 r]
  have hb := rv.bls
  refine call_any_walk (iter_any hl.isList fun s₂ e2 st hne => ?_)
  subst e2
  refine ⟨_, _, _, _, _, _, _, rfl, Walks.list (A := X.A.in1) (I.ok.hd hc) _ a hne its.toArray, st, truth_bools hb, fun h' tk hk => ?_⟩
  refine ⟨.bl _, H, I.kept fun b o eo => hk b o (fun hmem => ?_) (Heap.get?_push_of_some _ eo), ?_, q⟩
  · rcases List.mem_cons.mp hmem with e1 | hmem
    · exact absurd (e1 ▸ Heap.lt_size eo) (Nat.lt_irrefl _)
    · cases hmem
  · show Value.bool _ = Value.bool _
    rw [← any_range, hb, List.size_toArray, List.length_map]
theorem cr_all (hc : X.calm = true) : CallR X (.builtin "all") (rAll X.K) := by
  intro pins s σ H vs us Q I r h
  obtain ⟨a, bs, rfl, hs, q⟩ := h
  obtain ⟨its, rv, hl, _⟩ := I.list hs
  rw [Vals.ref1 r]
  have hb := rv.bls
  refine call_all_walk (iter_any hl.isList fun s₂ e2 st hne => ?_)
  subst e2
  refine ⟨_, _, _, _, _, _, _, rfl, Walks.list (A := X.A.in1) (I.ok.hd hc) _ a hne its.toArray, st, truth_bools hb, fun h' tk hk => ?_⟩
  refine ⟨.bl _, H, I.kept fun b o eo => hk b o (fun hmem => ?_) (Heap.get?_push_of_some _ eo), ?_, q⟩
  · rcases List.mem_cons.mp hmem with e1 | hmem
    · exact absurd (e1 ▸ Heap.lt_size eo) (Nat.lt_irrefl _)
    · cases hmem
  · show Value.bool _ = Value.bool _
    rw [← all_range, hb, List.size_toArray, List.length_map]
end

/-! ### == and != of data at any depth: none, bools, ints, texts, lists, tuples -/
mutual
inductive Dp (K : PySem.W.Frag) (H : Hp) : V → PyData → Prop
  | non : Dp K H .non .none
  | bl (b : Bool) : Dp K H (.bl b) (.bool b)
  | int (i : Int) : Dp K H (.int i) (.int i)
  | str (x : Str) : Dp K H (.str x) (.str x)
  | lst {a : Addr} {xs : List V} {ds : List PyData} : SqL K H a xs → DpAll K H xs ds → Dp K H (.ref a) (.list ds)
  | tup {a : Addr} {xs : List V} {ds : List PyData} : SqT K H a xs → DpAll K H xs ds → Dp K H (.ref a) (.tuple ds)
inductive DpAll (K : PySem.W.Frag) (H : Hp) : List V → List PyData → Prop
  | nil : DpAll K H [] []
  | cons {v : V} {vs : List V} {d : PyData} {ds : List PyData} : Dp K H v d → DpAll K H vs ds → DpAll K H (v :: vs) (d :: ds)
end
section
variable {X : Cx} {pins : List (Addr × Obj)} {σ : St} {H : Hp} {s : Shared}
mutual
theorem Dp.reads (I : Inv X pins σ H s) : ∀ (d : PyData) (v : V) (u : Value), Dp X.K H v d → RelV v u → ∃ as, Reads s.heap u d as
  | .none, _, _, h, r => by
    cases h
    cases r
    exact ⟨_, Reads.none⟩
  | .bool b, _, _, h, r => by
    cases h
    cases r
    exact ⟨_, Reads.bool b⟩
  | .int i, _, _, h, r => by
    cases h
    obtain ⟨t, rfl⟩ := r
    exact ⟨_, Reads.int i t⟩
  | .str x, _, _, h, r => by
    cases h
    obtain ⟨t, rfl⟩ := r
    exact ⟨_, Reads.str x t⟩
  | .list ds, _, _, h, r => by
    cases h with
    | lst hs ha =>
      cases r
      obtain ⟨its, rv, ⟨o, n, ho, hc, _, hd⟩, _⟩ := I.list hs
      obtain ⟨as, hr⟩ := Dp.readsAll I ds _ its ha rv
      exact ⟨_, Reads.list ho hc hd hr⟩
  | .tuple ds, _, _, h, r => by
    cases h with
    | tup hs ha =>
      cases r
      obtain ⟨its, rv, ⟨o, ho, hc, n, hd⟩, _⟩ := I.tuple hs
      obtain ⟨as, hr⟩ := Dp.readsAll I ds _ its ha rv
      exact ⟨_, Reads.tuple ho hc hd hr⟩
  | .dict _, _, _, h, _ => by cases h
theorem Dp.readsAll (I : Inv X pins σ H s) : ∀ (ds : List PyData) (vs : List V) (us : List Value), DpAll X.K H vs ds → Vals vs us → ∃ as, ReadsAll s.heap us ds as
  | [], _, _, h, r => by
    cases h
    cases r
    exact ⟨_, ReadsAll.nil⟩
  | d :: ds, _, _, h, r => by
    cases h with
    | cons h1 h2 =>
      cases r with
      | cons r1 r2 =>
        obtain ⟨as, q1⟩ := Dp.reads I d _ _ h1 r1
        obtain ⟨bs, q2⟩ := Dp.readsAll I ds _ _ h2 r2
        exact ⟨_, ReadsAll.cons q1 q2⟩
end
end
section
variable {X : Cx}
def rEqD (K : PySem.W.Frag) : R2 := fun x y H Q => ∃ d e, Dp K H x d ∧ Dp K H y e ∧ SeqAt.shaped d = true ∧ SeqAt.shaped e = true ∧ Q (.bl (PyData.eqv d e)) H
def rNeD (K : PySem.W.Frag) : R2 := fun x y H Q => ∃ d e, Dp K H x d ∧ Dp K H y e ∧ SeqAt.shaped d = true ∧ SeqAt.shaped e = true ∧ Q (.bl (!PyData.eqv d e)) H
theorem op_eqD (hu : X.A.units + 64 < cLine) : OpR X (compareOp .Eq) (rEqD X.K) := by
  intro pins s σ H x y v u Q I rx ry h
  obtain ⟨d, e, hd, he, sd, se, q⟩ := h
  obtain ⟨as, r1⟩ := Dp.reads I d x v hd rx
  obtain ⟨bs, r2⟩ := Dp.reads I e y u he ry
  exact SeqAt.compareEq_shaped r1 r2 sd se hu ⟨.bl _, H, I, rfl, q⟩
theorem op_neD (hu : X.A.units + 64 < cLine) : OpR X (compareOp .NotEq) (rNeD X.K) := by
  intro pins s σ H x y v u Q I rx ry h
  obtain ⟨d, e, hd, he, sd, se, q⟩ := h
  obtain ⟨as, r1⟩ := Dp.reads I d x v hd rx
  obtain ⟨bs, r2⟩ := Dp.reads I e y u he ry
  exact SeqAt.compareNe_shaped r1 r2 sd se hu ⟨.bl _, H, I, rfl, q⟩
end
end L2

namespace L2
open PySem PySem.Spec PyProof.Rows
abbrev CellAt (h : Heap) (c : Addr) (v : Option Value) : Prop := h.IsCell c v
def relS (scope sc : Scope) : Scope :=
  { scope with names := scope.names.map fun (n, k) => if (k == .free && sc.kind == .function && sc.names.lookup n == some .cell) then (n, .cell) else (n, k) }

def cloFrom (cells : List (Str × Addr)) : List (Str × NameKind) → List (Str × Addr) → List (Str × Addr)
  | [], acc => acc
  | (n, k) :: r, acc => if k == .free then cloFrom cells r ((n, (cells.lookup n).getD 0) :: acc) else cloFrom cells r acc

theorem closure_loop (env : Env) (f : Str × NameKind → List (Str × Addr) → Sem (ForInStep (List (Str × Addr))))
    (hf : ∀ n k c, f (n, k) c = if k == .free then (do let a ← cellOf env n; pure (.yield ((n, a) :: c))) else pure (.yield c)) :
    ∀ (names : List (Str × NameKind)) (acc : List (Str × Addr)), (∀ y ∈ names, y.2 = .free → ∃ c, env.cells.lookup y.1 = some c) → forIn names acc f = pure (cloFrom env.cells names acc)
  | [], acc, _ => by rw [List.forIn_nil]; rfl
  | (n, k) :: r, acc, h => by
    rw [List.forIn_cons, hf]
    have ih := fun acc => closure_loop env f hf r acc fun y hy => h y (List.mem_cons_of_mem _ hy)
    unfold cloFrom
    by_cases hk : (k == NameKind.free) = true
    · rw [if_pos hk, if_pos hk]
      obtain ⟨c, hc⟩ := h (n, k) List.mem_cons_self (by simpa using hk)
      have e : cellOf env n = pure c := by unfold cellOf; rw [hc]
      rw [e]
      have e2 : (env.cells.lookup n).getD 0 = c := by rw [hc]; rfl
      rw [e2]
      exact ih _
    · rw [if_neg hk, if_neg hk]
      exact ih _
theorem closure_ok {scope : Scope} {env : Env} (h : ∀ y ∈ scope.names, y.2 = .free → ∃ c, env.cells.lookup y.1 = some c) : closureFor scope env = pure (cloFrom env.cells scope.names []) := by
  simp only [closureFor]
  rw [closure_loop env _ (fun n k c => rfl) scope.names [] h]
  rfl

theorem mem_lookup {α : Type} : ∀ {l : List (Str × α)} {n : Str} {c : α}, (n, c) ∈ l → ∃ c', l.lookup n = some c'
  | (k, v) :: r, n, c, h => by
    rw [List.lookup_cons]
    cases hb : n == k with
    | true => exact ⟨_, rfl⟩
    | false =>
      rcases List.mem_cons.mp h with e | h
      · cases e; simp at hb
      · exact mem_lookup h

theorem cloFrom_mem {cells : List (Str × Addr)} : ∀ {names : List (Str × NameKind)} {acc : List (Str × Addr)} {n : Str} {c : Addr}, (n, c) ∈ cloFrom cells names acc → (n, c) ∈ acc ∨ ((n, .free) ∈ names ∧ c = (cells.lookup n).getD 0)
  | [], _, _, _, h => .inl h
  | (m, k) :: r, acc, n, c, h => by
    unfold cloFrom at h
    split at h
    · rename_i hk
      have hk : k = .free := by simpa using hk
      rcases cloFrom_mem h with h | ⟨h1, h2⟩
      · rcases List.mem_cons.mp h with e | h
        · cases e; exact .inr ⟨hk ▸ List.mem_cons_self, rfl⟩
        · exact .inl h
      · exact .inr ⟨List.mem_cons_of_mem _ h1, h2⟩
    · rcases cloFrom_mem h with h | ⟨h1, h2⟩
      · exact .inl h
      · exact .inr ⟨List.mem_cons_of_mem _ h1, h2⟩
theorem cloFrom_acc {cells : List (Str × Addr)} : ∀ {names : List (Str × NameKind)} {acc : List (Str × Addr)} {p : Str × Addr}, p ∈ acc → p ∈ cloFrom cells names acc
  | [], _, _, h => h
  | (m, k) :: r, acc, p, h => by
    unfold cloFrom
    split
    · exact cloFrom_acc (List.mem_cons_of_mem _ h)
    · exact cloFrom_acc h
theorem cloFrom_has {cells : List (Str × Addr)} : ∀ {names : List (Str × NameKind)} {acc : List (Str × Addr)} {n : Str}, (n, .free) ∈ names → (n, (cells.lookup n).getD 0) ∈ cloFrom cells names acc
  | (m, k) :: r, acc, n, h => by
    unfold cloFrom
    rcases List.mem_cons.mp h with e | h
    · cases e
      exact cloFrom_acc List.mem_cons_self
    · split
      · exact cloFrom_has h
      · exact cloFrom_has h

theorem cells_mem : ∀ {names : List (Str × NameKind)} {h : Heap} {acc : List (Str × Addr)} {x : Str} {c : Addr}, (x, c) ∈ cellsFrom h.objs.size names acc →
    (x, c) ∈ acc ∨ ((x, .cell) ∈ names ∧ h.objs.size ≤ c ∧ CellAt (pushCells h names) c none)
  | [], _, _, _, _, h => .inl h
  | (n, k) :: r, h, acc, x, c, hm => by
    unfold cellsFrom at hm
    unfold pushCells
    split at hm
    · rename_i hk
      rw [if_pos hk]
      have hk : k = .cell := by simpa using hk
      rw [← Heap.size_push h { cls := .type "cell", data := .cell none }] at hm
      rcases cells_mem hm with hm | ⟨h1, h2, h3⟩
      · rcases List.mem_cons.mp hm with e | hm
        · cases e
          exact .inr ⟨hk ▸ List.mem_cons_self, Nat.le_refl _, _, pushCells_keeps r _ _ _ (Heap.get?_push_size _ rfl), rfl⟩
        · exact .inl hm
      · rw [Heap.size_push] at h2
        exact .inr ⟨List.mem_cons_of_mem _ h1, Nat.le_of_succ_le h2, h3⟩
    · rename_i hk
      rw [if_neg hk]
      rcases cells_mem hm with hm | ⟨h1, h2, h3⟩
      · exact .inl hm
      · exact .inr ⟨List.mem_cons_of_mem _ h1, h2, h3⟩
theorem cells_acc : ∀ {names : List (Str × NameKind)} {n : Nat} {acc : List (Str × Addr)} {p : Str × Addr}, p ∈ acc → p ∈ cellsFrom n names acc
  | [], _, _, _, h => h
  | (m, k) :: r, n, acc, p, h => by
    unfold cellsFrom
    split
    · exact cells_acc (List.mem_cons_of_mem _ h)
    · exact cells_acc h
theorem cells_has : ∀ {names : List (Str × NameKind)} {n : Nat} {acc : List (Str × Addr)} {x : Str}, (x, .cell) ∈ names → ∃ c, (x, c) ∈ cellsFrom n names acc
  | (m, k) :: r, n, acc, x, h => by
    unfold cellsFrom
    rcases List.mem_cons.mp h with e | h
    · cases e
      exact ⟨n, cells_acc List.mem_cons_self⟩
    · split
      · exact cells_has h
      · exact cells_has h
theorem cells_inj : ∀ {names : List (Str × NameKind)} {h : Heap} {acc : List (Str × Addr)} {x y : Str} {c : Addr}, (∀ p ∈ acc, p.2 < h.objs.size) → (∀ x y c, (x, c) ∈ acc → (y, c) ∈ acc → x = y) →
    (x, c) ∈ cellsFrom h.objs.size names acc → (y, c) ∈ cellsFrom h.objs.size names acc → x = y
  | [], _, _, _, _, _, _, hi, h1, h2 => hi _ _ _ h1 h2
  | (n, k) :: r, h, acc, x, y, c, hl, hi, h1, h2 => by
    unfold cellsFrom at h1 h2
    split at h1
    · rename_i hk
      rw [if_pos hk] at h2
      rw [← Heap.size_push h { cls := .type "cell", data := .cell none }] at h1 h2
      refine cells_inj (h := h.push _) (fun p hp => ?_) (fun x y c a b => ?_) h1 h2
      · rw [Heap.size_push]
        rcases List.mem_cons.mp hp with rfl | hp
        · exact Nat.lt_succ_self _
        · exact Nat.lt_succ_of_lt (hl p hp)
      · rcases List.mem_cons.mp a with e | a <;> rcases List.mem_cons.mp b with e' | b
        · cases e; cases e'; rfl
        · cases e; exact absurd (hl _ b) (Nat.lt_irrefl _)
        · cases e'; exact absurd (hl _ a) (Nat.lt_irrefl _)
        · exact hi _ _ _ a b
    · rename_i hk
      rw [if_neg hk] at h2
      exact cells_inj hl hi h1 h2

theorem newEnv_comp {M : Model} {A : Around} {E : Value → Shared → Prop} {s : Shared} {scope : Scope} {globals : Addr} {closure : List (Str × Addr)} {qual : Str} {func : Option Addr} {code : Value} {around : Env} {builtins : Addr} {Q : Env → Shared → Prop}
    (h : Q (newEnv scope s.heap.objs.size globals (cellsFrom (s.heap.objs.size + 1) scope.names closure) qual func code (some around) builtins)
      { s with heap := pushCells (s.heap.push { cls := .type "dict", data := .dict #[] }) scope.names }) :
    wpAny M A (newFunctionEnv scope globals closure [] qual func code (some around) builtins) Q E s := by
  simp only [newFunctionEnv, Option.isSome_some, if_true]
  refine wpAny_bind (wpAny_alloc ?_)
  refine wpAny_bind (wpAny_layCells _ (fun n k c => rfl) scope.names closure _ _ ?_)
  rw [show ({ s with heap := s.heap.push { cls := .type "dict", data := .dict #[] } } : Shared).heap.objs.size = s.heap.objs.size + 1 from Heap.size_push ..]
  rw [List.forIn_nil]
  exact wpAny_bind (wpAny_pure (wpAny_pure h))

/-- every name of the written scope, in the scope that runs -/
theorem lookup_relS {sc : Scope} : ∀ {names : List (Str × NameKind)} {x : Str} {k : NameKind},
    (names.map fun (n, k) => if (k == NameKind.free && sc.kind == .function && sc.names.lookup n == some .cell) then (n, NameKind.cell) else (n, k)).lookup x = some k →
    ∃ k', names.lookup x = some k' ∧ (k = k' ∨ (k' = .free ∧ k = .cell))
  | [], _, _, h => by simp at h
  | (n, k₀) :: r, x, k, h => by
    have ih := @lookup_relS sc r x k
    have h' : List.lookup x ((if (k₀ == NameKind.free && sc.kind == .function && sc.names.lookup n == some .cell) = true then (n, NameKind.cell) else (n, k₀)) :: (r.map _)) = some k := h
    cases hx : x == n with
    | true =>
      simp only [List.lookup_cons, hx]
      by_cases hc : (k₀ == NameKind.free && sc.kind == .function && sc.names.lookup n == some .cell) = true
      · rw [if_pos hc] at h'
        simp only [List.lookup_cons, hx] at h'
        cases h'
        simp only [Bool.and_eq_true, beq_iff_eq] at hc
        exact ⟨k₀, rfl, .inr ⟨hc.1.1, rfl⟩⟩
      · rw [if_neg hc] at h'
        simp only [List.lookup_cons, hx] at h'
        cases h'
        exact ⟨_, rfl, .inl rfl⟩
    | false =>
      simp only [List.lookup_cons, hx]
      by_cases hc : (k₀ == NameKind.free && sc.kind == .function && sc.names.lookup n == some .cell) = true
      · rw [if_pos hc] at h'
        simp only [List.lookup_cons, hx] at h'
        exact ih h'
      · rw [if_neg hc] at h'
        simp only [List.lookup_cons, hx] at h'
        exact ih h'
theorem lookup_relS_keep {sc : Scope} : ∀ {names : List (Str × NameKind)} {x : Str} {k : NameKind}, k ≠ .free → names.lookup x = some k →
    (names.map fun (n, k) => if (k == NameKind.free && sc.kind == .function && sc.names.lookup n == some .cell) then (n, NameKind.cell) else (n, k)).lookup x = some k
  | [], _, _, _, h => by simp at h
  | (n, k₀) :: r, x, k, hk, h => by
    have ih := @lookup_relS_keep sc r x k hk
    show List.lookup x ((if (k₀ == NameKind.free && sc.kind == .function && sc.names.lookup n == some .cell) = true then (n, NameKind.cell) else (n, k₀)) :: (r.map _)) = some k
    cases hx : x == n with
    | true =>
      simp only [List.lookup_cons, hx] at h
      cases h
      have : ¬ (k₀ == NameKind.free && sc.kind == .function && sc.names.lookup n == some .cell) = true := by simp [hk]
      rw [if_neg this]
      simp only [List.lookup_cons, hx]
    | false =>
      simp only [List.lookup_cons, hx] at h
      by_cases hc : (k₀ == NameKind.free && sc.kind == .function && sc.names.lookup n == some .cell) = true
      · rw [if_pos hc]; simp only [List.lookup_cons, hx]; exact ih h
      · rw [if_neg hc]; simp only [List.lookup_cons, hx]; exact ih h

theorem pushCells_size : ∀ (names : List (Str × NameKind)) (h : Heap), h.objs.size ≤ (pushCells h names).objs.size
  | [], _ => Nat.le_refl _
  | (_, k) :: r, h => by
    unfold pushCells
    split
    · refine Nat.le_trans ?_ (pushCells_size r _)
      rw [Heap.size_push]; exact Nat.le_succ _
    · exact pushCells_size r h


/-- the names of a comprehension's block: its own (with their places in N), or captured -/
structure BlkOk (N : List Str) (sc scope : Scope) (own : List (Str × Nat)) : Prop where
  kind : scope.kind = .function
  uniq : ∀ y ∈ scope.names, scope.names.lookup y.1 = some y.2
  ix : ∀ p ∈ own, N[p.2]? = some p.1
  free : ∀ y ∈ scope.names, y.2 = .free → sc.names.lookup y.1 = some .cell ∨ sc.names.lookup y.1 = some .free
  own : ∀ y ∈ scope.names, y.2 = .local ∨ y.2 = .cell → y.1 ∈ own.map (·.1) ∨ y.1 ∉ N
/-- the slots of the block's own names forgotten -/
def wipe (σ : St) : List Nat → St
  | [] => σ
  | v :: vs => (wipe σ vs).set v none
theorem wipe_length (σ : St) : ∀ vs : List Nat, (wipe σ vs).length = σ.length
  | [] => rfl
  | v :: vs => by unfold wipe; rw [List.length_set, wipe_length σ vs]
theorem wipe_some {σ : St} {i : Nat} {x : V} : ∀ {vs : List Nat}, (wipe σ vs)[i]? = some (some x) → σ[i]? = some (some x) ∧ i ∉ vs
  | [], h => ⟨h, by simp⟩
  | v :: vs, h => by
    unfold wipe at h
    by_cases hi : v = i
    · subst hi
      by_cases hv : v < (wipe σ vs).length
      · rw [List.getElem?_set_self hv] at h; cases h
      · rw [List.getElem?_eq_none (by simpa using hv)] at h; cases h
    · rw [List.getElem?_set_ne hi] at h
      obtain ⟨h1, h2⟩ := wipe_some h
      exact ⟨h1, by simp only [List.mem_cons, not_or]; exact ⟨fun e => hi e.symm, h2⟩⟩

/-- the context of a block that starts at s, its iterator's objects at fp -/
abbrev Cx.blk (X : Cx) (s : Shared) (H : Hp) (scope : Scope) (cenv : Env) (fp : List Addr) : Cx := { X with s_0 := s, H_0 := H, env := cenv, outer := X.stack, ex := fp, fn := fun x => scope.names.lookup x == some .cell, pn := [], xe := fun _ _ => False }
section
variable {X : Cx} {pins : List (Addr × Obj)} {σ : St} {H : Hp} {s : Shared}
theorem block_start {scope : Scope} {own : List (Str × Nat)} {fp : List Addr} (I : Inv X pins σ H s) (ok : BlkOk X.N X.env.scope scope own) (hN : X.N.Nodup) (hfp : ∀ b ∈ fp, FpOk X pins H b ∧ b < s.heap.objs.size) :
    Inv (X.blk s H scope (compEnvC scope (cellsFrom (s.heap.objs.size + 1) scope.names (cloFrom X.env.cells scope.names [])) s.heap.objs.size X.env) fp) [] (wipe σ (own.map (·.2))) H { s with heap := pushCells (s.heap.push { cls := .type "dict", data := .dict #[] }) scope.names } := by
  have hfree : ∀ y ∈ scope.names, y.2 = .free → ∃ c, X.env.cells.lookup y.1 = some c := fun y hy e => by
    rcases ok.free y hy e with k | k
    · exact I.ok.has _ (.inl k)
    · exact I.ok.has _ (.inr k)
  generalize hcenv : compEnvC scope (cellsFrom (s.heap.objs.size + 1) scope.names (cloFrom X.env.cells scope.names [])) s.heap.objs.size X.env = cenv
  have kp : ∀ b o, s.heap.get? b = some o → (pushCells (s.heap.push { cls := .type "dict", data := .dict #[] }) scope.names).get? b = some o := fun b o e => pushCells_keeps _ _ _ _ (Heap.get?_push_of_some _ e)
  have hL : cenv.locals = s.heap.objs.size := by rw [← hcenv]; rfl
  have hcl : cenv.cells = cellsFrom (s.heap.objs.size + 1) scope.names (cloFrom X.env.cells scope.names []) := by rw [← hcenv]; rfl
  have hsc : cenv.scope = relS scope X.env.scope := by rw [← hcenv]; rfl
  rw [← Heap.size_push s.heap { cls := .type "dict", data := .dict #[] }] at hcl
  have cm : ∀ {y c}, (y, c) ∈ cloFrom X.env.cells scope.names [] → X.env.cells.lookup y = some c ∧ c < s.heap.objs.size := fun {y c} hm => by
    rcases cloFrom_mem hm with hm | ⟨h1, rfl⟩
    · cases hm
    · obtain ⟨c, hc⟩ := hfree _ h1 rfl
      rw [hc]
      obtain ⟨w, z⟩ := I.cell _ _ hc
      exact ⟨rfl, z.lt⟩
  have mem : ∀ {y c}, cenv.cells.lookup y = some c → (X.env.cells.lookup y = some c ∧ c < s.heap.objs.size) ∨ (s.heap.objs.size + 1 ≤ c ∧ CellAt (pushCells (s.heap.push { cls := .type "dict", data := .dict #[] }) scope.names) c none) := fun {y c} e => by
    rw [hcl] at e
    rcases cells_mem (PySem.mem_of_lookup e) with hm | ⟨_, h2, h3⟩
    · exact .inl (cm hm)
    · rw [Heap.size_push] at h2; exact .inr ⟨h2, h3⟩
  have look : ∀ {y}, scope.names.lookup y = some .free → ∃ c, cenv.cells.lookup y = some c ∧ X.env.cells.lookup y = some c := fun {y} hl => by
    have hy : (y, NameKind.free) ∈ scope.names := PySem.mem_of_lookup hl
    obtain ⟨c', e'⟩ := mem_lookup (cells_acc (names := scope.names) (n := (s.heap.push { cls := .type "dict", data := .dict #[] }).objs.size) (cloFrom_has (cells := X.env.cells) (acc := []) hy))
    rw [← hcl] at e'
    refine ⟨c', e', ?_⟩
    rw [hcl] at e'
    rcases cells_mem (PySem.mem_of_lookup e') with hm | ⟨h1, _, _⟩
    · exact (cm hm).1
    · have := ok.uniq _ h1
      rw [hl] at this; cases this
  have okB : (X.blk s H scope cenv fp).Ok := by
    refine ⟨I.ok.mod, by show cenv.scope.kind = _; rw [hsc]; exact ok.kind, by show cenv.globals = _; rw [← hcenv]; exact I.ok.glob, by show cenv.builtins = _; rw [← hcenv]; exact I.ok.blt, by show s.heap.objs.size ≤ cenv.locals; rw [hL]; exact Nat.le_refl _,
      fun y z c e1 e2 => ?_, fun y hy => ?_, fun y c z e => ?_, I.ok.hd, I.ok.frames, .inl rfl, fun b hb => ⟨?_, fun y c e z => ?_⟩, I.bs, Nat.le_trans I.ok.bsz I.sz, fun b o e hb => ?_, fun b hb z => ?_, I.stack, I.stkFree⟩
    · have e1 : cenv.cells.lookup y = some c := e1
      have e2 : cenv.cells.lookup z = some c := e2
      rw [hcl] at e1 e2
      refine cells_inj (fun p hp => ?_) (fun y z c a b => I.ok.inj y z c (cm a).1 (cm b).1) (PySem.mem_of_lookup e1) (PySem.mem_of_lookup e2)
      rw [Heap.size_push]
      exact Nat.lt_succ_of_lt (cm (y := p.1) (c := p.2) hp).2
    · show ∃ c, cenv.cells.lookup y = some c
      have key : ∀ k, cenv.kindOf y = some k → (k = .cell ∨ k = .free) → ∃ c, cenv.cells.lookup y = some c := fun k hk hk' => by
        unfold Env.kindOf at hk
        rw [hsc] at hk
        obtain ⟨k', e, r⟩ := lookup_relS hk
        have : k' = .cell ∨ k' = .free := by
          rcases r with rfl | ⟨rfl, _⟩
          · exact hk'
          · exact .inr rfl
        rcases this with rfl | rfl
        · obtain ⟨c, hm⟩ := cells_has (n := (s.heap.push { cls := .type "dict", data := .dict #[] }).objs.size) (acc := cloFrom X.env.cells scope.names []) (PySem.mem_of_lookup e)
          obtain ⟨c', e'⟩ := mem_lookup hm
          exact ⟨c', by rw [hcl]; exact e'⟩
        · obtain ⟨c, h1, _⟩ := look e
          exact ⟨c, h1⟩
      rcases hy with hy | hy
      · exact key _ hy (.inl rfl)
      · exact key _ hy (.inr rfl)
    · have z : (scope.names.lookup y == some NameKind.cell) = true := z
      have z : scope.names.lookup y = some .cell := by simpa using z
      have e : cenv.cells.lookup y = some c := e
      rw [hcl] at e
      rcases cells_mem (PySem.mem_of_lookup e) with hm | ⟨_, h2, _⟩
      · rcases cloFrom_mem hm with hm | ⟨h1, _⟩
        · cases hm
        · have q := ok.uniq _ h1
          rw [z] at q; cases q
      · rw [Heap.size_push] at h2
        exact Nat.le_of_succ_le h2
    · show b ≠ cenv.locals
      rw [hL]; exact Nat.ne_of_lt (hfp b hb).2
    · have e : cenv.cells.lookup y = some c := e
      rcases mem e with ⟨h1, _⟩ | ⟨h1, _⟩
      · exact (hfp b hb).1.2.2.2.2.1 y c h1 z
      · have h2 : s.heap.objs.size + 1 ≤ b := by rw [← z]; exact h1
        exact absurd (Nat.lt_of_lt_of_le (hfp b hb).2 (Nat.le_of_succ_le h2)) (Nat.lt_irrefl _)
    · rcases (hfp b hb).1.2.2.2.1 with z | z
      · exact I.ok.noex b o e z
      · exact absurd (Nat.lt_of_lt_of_le (Heap.lt_size e) (Nat.le_trans I.ok.bsz z)) (Nat.lt_irrefl _)
    · rcases List.mem_cons.mp (I.stkSub b z) with z | z
      · exact (hfp b hb).1.2.1 z
      · exact (hfp b hb).1.2.2.1 z
  refine ⟨okB, rfl, I.bare, Un.kept kp, ⟨fun _ => none, ?_, fun i y av e1 e2 e3 => ?_⟩, fun y c e => ?_, ?_, fun y c e => ?_, fun p hp => ?_, I.hok.kept kp, by rw [wipe_length]; exact I.len⟩
  · show Heap.Ns _ cenv.locals _
    rw [hL]
    exact Heap.Ns.keeps (Heap.Ns.new ..) fun b o e => pushCells_keeps _ _ _ _ e
  · obtain ⟨e2, hne⟩ := wipe_some e2
    have hfr : scope.names.lookup y = some .free ∧ (cenv.kindOf y = some .cell ∨ cenv.kindOf y = some .free) := by
      have key : ∀ k, cenv.scope.names.lookup y = some k → k = .local ∨ k = .cell ∨ k = .free → scope.names.lookup y = some .free ∧ (cenv.kindOf y = some .cell ∨ cenv.kindOf y = some .free) := fun k hk hk' => by
        have hk0 := hk
        rw [hsc] at hk
        obtain ⟨k', e, r⟩ := lookup_relS hk
        have no : ¬ (k' = .local ∨ k' = .cell) := fun hh => by
          rcases ok.own _ (PySem.mem_of_lookup e) hh with e' | e'
          · obtain ⟨p, hp, hpy⟩ := List.mem_map.mp e'
            have e3 := ok.ix p hp
            have : p.1 = y := hpy
            rw [this] at e3
            exact hne (List.mem_map.mpr ⟨p, hp, nodup_ix hN e3 e1⟩)
          · exact e' (List.mem_of_getElem? e1)
        rcases r with rfl | ⟨rfl, rfl⟩
        · rcases hk' with rfl | rfl | rfl
          · exact absurd (.inl rfl) no
          · exact absurd (.inr rfl) no
          · exact ⟨e, .inr hk0⟩
        · exact ⟨e, .inl hk0⟩
      have e3 : Vis cenv.scope y := e3
      rcases e3 with e3 | e3 | e3
      · exact key _ e3 (.inl rfl)
      · exact key _ e3 (.inr (.inl rfl))
      · exact key _ e3 (.inr (.inr rfl))
    obtain ⟨m, hn, hl⟩ := I.loc
    have hvis : Vis X.env.scope y := (ok.free _ (PySem.mem_of_lookup hfr.1) rfl).elim (fun k => .inr (.inl k)) (fun k => .inr (.inr k))
    obtain ⟨w, r, q⟩ := hl i y av e1 e2 hvis
    refine ⟨w, r, .inr ⟨hfr.2, ?_⟩⟩
    obtain ⟨c, h1, h2⟩ := look hfr.1
    rcases q with ⟨k, _⟩ | ⟨_, c', e', z⟩
    · have k : X.env.scope.names.lookup y = some .local := k
      rcases ok.free _ (PySem.mem_of_lookup hfr.1) rfl with k' | k' <;> rw [show X.env.scope.names.lookup y = _ from k'] at k <;> cases k
    · rw [h2] at e'; cases e'
      exact ⟨c, h1, z.keeps kp⟩
  · have e : cenv.cells.lookup y = some c := e
    rcases mem e with ⟨h1, _⟩ | ⟨_, z⟩
    · obtain ⟨w, z⟩ := I.cell y c h1
      exact ⟨w, z.keeps kp⟩
    · exact ⟨_, z⟩
  · show H cenv.locals = none
    rw [hL]; exact I.hok.fresh (Nat.le_refl _)
  · have e : cenv.cells.lookup y = some c := e
    rcases mem e with ⟨h1, _⟩ | ⟨h1, _⟩
    · exact I.freeC y c h1
    · exact I.hok.fresh (Nat.le_of_succ_le h1)
  · exact absurd (show p ∈ ([] : List (Addr × Obj)) ++ [] from hp) (by simp)

/-- an item appended to a tracked list -/
theorem app_ok {E : Value → Shared → Prop} {D : Addr} {xs : List V} {y : V} {v : Value} {Q : Value → Shared → Prop} (I : Inv X pins σ H s) (hD : H D = some (.lst xs)) (hz : xs.length < sizeLine) (r : RelV y v)
    (h : ∀ s', Inv X pins σ (upd H D (.lst (xs ++ [y]))) s' → Q .none s') : wpAny (model X.prog X.w) X.A (call (.builtin "list.append") [.ref D, v]) Q E s := by
  obtain ⟨hz', its, n, ri, e⟩ := I.hok D _ hD
  have hl := ri.length
  refine append_at (hsz := by rw [List.size_toArray]; omega) e fun h' sb ho' => ?_
  refine h { s with heap := h' } (I.write (t' := s.toks) (by rw [hD]; trivial) (.inl rfl) (fun b u hb q => (sb.2 b hb).trans q) ⟨_, ho'⟩ ⟨by rw [List.length_append]; exact hz, its ++ [v], n + 1, ri.append (.cons r .nil), ?_⟩)
  rw [ho']
  simp

/-- a clause's tests -/
def PTs (X : Cx) (ifs : List Expr) (t : TT) : Prop :=
  ∀ (pins : List (Addr × Obj)) (s : Shared) (σ : St) (H : Hp) (Q : Bool → Hp → Prop), Inv X pins σ H s → t σ H Q →
    wpAny (model X.prog X.w) X.A (forIn ifs true fun c r => if r = true then do let ok ← isTrue c X.env (eval c X.env); pure (ForInStep.yield ok) else pure (ForInStep.yield r)) (TP X pins σ Q) X.xe s
def tYes : TT := fun _ H Q => Q true H
theorem pts_nil : PTs X [] tYes := fun _ _ _ H _ I h => wpAny_tests_nil ⟨H, I, h⟩
theorem pts_one {c : Expr} {t : TT} (h : PT X c t) : PTs X [c] t := fun pins s σ H Q I hw => wpAny_tests_one (h pins s σ H Q I hw)
end

theorem thnF {α : Type} {t : Sem α} {Q Q' : α → Shared → Prop} {M : Model} {A : Around} {E : Value → Shared → Prop} {s : Shared} (h : wpAny M A t Q (fun _ _ => False) s) (hQ : ∀ a s, Q a s → Q' a s) : wpAny M A t Q' E s := wpAny_mono h hQ fun _ _ z => False.elim z

/-- the loop of a list comprehension's block, the target of any form (codeAny_compLoop_tests asks a target that no tuple goes to; statement and proof follow it, PyProof/CompMap.lean:41-61, with the step letOwnedTupleGo kept) -/
theorem compLoop_any {prog : Program} {w : World} {A : Around} {R : Result → Shared → Prop} {s : Shared} {elt target iter : Expr} {ifs : List Expr} {scope : Scope} {pos : Pos} {it acc : Value} {env : Env} (I : Nat → Shared → Prop)
    (turn : ∀ n s, I n s → wpAny (model prog w) A (pyNext it) (fun r s₁ => match r with
      | none => R (.ok .next) s₁
      | some v => wpAny (model prog w) A (letOwnedTupleGo target it v) (fun _ s₁' => wpAny (model prog w) A (assign target env v) (fun _ s₂ =>
          wpAny (model prog w) A (forIn ifs true fun c r => if r = true then do let ok ← isTrue c env (eval c env); pure (ForInStep.yield ok) else pure (ForInStep.yield r)) (fun ok s₃ =>
            if ok = true then wpAny (model prog w) A (eval elt env) (fun x s₄ =>
              wpAny (model prog w) A (call (.builtin "list.append") [acc, x]) (fun _ s₅ => ∃ m, m < n ∧ I m s₅) (notedBy (model prog w) A env fun e s' => R (.error e) s') s₄) (notedBy (model prog w) A env fun e s' => R (.error e) s') s₃
            else ∃ m, m < n ∧ I m s₃) (notedBy (model prog w) A env fun e s' => R (.error e) s') s₂) (notedBy (model prog w) A env fun e s' => R (.error e) s') s₁') (notedBy (model prog w) A env fun e s' => R (.error e) s') s₁) (notedBy (model prog w) A env fun e s' => R (.error e) s') s)
    (n : Nat) (h : I n s) :
    codeAny (model prog w) A (.compLoop (.ListComp elt [⟨target, iter, ifs, 0⟩] scope pos) 0 it acc env) R s := by
  refine codeAny_loop rfl I (fun n s hI => ?_) n h
  show wpAny _ A ((compTurn (.ListComp elt [⟨target, iter, ifs, 0⟩] scope pos) 0 it acc env).onRaise (fun x => do noteFrame x env; theTreesLotGoes x)) _ _ s
  refine wpAny_noted ?_
  rw [compTurn_list]
  refine wpAny_bind (wpAny_standAt (wpAny_bind (wpAny_mono (turn n s hI) (fun r s₁ h₁ => ?_) fun _ _ h' => h')))
  cases r with
  | none => exact wpAny_pure h₁
  | some v =>
    refine wpAny_bind (wpAny_mono h₁ (fun _ s₁' h₁' => ?_) fun _ _ h' => h')
    refine wpAny_bind (wpAny_mono h₁' (fun _ s₂ h₂ => wpAny_bind (wpAny_mono h₂ (fun ok s₃ h₃ => ?_) fun _ _ h' => h')) fun _ _ h' => h')
    cases ok with
    | false => exact wpAny_pure ⟨rfl, h₃⟩
    | true =>
      exact wpAny_bind (wpAny_bind (wpAny_mono h₃ (fun x s₄ h₄ => wpAny_bind (wpAny_mono h₄ (fun _ s₅ h₅ => wpAny_pure (wpAny_pure ⟨rfl, h₅⟩)) fun _ _ h' => h')) fun _ _ h' => h'))

section
variable {X : Cx}
/-- [elt for target in iter if ..]: D the new list; W by the turn and a measure, Nx what a turn is to reach -/
def tLc (wi : TI) (g : TG) (tt : TT) (te : TE) (vs : List Nat) : TE := fun σ H Q => wi σ H fun J H1 => ∀ D, H1 D = none → ∃ W : Nat → Nat → Hp → Prop, (∃ m, W 0 m (upd H1 D (.lst []))) ∧ ∀ i m H, W i m H →
  (J.stop i H ∧ Q (.ref D) H) ∨ (J.go i H ∧ ∃ Nx : Hp → Prop, (∀ H', Nx H' → ∃ m', m' < m ∧ W (i + 1) m' H') ∧ ∀ x H', J.yld i H x H' → g x (wipe σ vs) H' fun σ2 H2 => wipe σ2 vs = wipe σ vs ∧ tt σ2 H2 fun b H3 =>
    if b = true then te σ2 H3 fun y H4 => ∃ acc, H4 D = some (.lst acc) ∧ acc.length < sizeLine ∧ Nx (upd H4 D (.lst (acc ++ [y]))) else Nx H3)
theorem lc_core {pins : List (Addr × Obj)} {s : Shared} {σ : St} {H : Hp} {Q : VK} {elt tg iter : Expr} {ifs : List Expr} {scope : Scope} {own : List (Str × Nat)} {pos pos' : Pos} {wi : TI} {g : TG} {tt : TT} {te : TE} {use : Option (Value → Sem Unit)} {Qf : Value → Shared → Prop}
    (hc : X.calm = true) (hN : X.N.Nodup) (I : Inv X pins σ H s) (hi : PI X tg iter wi) (ok : BlkOk X.N X.env.scope scope own)
    (hg : ∀ (s : Shared) (H : Hp) (C : Addr) (cl : List (Str × Addr)) (fp : List Addr), PG (X.blk s H scope (compEnvC scope cl C X.env) fp) tg g) (ht : ∀ (s : Shared) (H : Hp) (C : Addr) (cl : List (Str × Addr)) (fp : List Addr), PTs (X.blk s H scope (compEnvC scope cl C X.env) fp) ifs tt)
    (he : ∀ (s : Shared) (H : Hp) (C : Addr) (cl : List (Str × Addr)) (fp : List Addr), PE (X.blk s H scope (compEnvC scope cl C X.env) fp) elt te) (hs : ∀ x, foldedSetIterable iter X.env x = pure x)
    (h : tLc wi g tt te (own.map (·.2)) σ H Q)
    (hRR : ∀ D C s' m H', Inv X pins σ H' s' → Q (.ref D) H' → s'.heap.Ns C m → FpOk X pins H' C → compPost (model X.prog X.w) X.A X.xe use Qf (.ref D) C (.ok .next) s') :
    wpAny (model X.prog X.w) X.A (comprehension (.ListComp elt [⟨tg, iter, ifs, 0⟩] scope pos) scope X.env pos' (newList []) false (eval iter X.env) use) Qf X.xe s := by
  have hfree : ∀ y ∈ scope.names, y.2 = .free → ∃ c, X.env.cells.lookup y.1 = some c := fun y hy e => by
    rcases ok.free y hy e with k | k
    · exact I.ok.has _ (.inl k)
    · exact I.ok.has _ (.inr k)
  refine wpAny_comprehension_free (use := use) rfl hs (closure_ok hfree) ok.kind (fun y hy e => by rw [ok.uniq y hy, e])
    (thn (hi pins s σ H _ I h) fun xv s1 hx => thn hx fun itv s2 h2 => ?_)
  obtain ⟨it, fp, tn, J, H2, e, I2, T, st2, f2, q⟩ := h2
  subst e
  refine wpAny_newObj_type (newEnv_comp ?_) (by show 0 ≤ sizeLine; decide)
  generalize hD : s2.heap.objs.size = D
  have hDn : H2 D = none := I2.hok.fresh (Nat.le_of_eq hD)
  obtain ⟨W, ⟨m0, w0⟩, turn⟩ := q D hDn
  -- the new list
  generalize hs3 : ({ s2 with heap := s2.heap.push { cls := .type "list", data := .seq ([] : List Value).toArray } } : Shared) = s3
  have I3 : Inv X pins σ (upd H2 D (.lst [])) s3 := by
    rw [← hs3]
    refine I2.laid (t' := s2.toks) (fun b o e => Heap.get?_push_of_some _ e) (Nat.le_of_eq hD) ⟨Nat.zero_le _, [], 0, .nil, ?_⟩
    rw [← hD]
    exact Heap.get?_push_size _ rfl
  have h3 : s3.heap = s2.heap.push { cls := .type "list", data := .seq ([] : List Value).toArray } := by rw [← hs3]
  have sz : ∀ b ∈ fp, b < s2.heap.objs.size := fun b hb => by
    obtain ⟨o, e, _⟩ := T.obj _ _ st2 b hb
    exact Heap.lt_size e
  have f3 : ∀ b ∈ fp, FpOk X pins (upd H2 D (.lst [])) b ∧ b < s3.heap.objs.size := fun b hb => by
    have hlt := sz b hb
    refine ⟨⟨?_, (f2 b hb).2⟩, by rw [h3, Heap.size_push]; exact Nat.lt_succ_of_lt hlt⟩
    rw [upd_ne (by rw [← hD]; exact Nat.ne_of_lt hlt)]
    exact (f2 b hb).1
  have st3 : tn 0 s3.heap := T.keep _ _ _ st2 fun b _ o e => by rw [h3]; exact Heap.get?_push_of_some _ e
  have I4 := block_start I3 ok hN f3
  have pg := hg s3 (upd H2 D (.lst [])) s3.heap.objs.size (cellsFrom (s3.heap.objs.size + 1) scope.names (cloFrom X.env.cells scope.names [])) fp
  have pt := ht s3 (upd H2 D (.lst [])) s3.heap.objs.size (cellsFrom (s3.heap.objs.size + 1) scope.names (cloFrom X.env.cells scope.names [])) fp
  have pe := he s3 (upd H2 D (.lst [])) s3.heap.objs.size (cellsFrom (s3.heap.objs.size + 1) scope.names (cloFrom X.env.cells scope.names [])) fp
  show codeAny _ _ (.compStart (.ListComp elt [⟨tg, iter, ifs, 0⟩] scope pos) 0 (.ref it) (.ref D) (compEnvC scope (cellsFrom (s3.heap.objs.size + 1) scope.names (cloFrom X.env.cells scope.names [])) s3.heap.objs.size X.env)) (compPost (model X.prog X.w) X.A X.xe use Qf (.ref D) s3.heap.objs.size) { s3 with heap := pushCells (s3.heap.push { cls := .type "dict", data := .dict #[] }) scope.names }
  have nfp : ∀ b ∈ fp, (upd H2 D (.lst [])) b = none := fun b hb => (f3 b hb).1.1
  generalize hce : compEnvC scope (cellsFrom (s3.heap.objs.size + 1) scope.names (cloFrom X.env.cells scope.names [])) s3.heap.objs.size X.env = ce at I4 pg pt pe ⊢
  have cL : ce.locals = s3.heap.objs.size := by subst hce; rfl
  generalize hH3 : upd H2 D (.lst []) = H3 at I3 I4 pg pt pe w0 nfp f3
  generalize hs4 : ({ s3 with heap := pushCells (s3.heap.push { cls := .type "dict", data := .dict #[] }) scope.names } : Shared) = s4 at I4 ⊢
  have st4 : tn 0 s4.heap := T.keep _ _ _ st3 fun b _ o e => by rw [← hs4]; exact pushCells_keeps _ _ _ _ (Heap.get?_push_of_some _ e)
  have stat : ∀ {σ' : St} {H' : Hp} {s' : Shared}, Inv (X.blk s3 H3 scope ce fp) [] σ' H' s' → (∀ b ∈ fp, H' b = none) → ∀ b ∈ fp, FpOk (X.blk s3 H3 scope ce fp) [] H' b := fun {σ' H' s'} I' hn b hb =>
    ⟨hn b hb, (I'.ok.exf b hb).1, I'.ok.exfs b hb, .inl hb, fun x c e => (I'.ok.exf b hb).2 x c e, fun p hp => absurd (show p ∈ ([] : List (Addr × Obj)) ++ [] from hp) (by simp)⟩
  have loop : codeAny (model X.prog X.w) X.A (.compLoop (.ListComp elt [⟨tg, iter, ifs, 0⟩] scope pos) 0 (.ref it) (.ref D) ce) (compPost (model X.prog X.w) X.A X.xe use Qf (.ref D) s3.heap.objs.size) s4 := by
    refine compLoop_any (fun n s' => ∃ i H', Inv (X.blk s3 H3 scope ce fp) [] (wipe σ (own.map (·.2))) H' s' ∧ tn i s'.heap ∧ (∀ b ∈ fp, H' b = none) ∧ W i n H') ?_ m0 ⟨0, H3, I4, st4, nfp, w0⟩
    rintro n s5 ⟨i, H5, I5, st5, n5, w5⟩
    rcases turn i n H5 w5 with ⟨stop, qq⟩ | ⟨go, Nx, hNx, step⟩
    · have td := T.done (X.blk s3 H3 scope ce fp) rfl rfl rfl hc i [] s5 _ H5 (fun _ _ => False) I5 (stat I5 n5) st5 stop
      refine thnF td fun r s6 ⟨hr, I6⟩ => ?_
      subst hr
      -- back in the def's context
      have I7 : Inv X pins σ H5 s6 := I3.call' (ch := fp) I6.os I6.base I6.hok I6.bare fun b hb => ⟨(f3 b hb).1.2.2.2.1, (f3 b hb).1.2.1, (f3 b hb).1.2.2.2.2.1, (f3 b hb).1.2.2.2.2.2⟩
      have nC : H5 s3.heap.objs.size = none := by
        have z : H5 ce.locals = none := I6.free
        rw [cL] at z
        exact z
      obtain ⟨m, hn, _⟩ := I6.loc
      have hn : s6.heap.Ns ce.locals m := hn
      rw [cL] at hn
      exact hRR D s3.heap.objs.size s6 m H5 I7 qq hn (I3.fpOk (Nat.le_refl _) nC)
    · have ti := T.item (X.blk s3 H3 scope ce fp) rfl rfl rfl hc i [] s5 _ H5 (fun _ _ => False) I5 (stat I5 n5) st5 go
      refine thnF ti fun r s6 ⟨u, hr, h6⟩ => ?_
      subst hr
      refine thnF h6 fun _ s7 ⟨x, H7, I7, r7, y7, st7, n7⟩ => ?_
      have I7' := I7.pinned (stat I7 n7) (T.obj _ _ st7)
      refine thnF (pg _ s7 _ H7 x u _ I7' r7 (step x H7 y7)) fun _ s8 ⟨σ8, H8, I8, hw8, q8⟩ => ?_
      refine thnF (pt _ s8 σ8 H8 _ I8 q8) fun b s9 ⟨H9, I9, q9⟩ => ?_
      -- the turn's end
      have fin : ∀ {s' : Shared} {H' : Hp}, Inv (X.blk s3 H3 scope ce fp) ([] ++ pinsAt fp s7.heap) σ8 H' s' → Nx H' → ∃ m, m < n ∧ ∃ i H', Inv (X.blk s3 H3 scope ce fp) [] (wipe σ (own.map (·.2))) H' s' ∧ tn i s'.heap ∧ (∀ b ∈ fp, H' b = none) ∧ W i m H' := fun {s' H'} I' nx => by
        obtain ⟨m', hm, w'⟩ := hNx H' nx
        have pin' : ∀ b ∈ fp, ∀ o, s7.heap.get? b = some o → s'.heap.get? b = some o ∧ H' b = none := fun b hb o e =>
          let z := I'.pin (b, o) (List.mem_append_right _ (List.mem_append_right _ (mem_pinsAt hb e)))
          ⟨z.1, z.2.1⟩
        have hl : (wipe σ (own.map (·.2))).length = σ8.length := by rw [← hw8, wipe_length]
        refine ⟨m', hm, i + 1, H', (I'.unpinned (pins := [])).weak hl (fun j v e => ?_), T.keep _ _ _ st7 fun b hb o e => (pin' b hb o e).1, fun b hb => ?_, w'⟩
        · rw [← hw8] at e
          exact (wipe_some e).1
        · obtain ⟨o, e, _⟩ := T.obj _ _ st7 b hb
          exact (pin' b hb o e).2
      cases b with
      | false =>
        simp only [Bool.false_eq_true, if_false] at q9 ⊢
        exact fin I9 q9
      | true =>
        simp only [if_true] at q9 ⊢
        refine thnF (pe _ s9 σ8 H9 _ I9 q9) fun z s10 ⟨yv, H10, I10, r10, acc, hD10, hz10, nx⟩ => ?_
        exact app_ok (X := X.blk s3 H3 scope ce fp) I10 hD10 hz10 r10 fun s11 I11 => fin I11 nx
  exact codeAny_compStart_list loop (T.self X.A 0 _ _ _ st4 loop)
/-- as a value -/
theorem pe_lc {elt tg iter : Expr} {ifs : List Expr} {scope : Scope} {own : List (Str × Nat)} {pos : Pos} {wi : TI} {g : TG} {tt : TT} {te : TE} (hc : X.calm = true) (hN : X.N.Nodup) (hi : PI X tg iter wi) (ok : BlkOk X.N X.env.scope scope own)
    (hg : ∀ (s : Shared) (H : Hp) (C : Addr) (cl : List (Str × Addr)) (fp : List Addr), PG (X.blk s H scope (compEnvC scope cl C X.env) fp) tg g) (ht : ∀ (s : Shared) (H : Hp) (C : Addr) (cl : List (Str × Addr)) (fp : List Addr), PTs (X.blk s H scope (compEnvC scope cl C X.env) fp) ifs tt)
    (he : ∀ (s : Shared) (H : Hp) (C : Addr) (cl : List (Str × Addr)) (fp : List Addr), PE (X.blk s H scope (compEnvC scope cl C X.env) fp) elt te) (hs : ∀ x, foldedSetIterable iter X.env x = pure x := by intro _; rfl) :
    PE X (.ListComp elt [⟨tg, iter, ifs, 0⟩] scope pos) (tLc wi g tt te (own.map (·.2))) := by
  intro pins s σ H Q I h
  rw [eval_ListComp]
  refine lc_core hc hN I hi ok hg ht he hs h fun D C s' m H' I' q hn f => ⟨m, hn, fun h'' sb => ?_⟩
  obtain ⟨f0, f1, f2, f3, f4, f5⟩ := f
  exact ⟨.ref D, H', I'.turned (t' := s'.toks) (fun b o hb e => (sb.2 b hb).trans e) f0 f1 f3 f4 f5, rfl, q⟩
/-- name = [..] on one line, the name a local -/
theorem ps_setLc {i : Nat} {y : Str} {py : Pos} {elt tg iter : Expr} {ifs : List Expr} {scope : Scope} {own : List (Str × Nat)} {pos spos : Pos} {wi : TI} {g : TG} {tt : TT} {te : TE} (hc : X.calm = true) (hN : X.N.Nodup) (hy : X.N[i]? = some y) (hyl : X.env.scope.names.lookup y = some .local)
    (hsw : swapsWith (.ListComp elt [⟨tg, iter, ifs, 0⟩] scope pos) (some (.Name y py)) spos.line X.env = pure true) (hi : PI X tg iter wi) (ok : BlkOk X.N X.env.scope scope own)
    (hg : ∀ (s : Shared) (H : Hp) (C : Addr) (cl : List (Str × Addr)) (fp : List Addr), PG (X.blk s H scope (compEnvC scope cl C X.env) fp) tg g) (ht : ∀ (s : Shared) (H : Hp) (C : Addr) (cl : List (Str × Addr)) (fp : List Addr), PTs (X.blk s H scope (compEnvC scope cl C X.env) fp) ifs tt)
    (he : ∀ (s : Shared) (H : Hp) (C : Addr) (cl : List (Str × Addr)) (fp : List Addr), PE (X.blk s H scope (compEnvC scope cl C X.env) fp) elt te) (hs : ∀ x, foldedSetIterable iter X.env x = pure x := by intro _; rfl) :
    PS X (.Assign [.Name y py] (.ListComp elt [⟨tg, iter, ifs, 0⟩] scope pos) spos) (tAsg (tLc wi g tt te (own.map (·.2))) (gName i)) := by
  intro pins s σ H D I h
  rw [exec_Assign_Name_used _ _ _ _ hsw]
  refine wpAny_bind (wpAny_standAt (wpAny_bind ?_))
  show wpAny _ X.A (do let _ ← comprehension (.ListComp elt [⟨tg, iter, ifs, 0⟩] scope pos) scope X.env (firstIterPos [⟨tg, iter, ifs, 0⟩] pos) (newList []) false (eval iter X.env) (some (assign (.Name y py) X.env))) _ _ s
  have h : tLc wi g tt te (own.map (·.2)) σ H (fun x H1 => gName i x σ H1 D.nx) := h
  refine wpAny_bind (thn (lc_core (Qf := fun _ s' => SP X pins D .next s') hc hN I hi ok hg ht he hs h fun L C s' m H' I' q hn f => ?_) fun _ s' hq => wpAny_pure (wpAny_pure hq))
  show wpAny _ _ (assign (.Name y py) X.env (.ref L)) _ _ _
  refine wpAny_assign_Name (store_ok2 (v := V.ref L) I' hN hy (.inl hyl) rfl (fun s2 I2 ⟨a, sb, ha⟩ => ?_) (.inr hyl))
  obtain ⟨f0, f1, f2, f3, f4, f5⟩ := f
  have haC : C ≠ a := by
    rcases ha with z | z
    · rw [z]; exact f1
    · exact fun e => f4 y a z e.symm
  refine ⟨m, hn.sameBut sb haC, fun h3 sb3 => ?_⟩
  exact ⟨_, H', I2.turned (t' := s2.toks) (fun b o hb e => (sb3.2 b hb).trans e) f0 f1 f3 f4 f5, q⟩
theorem sw_true {elt : Expr} {gs : List Comprehension} {scope : Scope} {pos py : Pos} {y : Str} {l : Nat} {env : Env} (hk : env.scope.kind = .function) (hy : env.scope.names.lookup y = some .local) (hl : (py.line == pos.line) = true)
    (ha : (scope.names.any fun (n, k) => n == y && (k == .local || k == .cell)) = false) : swapsWith (.ListComp elt gs scope pos) (some (.Name y py)) l env = pure true := by
  have ky : env.kindOf y = some .local := hy
  have hb : env.blockKind = .function := by unfold Env.blockKind; rw [hk]; rfl
  unfold swapsWith
  simp only [hb, ky, ha, Expr.pos, hl]
  rfl
end

/-! ### the forms one uses -/
/-- over a range: Pv by the turn and the heap (the new list at D within) -/
theorem lc_range {lo : Int} {n : Nat} {g : TG} {tt : TT} {te : TE} {vs : List Nat} {σ : St} {H1 : Hp} {D : Addr} {Qd : Hp → Prop} (Pv : Nat → Hp → Prop) (h0 : Pv 0 (upd H1 D (.lst [])))
    (hs : ∀ i H, i < n → Pv i H → g (.int (lo + i)) (wipe σ vs) H fun σ2 H2 => wipe σ2 vs = wipe σ vs ∧ tt σ2 H2 fun b H3 =>
      if b = true then te σ2 H3 fun y H4 => ∃ acc, H4 D = some (.lst acc) ∧ acc.length < sizeLine ∧ Pv (i + 1) (upd H4 D (.lst (acc ++ [y]))) else Pv (i + 1) H3) (hd : ∀ H, Pv n H → Qd H) :
    ∃ W : Nat → Nat → Hp → Prop, (∃ m, W 0 m (upd H1 D (.lst []))) ∧ ∀ i m H, W i m H →
      ((Itr lo n).stop i H ∧ Qd H) ∨ ((Itr lo n).go i H ∧ ∃ Nx : Hp → Prop, (∀ H', Nx H' → ∃ m', m' < m ∧ W (i + 1) m' H') ∧ ∀ x H', (Itr lo n).yld i H x H' → g x (wipe σ vs) H' fun σ2 H2 => wipe σ2 vs = wipe σ vs ∧ tt σ2 H2 fun b H3 =>
        if b = true then te σ2 H3 fun y H4 => ∃ acc, H4 D = some (.lst acc) ∧ acc.length < sizeLine ∧ Nx (upd H4 D (.lst (acc ++ [y]))) else Nx H3) := by
  refine ⟨fun i m H => m = n - i ∧ i ≤ n ∧ Pv i H, ⟨n, by simp, Nat.zero_le _, h0⟩, ?_⟩
  rintro i m H ⟨rfl, hi, p⟩
  by_cases hlt : i < n
  · refine .inr ⟨hlt, Pv (i + 1), fun H' p' => ⟨n - (i + 1), by omega, rfl, hlt, p'⟩, fun x H' y => ?_⟩
    obtain ⟨e, y⟩ := y
    subst e y
    exact hs i _ hlt p
  · have e : i = n := by omega
    subst e
    exact .inl ⟨Nat.le_refl _, hd H p⟩
/-- over a list that the block leaves as it is -/
theorem lc_list {K : PySem.W.Frag} {a : Addr} {xs : List V} {g : TG} {tt : TT} {te : TE} {vs : List Nat} {σ : St} {H1 : Hp} {D : Addr} {Qd : Hp → Prop} (Pv : Nat → Hp → Prop) (h0 : Pv 0 (upd H1 D (.lst []))) (hl : ∀ i H, i ≤ xs.length → Pv i H → SqL K H a xs)
    (hs : ∀ i x H, xs[i]? = some x → Pv i H → g x (wipe σ vs) H fun σ2 H2 => wipe σ2 vs = wipe σ vs ∧ tt σ2 H2 fun b H3 =>
      if b = true then te σ2 H3 fun y H4 => ∃ acc, H4 D = some (.lst acc) ∧ acc.length < sizeLine ∧ Pv (i + 1) (upd H4 D (.lst (acc ++ [y]))) else Pv (i + 1) H3) (hd : ∀ H, Pv xs.length H → Qd H) :
    ∃ W : Nat → Nat → Hp → Prop, (∃ m, W 0 m (upd H1 D (.lst []))) ∧ ∀ i m H, W i m H →
      ((Itl K a).stop i H ∧ Qd H) ∨ ((Itl K a).go i H ∧ ∃ Nx : Hp → Prop, (∀ H', Nx H' → ∃ m', m' < m ∧ W (i + 1) m' H') ∧ ∀ x H', (Itl K a).yld i H x H' → g x (wipe σ vs) H' fun σ2 H2 => wipe σ2 vs = wipe σ vs ∧ tt σ2 H2 fun b H3 =>
        if b = true then te σ2 H3 fun y H4 => ∃ acc, H4 D = some (.lst acc) ∧ acc.length < sizeLine ∧ Nx (upd H4 D (.lst (acc ++ [y]))) else Nx H3) := by
  refine ⟨fun i m H => m = xs.length - i ∧ i ≤ xs.length ∧ Pv i H, ⟨xs.length, by simp, Nat.zero_le _, h0⟩, ?_⟩
  rintro i m H ⟨rfl, hi, p⟩
  have q := hl i H hi p
  by_cases hlt : i < xs.length
  · refine .inr ⟨⟨xs, xs[i], q, by simp [hlt]⟩, Pv (i + 1), fun H' p' => ⟨xs.length - (i + 1), by omega, rfl, hlt, p'⟩, fun x H' y => ?_⟩
    obtain ⟨e, y⟩ := y
    subst e
    exact hs i x _ (y xs q) p
  · have e : i = xs.length := by omega
    subst e
    exact .inl ⟨⟨xs, q, Nat.le_refl _⟩, hd H p⟩
/-- over a tuple -/
theorem lc_tup {K : PySem.W.Frag} {a : Addr} {xs : List V} {g : TG} {tt : TT} {te : TE} {vs : List Nat} {σ : St} {H1 : Hp} {D : Addr} {Qd : Hp → Prop} (Pv : Nat → Hp → Prop) (h0 : Pv 0 (upd H1 D (.lst []))) (hl : ∀ i H, i ≤ xs.length → Pv i H → SqT K H a xs)
    (hs : ∀ i x H, xs[i]? = some x → Pv i H → g x (wipe σ vs) H fun σ2 H2 => wipe σ2 vs = wipe σ vs ∧ tt σ2 H2 fun b H3 =>
      if b = true then te σ2 H3 fun y H4 => ∃ acc, H4 D = some (.lst acc) ∧ acc.length < sizeLine ∧ Pv (i + 1) (upd H4 D (.lst (acc ++ [y]))) else Pv (i + 1) H3) (hd : ∀ H, Pv xs.length H → Qd H) :
    ∃ W : Nat → Nat → Hp → Prop, (∃ m, W 0 m (upd H1 D (.lst []))) ∧ ∀ i m H, W i m H →
      ((Itt K a).stop i H ∧ Qd H) ∨ ((Itt K a).go i H ∧ ∃ Nx : Hp → Prop, (∀ H', Nx H' → ∃ m', m' < m ∧ W (i + 1) m' H') ∧ ∀ x H', (Itt K a).yld i H x H' → g x (wipe σ vs) H' fun σ2 H2 => wipe σ2 vs = wipe σ vs ∧ tt σ2 H2 fun b H3 =>
        if b = true then te σ2 H3 fun y H4 => ∃ acc, H4 D = some (.lst acc) ∧ acc.length < sizeLine ∧ Nx (upd H4 D (.lst (acc ++ [y]))) else Nx H3) := by
  refine ⟨fun i m H => m = xs.length - i ∧ i ≤ xs.length ∧ Pv i H, ⟨xs.length, by simp, Nat.zero_le _, h0⟩, ?_⟩
  rintro i m H ⟨rfl, hi, p⟩
  have q := hl i H hi p
  by_cases hlt : i < xs.length
  · refine .inr ⟨⟨xs, xs[i], q, by simp [hlt]⟩, Pv (i + 1), fun H' p' => ⟨xs.length - (i + 1), by omega, rfl, hlt, p'⟩, fun x H' y => ?_⟩
    obtain ⟨e, y⟩ := y
    subst e
    exact hs i x _ (y xs q) p
  · have e : i = xs.length := by omega
    subst e
    exact .inl ⟨⟨xs, q, Nat.le_refl _⟩, hd H p⟩
def blkC (N : List Str) (sc scope : Scope) (own : List (Str × Nat)) : Bool :=
  (match scope.kind with | .function => true | _ => false) && (scope.names.all fun y => decide (scope.names.lookup y.1 = some y.2)) && (own.all fun p => decide (N[p.2]? = some p.1)) &&
    (scope.names.all fun y => match y.2 with
      | .free => (match sc.names.lookup y.1 with | some .cell => true | some .free => true | _ => false)
      | .local => decide (y.1 ∈ own.map (·.1)) || decide (y.1 ∉ N)
      | .cell => decide (y.1 ∈ own.map (·.1)) || decide (y.1 ∉ N)
      | _ => true)
theorem blkOk_by {N : List Str} {sc scope : Scope} {own : List (Str × Nat)} (h : blkC N sc scope own = true) : BlkOk N sc scope own := by
  unfold blkC at h
  simp only [Bool.and_eq_true, List.all_eq_true, decide_eq_true_eq] at h
  obtain ⟨⟨⟨h1, h2⟩, h3⟩, h4⟩ := h
  refine ⟨?_, h2, h3, fun y hy e => ?_, fun y hy e => ?_⟩
  · split at h1
    · assumption
    · cases h1
  · have q := h4 y hy
    simp only [e] at q
    split at q <;> first | exact .inl (by assumption) | exact .inr (by assumption) | cases q
  · have q := h4 y hy
    rcases e with e | e <;> (simp only [e, Bool.or_eq_true, decide_eq_true_eq] at q; exact q)
end L2

namespace L2
open PySem PySem.Spec PyProof.Rows

theorem compTurn2_out (elt t0 i0 t1 i1 : Expr) (ifs0 ifs1 : List Expr) (scope : Scope) (pos : Pos) (it acc : Value) (env : Env) :
    compTurn (.ListComp elt [⟨t0, i0, ifs0, 0⟩, ⟨t1, i1, ifs1, 0⟩] scope pos) 0 it acc env = (do
      standAt i0.pos
      match ← pyNext it with
      | none => pure (.done .next)
      | some v =>
        letOwnedTupleGo t0 it v
        assign t0 env v
        let mut ok := true
        for c in ifs0 do
          if ok then ok ← isTrue c env (eval c env)
        if ok then
          let x ← eval i1 env
          standAt i1.pos
          let x ← foldedSetIterable i1 env x
          let _ ← runOwn (.compStart (.ListComp elt [⟨t0, i0, ifs0, 0⟩, ⟨t1, i1, ifs1, 0⟩] scope pos) 1 (← holding [x] (pyIter x)) acc env) env
        again (.compLoop (.ListComp elt [⟨t0, i0, ifs0, 0⟩, ⟨t1, i1, ifs1, 0⟩] scope pos) 0 it acc env)) := by rfl
theorem compTurn2_in (elt t0 i0 t1 i1 : Expr) (ifs0 ifs1 : List Expr) (scope : Scope) (pos : Pos) (it acc : Value) (env : Env) :
    compTurn (.ListComp elt [⟨t0, i0, ifs0, 0⟩, ⟨t1, i1, ifs1, 0⟩] scope pos) 1 it acc env = (do
      standAt i1.pos
      match ← pyNext it with
      | none => pure (.done .next)
      | some v =>
        letOwnedTupleGo t1 it v
        assign t1 env v
        let mut ok := true
        for c in ifs1 do
          if ok then ok ← isTrue c env (eval c env)
        if ok then
          (do let _ ← call (.builtin "list.append") [acc, ← eval elt env])
        again (.compLoop (.ListComp elt [⟨t0, i0, ifs0, 0⟩, ⟨t1, i1, ifs1, 0⟩] scope pos) 1 it acc env)) := by rfl

section
variable {prog : Program} {w : World} {A : Around} {R : Result → Shared → Prop} {s : Shared} {elt t0 i0 t1 i1 : Expr} {ifs0 ifs1 : List Expr} {scope : Scope} {pos : Pos} {it acc : Value} {env : Env}
/-- the loop of the first clause -/
theorem compLoop2_out (hs : ∀ x, foldedSetIterable i1 env x = pure x) (I : Nat → Shared → Prop)
    (turn : ∀ n s, I n s → wpAny (model prog w) A (pyNext it) (fun r s₁ => match r with
      | none => R (.ok .next) s₁
      | some v => wpAny (model prog w) A (letOwnedTupleGo t0 it v) (fun _ s₁' => wpAny (model prog w) A (assign t0 env v) (fun _ s₂ =>
          wpAny (model prog w) A (forIn ifs0 true fun c r => if r = true then do let ok ← isTrue c env (eval c env); pure (ForInStep.yield ok) else pure (ForInStep.yield r)) (fun ok s₃ =>
            if ok = true then wpAny (model prog w) A (eval i1 env) (fun x s₄ => wpAny (model prog w) A (pyIter x) (fun it1 s₅ =>
              codeAny (model prog w) A (.compStart (.ListComp elt [⟨t0, i0, ifs0, 0⟩, ⟨t1, i1, ifs1, 0⟩] scope pos) 1 it1 acc env) (fun r s' => match r with
                | .ok _ => ∃ m, m < n ∧ I m s'
                | .error _ => False) s₅) (notedBy (model prog w) A env fun e s' => R (.error e) s') s₄) (notedBy (model prog w) A env fun e s' => R (.error e) s') s₃
            else ∃ m, m < n ∧ I m s₃) (notedBy (model prog w) A env fun e s' => R (.error e) s') s₂) (notedBy (model prog w) A env fun e s' => R (.error e) s') s₁') (notedBy (model prog w) A env fun e s' => R (.error e) s') s₁) (notedBy (model prog w) A env fun e s' => R (.error e) s') s)
    (n : Nat) (h : I n s) :
    codeAny (model prog w) A (.compLoop (.ListComp elt [⟨t0, i0, ifs0, 0⟩, ⟨t1, i1, ifs1, 0⟩] scope pos) 0 it acc env) R s := by
  refine codeAny_loop rfl I (fun n s hI => ?_) n h
  show wpAny _ A ((compTurn (.ListComp elt [⟨t0, i0, ifs0, 0⟩, ⟨t1, i1, ifs1, 0⟩] scope pos) 0 it acc env).onRaise (fun x => do noteFrame x env; theTreesLotGoes x)) _ _ s
  refine wpAny_noted ?_
  rw [compTurn2_out]
  refine wpAny_bind (wpAny_standAt (wpAny_bind (wpAny_mono (turn n s hI) (fun r s₁ h₁ => ?_) fun _ _ h' => h')))
  cases r with
  | none => exact wpAny_pure h₁
  | some v =>
    refine wpAny_bind (wpAny_mono h₁ (fun _ s₁' h₁' => ?_) fun _ _ h' => h')
    refine wpAny_bind (wpAny_mono h₁' (fun _ s₂ h₂ => wpAny_bind (wpAny_mono h₂ (fun ok s₃ h₃ => ?_) fun _ _ h' => h')) fun _ _ h' => h')
    cases ok with
    | false => exact wpAny_pure ⟨rfl, h₃⟩
    | true =>
      refine wpAny_bind (wpAny_mono h₃ (fun x s₄ h₄ => ?_) fun _ _ h' => h')
      refine wpAny_bind (wpAny_standAt (wpAny_bind (wpAny_of_eq (hs x) (wpAny_bind (wpAny_holding (wpAny_mono h₄ (fun it1 s₅ h₅ => ?_) fun _ _ h' => h'))))))
      refine wpAny_bind (wpAny_runOwn ?_)
      rw [Around.mark_none]
      refine codeAny_mono h₅ fun r s' hr => ?_
      cases r with
      | ok f =>
        first
          | exact wpAny_pure ⟨rfl, hr⟩
          | exact wpAny_bind (wpAny_pure (wpAny_pure ⟨rfl, hr⟩))
      | error e => exact hr.elim
/-- the loop of the second -/
theorem compLoop2_in (I : Nat → Shared → Prop)
    (turn : ∀ n s, I n s → wpAny (model prog w) A (pyNext it) (fun r s₁ => match r with
      | none => R (.ok .next) s₁
      | some v => wpAny (model prog w) A (letOwnedTupleGo t1 it v) (fun _ s₁' => wpAny (model prog w) A (assign t1 env v) (fun _ s₂ =>
          wpAny (model prog w) A (forIn ifs1 true fun c r => if r = true then do let ok ← isTrue c env (eval c env); pure (ForInStep.yield ok) else pure (ForInStep.yield r)) (fun ok s₃ =>
            if ok = true then wpAny (model prog w) A (eval elt env) (fun x s₄ =>
              wpAny (model prog w) A (call (.builtin "list.append") [acc, x]) (fun _ s₅ => ∃ m, m < n ∧ I m s₅) (notedBy (model prog w) A env fun e s' => R (.error e) s') s₄) (notedBy (model prog w) A env fun e s' => R (.error e) s') s₃
            else ∃ m, m < n ∧ I m s₃) (notedBy (model prog w) A env fun e s' => R (.error e) s') s₂) (notedBy (model prog w) A env fun e s' => R (.error e) s') s₁') (notedBy (model prog w) A env fun e s' => R (.error e) s') s₁) (notedBy (model prog w) A env fun e s' => R (.error e) s') s)
    (n : Nat) (h : I n s) :
    codeAny (model prog w) A (.compLoop (.ListComp elt [⟨t0, i0, ifs0, 0⟩, ⟨t1, i1, ifs1, 0⟩] scope pos) 1 it acc env) R s := by
  refine codeAny_loop rfl I (fun n s hI => ?_) n h
  show wpAny _ A ((compTurn (.ListComp elt [⟨t0, i0, ifs0, 0⟩, ⟨t1, i1, ifs1, 0⟩] scope pos) 1 it acc env).onRaise (fun x => do noteFrame x env; theTreesLotGoes x)) _ _ s
  refine wpAny_noted ?_
  rw [compTurn2_in]
  refine wpAny_bind (wpAny_standAt (wpAny_bind (wpAny_mono (turn n s hI) (fun r s₁ h₁ => ?_) fun _ _ h' => h')))
  cases r with
  | none => exact wpAny_pure h₁
  | some v =>
    refine wpAny_bind (wpAny_mono h₁ (fun _ s₁' h₁' => ?_) fun _ _ h' => h')
    refine wpAny_bind (wpAny_mono h₁' (fun _ s₂ h₂ => wpAny_bind (wpAny_mono h₂ (fun ok s₃ h₃ => ?_) fun _ _ h' => h')) fun _ _ h' => h')
    cases ok with
    | false => exact wpAny_pure ⟨rfl, h₃⟩
    | true =>
      exact wpAny_bind (wpAny_bind (wpAny_mono h₃ (fun x s₄ h₄ => wpAny_bind (wpAny_mono h₄ (fun _ s₅ h₅ => wpAny_pure (wpAny_pure ⟨rfl, h₅⟩)) fun _ _ h' => h')) fun _ _ h' => h'))
/-- the second clause's start -/
theorem compStart1_ok (h0 : codeAny (model prog w) A (.compLoop (.ListComp elt [⟨t0, i0, ifs0, 0⟩, ⟨t1, i1, ifs1, 0⟩] scope pos) 1 it acc env) R s)
    (h : wpAny (model prog w) A (pyIter it) (fun it' s' => codeAny (model prog w) A (.compLoop (.ListComp elt [⟨t0, i0, ifs0, 0⟩, ⟨t1, i1, ifs1, 0⟩] scope pos) 1 it' acc env) R s')
      (notedBy (model prog w) A env fun x s' => R (.error x) s') s) :
    codeAny (model prog w) A (.compStart (.ListComp elt [⟨t0, i0, ifs0, 0⟩, ⟨t1, i1, ifs1, 0⟩] scope pos) 1 it acc env) R s := by
  refine codeAny_of_tree ?_
  show wpAny _ _ ((compStart (.ListComp elt [⟨t0, i0, ifs0, 0⟩, ⟨t1, i1, ifs1, 0⟩] scope pos) 1 it acc env).onRaise (fun x => do noteFrame x env; standAt theWindowsPlace)) _ _ s
  refine wpAny_notedAt ?_
  unfold compStart
  show wpAny _ _ (ask >>= _) _ _ s
  refine wpAny_bind (wpAny_askSetting (wpAny_ite ?_))
  split
  · first
      | exact wpAny_bind (wpAny_pure (wpAny_pure (And.intro rfl h0)))
      | exact wpAny_pure (And.intro rfl h0)
  · first
      | exact wpAny_bind (wpAny_rule (wpAny_bind (wpAny_standAt (wpAny_bind (wpAny_mono h (fun it' s' h' => wpAny_pure (And.intro rfl h')) fun _ _ x => x)))))
      | (refine wpAny_bind (wpAny_rule ?_); show wpAny _ _ (standAt i1.pos >>= _) _ _ s; exact wpAny_bind (wpAny_standAt (wpAny_bind (wpAny_mono h (fun it' s' h' => wpAny_pure (And.intro rfl h')) fun _ _ x => x))))
end

theorem wipe_out {σ : St} {i : Nat} : ∀ {vs : List Nat}, i ∉ vs → (wipe σ vs)[i]? = σ[i]?
  | [], _ => rfl
  | v :: vs, h => by
    have h1 : v ≠ i := fun e => h (by rw [e]; exact List.mem_cons_self)
    have h2 : i ∉ vs := fun m => h (List.mem_cons_of_mem _ m)
    unfold wipe
    rw [List.getElem?_set_ne h1]
    exact wipe_out h2
section
variable {X : Cx}
/-- [elt for tg in iter if .. for tg1 in iter1 if ..]: behind the first clause's store and tests the second source's own loop, from which Nx is reached. vs: the block's names; vs1: those of the second target -/
def tLc2 (wi : TI) (g : TG) (tt : TT) (wi1 : TI) (g1 : TG) (tt1 : TT) (te : TE) (vs vs1 : List Nat) : TE := fun σ H Q => wi σ H fun J H1 => ∀ D, H1 D = none → ∃ W : Nat → Nat → Hp → Prop, (∃ m, W 0 m (upd H1 D (.lst []))) ∧ ∀ i m H, W i m H →
  (J.stop i H ∧ Q (.ref D) H) ∨ (J.go i H ∧ ∃ Nx : Hp → Prop, (∀ H', Nx H' → ∃ m', m' < m ∧ W (i + 1) m' H') ∧ ∀ x H', J.yld i H x H' → g x (wipe σ vs) H' fun σ2 H2 => wipe σ2 vs = wipe σ vs ∧ tt σ2 H2 fun b H3 =>
    if b = true then wi1 σ2 H3 fun J1 H4 => ∃ W1 : Nat → Nat → Hp → Prop, (∃ m, W1 0 m H4) ∧ ∀ j k H, W1 j k H →
      (J1.stop j H ∧ Nx H) ∨ (J1.go j H ∧ ∃ Nx1 : Hp → Prop, (∀ H', Nx1 H' → ∃ k', k' < k ∧ W1 (j + 1) k' H') ∧ ∀ x H', J1.yld j H x H' → g1 x (wipe σ2 vs1) H' fun σ3 H5 => wipe σ3 vs1 = wipe σ2 vs1 ∧ tt1 σ3 H5 fun b H6 =>
        if b = true then te σ3 H6 fun y H7 => ∃ acc, H7 D = some (.lst acc) ∧ acc.length < sizeLine ∧ Nx1 (upd H7 D (.lst (acc ++ [y]))) else Nx1 H6)
    else Nx H3)
theorem lc2_core {pins : List (Addr × Obj)} {s : Shared} {σ : St} {H : Hp} {Q : VK} {elt tg iter tg1 iter1 : Expr} {ifs ifs1 : List Expr} {scope : Scope} {own : List (Str × Nat)} {vs1 : List Nat} {pos pos' : Pos} {wi wi1 : TI} {g g1 : TG} {tt tt1 : TT} {te : TE} {use : Option (Value → Sem Unit)} {Qf : Value → Shared → Prop}
    (hc : X.calm = true) (hN : X.N.Nodup) (I : Inv X pins σ H s) (hi : PI X tg iter wi) (ok : BlkOk X.N X.env.scope scope own) (hv : ∀ i ∈ vs1, i ∈ own.map (·.2))
    (hg : ∀ (s : Shared) (H : Hp) (C : Addr) (cl : List (Str × Addr)) (fp : List Addr), PG (X.blk s H scope (compEnvC scope cl C X.env) fp) tg g) (ht : ∀ (s : Shared) (H : Hp) (C : Addr) (cl : List (Str × Addr)) (fp : List Addr), PTs (X.blk s H scope (compEnvC scope cl C X.env) fp) ifs tt)
    (he : ∀ (s : Shared) (H : Hp) (C : Addr) (cl : List (Str × Addr)) (fp : List Addr), PE (X.blk s H scope (compEnvC scope cl C X.env) fp) elt te) (hs : ∀ x, foldedSetIterable iter X.env x = pure x)
    (hi1 : ∀ (s : Shared) (H : Hp) (C : Addr) (cl : List (Str × Addr)) (fp : List Addr), PI (X.blk s H scope (compEnvC scope cl C X.env) fp) tg1 iter1 wi1)
    (hg1 : ∀ (s : Shared) (H : Hp) (C : Addr) (cl : List (Str × Addr)) (fp : List Addr), PG (X.blk s H scope (compEnvC scope cl C X.env) fp) tg1 g1)
    (ht1 : ∀ (s : Shared) (H : Hp) (C : Addr) (cl : List (Str × Addr)) (fp : List Addr), PTs (X.blk s H scope (compEnvC scope cl C X.env) fp) ifs1 tt1)
    (hs1 : ∀ env x, foldedSetIterable iter1 env x = pure x)
    (h : tLc2 wi g tt wi1 g1 tt1 te (own.map (·.2)) vs1 σ H Q)
    (hRR : ∀ D C s' m H', Inv X pins σ H' s' → Q (.ref D) H' → s'.heap.Ns C m → FpOk X pins H' C → compPost (model X.prog X.w) X.A X.xe use Qf (.ref D) C (.ok .next) s') :
    wpAny (model X.prog X.w) X.A (comprehension (.ListComp elt [⟨tg, iter, ifs, 0⟩, ⟨tg1, iter1, ifs1, 0⟩] scope pos) scope X.env pos' (newList []) false (eval iter X.env) use) Qf X.xe s := by
  have hfree : ∀ y ∈ scope.names, y.2 = .free → ∃ c, X.env.cells.lookup y.1 = some c := fun y hy e => by
    rcases ok.free y hy e with k | k
    · exact I.ok.has _ (.inl k)
    · exact I.ok.has _ (.inr k)
  refine wpAny_comprehension_free (use := use) rfl hs (closure_ok hfree) ok.kind (fun y hy e => by rw [ok.uniq y hy, e])
    (thn (hi pins s σ H _ I h) fun xv s1 hx => thn hx fun itv s2 h2 => ?_)
  obtain ⟨it, fp, tn, J, H2, e, I2, T, st2, f2, q⟩ := h2
  subst e
  refine wpAny_newObj_type (newEnv_comp ?_) (by show 0 ≤ sizeLine; decide)
  generalize hD : s2.heap.objs.size = D
  have hDn : H2 D = none := I2.hok.fresh (Nat.le_of_eq hD)
  obtain ⟨W, ⟨m0, w0⟩, turn⟩ := q D hDn
  -- the new list
  generalize hs3 : ({ s2 with heap := s2.heap.push { cls := .type "list", data := .seq ([] : List Value).toArray } } : Shared) = s3
  have I3 : Inv X pins σ (upd H2 D (.lst [])) s3 := by
    rw [← hs3]
    refine I2.laid (t' := s2.toks) (fun b o e => Heap.get?_push_of_some _ e) (Nat.le_of_eq hD) ⟨Nat.zero_le _, [], 0, .nil, ?_⟩
    rw [← hD]
    exact Heap.get?_push_size _ rfl
  have h3 : s3.heap = s2.heap.push { cls := .type "list", data := .seq ([] : List Value).toArray } := by rw [← hs3]
  have sz : ∀ b ∈ fp, b < s2.heap.objs.size := fun b hb => by
    obtain ⟨o, e, _⟩ := T.obj _ _ st2 b hb
    exact Heap.lt_size e
  have f3 : ∀ b ∈ fp, FpOk X pins (upd H2 D (.lst [])) b ∧ b < s3.heap.objs.size := fun b hb => by
    have hlt := sz b hb
    refine ⟨⟨?_, (f2 b hb).2⟩, by rw [h3, Heap.size_push]; exact Nat.lt_succ_of_lt hlt⟩
    rw [upd_ne (by rw [← hD]; exact Nat.ne_of_lt hlt)]
    exact (f2 b hb).1
  have st3 : tn 0 s3.heap := T.keep _ _ _ st2 fun b _ o e => by rw [h3]; exact Heap.get?_push_of_some _ e
  have I4 := block_start I3 ok hN f3
  have pg := hg s3 (upd H2 D (.lst [])) s3.heap.objs.size (cellsFrom (s3.heap.objs.size + 1) scope.names (cloFrom X.env.cells scope.names [])) fp
  have pt := ht s3 (upd H2 D (.lst [])) s3.heap.objs.size (cellsFrom (s3.heap.objs.size + 1) scope.names (cloFrom X.env.cells scope.names [])) fp
  have pe := he s3 (upd H2 D (.lst [])) s3.heap.objs.size (cellsFrom (s3.heap.objs.size + 1) scope.names (cloFrom X.env.cells scope.names [])) fp
  have pi1 := hi1 s3 (upd H2 D (.lst [])) s3.heap.objs.size (cellsFrom (s3.heap.objs.size + 1) scope.names (cloFrom X.env.cells scope.names [])) fp
  have pg1 := hg1 s3 (upd H2 D (.lst [])) s3.heap.objs.size (cellsFrom (s3.heap.objs.size + 1) scope.names (cloFrom X.env.cells scope.names [])) fp
  have pt1 := ht1 s3 (upd H2 D (.lst [])) s3.heap.objs.size (cellsFrom (s3.heap.objs.size + 1) scope.names (cloFrom X.env.cells scope.names [])) fp
  show codeAny _ _ (.compStart (.ListComp elt [⟨tg, iter, ifs, 0⟩, ⟨tg1, iter1, ifs1, 0⟩] scope pos) 0 (.ref it) (.ref D) (compEnvC scope (cellsFrom (s3.heap.objs.size + 1) scope.names (cloFrom X.env.cells scope.names [])) s3.heap.objs.size X.env)) (compPost (model X.prog X.w) X.A X.xe use Qf (.ref D) s3.heap.objs.size) { s3 with heap := pushCells (s3.heap.push { cls := .type "dict", data := .dict #[] }) scope.names }
  have nfp : ∀ b ∈ fp, (upd H2 D (.lst [])) b = none := fun b hb => (f3 b hb).1.1
  generalize hce : compEnvC scope (cellsFrom (s3.heap.objs.size + 1) scope.names (cloFrom X.env.cells scope.names [])) s3.heap.objs.size X.env = ce at I4 pg pt pe pi1 pg1 pt1 ⊢
  have cL : ce.locals = s3.heap.objs.size := by subst hce; rfl
  generalize hH3 : upd H2 D (.lst []) = H3 at I3 I4 pg pt pe pi1 pg1 pt1 w0 nfp f3
  generalize hs4 : ({ s3 with heap := pushCells (s3.heap.push { cls := .type "dict", data := .dict #[] }) scope.names } : Shared) = s4 at I4 ⊢
  have st4 : tn 0 s4.heap := T.keep _ _ _ st3 fun b _ o e => by rw [← hs4]; exact pushCells_keeps _ _ _ _ (Heap.get?_push_of_some _ e)
  have stat : ∀ {σ' : St} {H' : Hp} {s' : Shared}, Inv (X.blk s3 H3 scope ce fp) [] σ' H' s' → (∀ b ∈ fp, H' b = none) → ∀ b ∈ fp, FpOk (X.blk s3 H3 scope ce fp) [] H' b := fun {σ' H' s'} I' hn b hb =>
    ⟨hn b hb, (I'.ok.exf b hb).1, I'.ok.exfs b hb, .inl hb, fun x c e => (I'.ok.exf b hb).2 x c e, fun p hp => absurd (show p ∈ ([] : List (Addr × Obj)) ++ [] from hp) (by simp)⟩
  have loop : codeAny (model X.prog X.w) X.A (.compLoop (.ListComp elt [⟨tg, iter, ifs, 0⟩, ⟨tg1, iter1, ifs1, 0⟩] scope pos) 0 (.ref it) (.ref D) ce) (compPost (model X.prog X.w) X.A X.xe use Qf (.ref D) s3.heap.objs.size) s4 := by
    refine compLoop2_out (hs1 ce) (fun n s' => ∃ i H', Inv (X.blk s3 H3 scope ce fp) [] (wipe σ (own.map (·.2))) H' s' ∧ tn i s'.heap ∧ (∀ b ∈ fp, H' b = none) ∧ W i n H') ?_ m0 ⟨0, H3, I4, st4, nfp, w0⟩
    rintro n s5 ⟨i, H5, I5, st5, n5, w5⟩
    rcases turn i n H5 w5 with ⟨stop, qq⟩ | ⟨go, Nx, hNx, step⟩
    · have td := T.done (X.blk s3 H3 scope ce fp) rfl rfl rfl hc i [] s5 _ H5 (fun _ _ => False) I5 (stat I5 n5) st5 stop
      refine thnF td fun r s6 ⟨hr, I6⟩ => ?_
      subst hr
      -- back in the def's context
      have I7 : Inv X pins σ H5 s6 := I3.call' (ch := fp) I6.os I6.base I6.hok I6.bare fun b hb => ⟨(f3 b hb).1.2.2.2.1, (f3 b hb).1.2.1, (f3 b hb).1.2.2.2.2.1, (f3 b hb).1.2.2.2.2.2⟩
      have nC : H5 s3.heap.objs.size = none := by
        have z : H5 ce.locals = none := I6.free
        rw [cL] at z
        exact z
      obtain ⟨m, hn, _⟩ := I6.loc
      have hn : s6.heap.Ns ce.locals m := hn
      rw [cL] at hn
      exact hRR D s3.heap.objs.size s6 m H5 I7 qq hn (I3.fpOk (Nat.le_refl _) nC)
    · have ti := T.item (X.blk s3 H3 scope ce fp) rfl rfl rfl hc i [] s5 _ H5 (fun _ _ => False) I5 (stat I5 n5) st5 go
      refine thnF ti fun r s6 ⟨u, hr, h6⟩ => ?_
      subst hr
      refine thnF h6 fun _ s7 ⟨x, H7, I7, r7, y7, st7, n7⟩ => ?_
      have I7' := I7.pinned (stat I7 n7) (T.obj _ _ st7)
      refine thnF (pg _ s7 _ H7 x u _ I7' r7 (step x H7 y7)) fun _ s8 ⟨σ8, H8, I8, hw8, q8⟩ => ?_
      refine thnF (pt _ s8 σ8 H8 _ I8 q8) fun b s9 ⟨H9, I9, q9⟩ => ?_
      -- the turn's end, from any slots that know what the block knew at its start
      have fin : ∀ {σ9 : St} {s' : Shared} {H' : Hp}, Inv (X.blk s3 H3 scope ce fp) ([] ++ pinsAt fp s7.heap) σ9 H' s' → (wipe σ (own.map (·.2))).length = σ9.length → (∀ (j : Nat) v, (wipe σ (own.map (·.2)))[j]? = some (some v) → σ9[j]? = some (some v)) → Nx H' →
          ∃ m, m < n ∧ ∃ i H', Inv (X.blk s3 H3 scope ce fp) [] (wipe σ (own.map (·.2))) H' s' ∧ tn i s'.heap ∧ (∀ b ∈ fp, H' b = none) ∧ W i m H' := fun {σ9 s' H'} I' hl hk nx => by
        obtain ⟨m', hm, w'⟩ := hNx H' nx
        have pin' : ∀ b ∈ fp, ∀ o, s7.heap.get? b = some o → s'.heap.get? b = some o ∧ H' b = none := fun b hb o e =>
          let z := I'.pin (b, o) (List.mem_append_right _ (List.mem_append_right _ (mem_pinsAt hb e)))
          ⟨z.1, z.2.1⟩
        refine ⟨m', hm, i + 1, H', (I'.unpinned (pins := [])).weak hl hk, T.keep _ _ _ st7 fun b hb o e => (pin' b hb o e).1, fun b hb => ?_, w'⟩
        obtain ⟨o, e, _⟩ := T.obj _ _ st7 b hb
        exact (pin' b hb o e).2
      have hl8 : (wipe σ (own.map (·.2))).length = σ8.length := by rw [← hw8, wipe_length]
      have hk8 : ∀ (j : Nat) v, (wipe σ (own.map (·.2)))[j]? = some (some v) → σ8[j]? = some (some v) := fun j v e => by
        rw [← hw8] at e
        exact (wipe_some e).1
      have hk9 : ∀ (j : Nat) v, (wipe σ (own.map (·.2)))[j]? = some (some v) → (wipe σ8 vs1)[j]? = some (some v) := fun j v e => by
        rw [← hw8] at e
        obtain ⟨e1, e2⟩ := wipe_some e
        rw [wipe_out fun z => e2 (hv j z)]
        exact e1
      cases b with
      | false =>
        simp only [Bool.false_eq_true, if_false] at q9 ⊢
        exact fin I9 hl8 hk8 q9
      | true =>
        simp only [if_true] at q9 ⊢
        refine thnF (pi1 _ s9 σ8 H9 _ I9 q9) fun xv s10 hx => thnF hx fun itv s11 h11 => ?_
        obtain ⟨it1, fp1, tn1, J1, H11, e1, I11, T1, st11, f11, W1, ⟨m1, w1⟩, turn1⟩ := h11
        subst e1
        -- the inner loop
        have stat1 : ∀ {H' : Hp}, (∀ b ∈ fp1, H' b = none) → ∀ b ∈ fp1, FpOk (X.blk s3 H3 scope ce fp) ([] ++ pinsAt fp s7.heap) H' b := fun hn b hb => ⟨hn b hb, (f11 b hb).2⟩
        have loop1 : codeAny (model X.prog X.w) X.A (.compLoop (.ListComp elt [⟨tg, iter, ifs, 0⟩, ⟨tg1, iter1, ifs1, 0⟩] scope pos) 1 (.ref it1) (.ref D) ce)
            (fun r s' => match r with
              | .ok _ => ∃ m, m < n ∧ ∃ i H', Inv (X.blk s3 H3 scope ce fp) [] (wipe σ (own.map (·.2))) H' s' ∧ tn i s'.heap ∧ (∀ b ∈ fp, H' b = none) ∧ W i m H'
              | .error _ => False) s11 := by
          refine compLoop2_in (fun k s' => ∃ j H', Inv (X.blk s3 H3 scope ce fp) ([] ++ pinsAt fp s7.heap) (wipe σ8 vs1) H' s' ∧ tn1 j s'.heap ∧ (∀ b ∈ fp1, H' b = none) ∧ W1 j k H') ?_ m1 ⟨0, H11, I11.weak (wipe_length _ _) (fun j v e => (wipe_some e).1), st11, fun b hb => (f11 b hb).1, w1⟩
          rintro k s12 ⟨j, H12, I12, st12, n12, w12⟩
          rcases turn1 j k H12 w12 with ⟨stop1, nx1⟩ | ⟨go1, Nx1, hNx1, step1⟩
          · refine thnF (T1.done (X.blk s3 H3 scope ce fp) rfl rfl rfl hc j _ s12 (wipe σ8 vs1) H12 (fun _ _ => False) I12 (stat1 n12) st12 stop1) fun r s13 ⟨hr, I13⟩ => ?_
            subst hr
            exact fin I13 (hl8.trans (wipe_length σ8 vs1).symm) hk9 nx1
          · refine thnF (T1.item (X.blk s3 H3 scope ce fp) rfl rfl rfl hc j _ s12 (wipe σ8 vs1) H12 (fun _ _ => False) I12 (stat1 n12) st12 go1) fun r s13 ⟨u1, hr, h13⟩ => ?_
            subst hr
            refine thnF h13 fun _ s14 ⟨x1, H14, I14, r14, y14, st14, n14⟩ => ?_
            have I14' := I14.pinned (stat1 n14) (T1.obj _ _ st14)
            refine thnF (pg1 _ s14 (wipe σ8 vs1) H14 x1 u1 _ I14' r14 (step1 x1 H14 y14)) fun _ s15 ⟨σ15, H15, I15, hw15, q15⟩ => ?_
            refine thnF (pt1 _ s15 σ15 H15 _ I15 q15) fun b1 s16 ⟨H16, I16, q16⟩ => ?_
            have fin1 : ∀ {s' : Shared} {H' : Hp}, Inv (X.blk s3 H3 scope ce fp) (([] ++ pinsAt fp s7.heap) ++ pinsAt fp1 s14.heap) σ15 H' s' → Nx1 H' → ∃ m, m < k ∧ ∃ j H', Inv (X.blk s3 H3 scope ce fp) ([] ++ pinsAt fp s7.heap) (wipe σ8 vs1) H' s' ∧ tn1 j s'.heap ∧ (∀ b ∈ fp1, H' b = none) ∧ W1 j m H' := fun {s' H'} I' nx => by
              obtain ⟨m', hm, w'⟩ := hNx1 H' nx
              have pin' : ∀ b ∈ fp1, ∀ o, s14.heap.get? b = some o → s'.heap.get? b = some o ∧ H' b = none := fun b hb o e =>
                let z := I'.pin (b, o) (List.mem_append_right _ (List.mem_append_right _ (mem_pinsAt hb e)))
                ⟨z.1, z.2.1⟩
              refine ⟨m', hm, j + 1, H', I'.unpinned.weak (by rw [← hw15, wipe_length]) (fun j v e => by rw [← hw15] at e; exact (wipe_some e).1), T1.keep _ _ _ st14 fun b hb o e => (pin' b hb o e).1, fun b hb => ?_, w'⟩
              obtain ⟨o, e, _⟩ := T1.obj _ _ st14 b hb
              exact (pin' b hb o e).2
            cases b1 with
            | false =>
              simp only [Bool.false_eq_true, if_false] at q16 ⊢
              exact fin1 I16 q16
            | true =>
              simp only [if_true] at q16 ⊢
              refine thnF (pe _ s16 σ15 H16 _ I16 q16) fun z s17 ⟨yv, H17, I17, r17, acc, hD17, hz17, nx⟩ => ?_
              exact app_ok (X := X.blk s3 H3 scope ce fp) I17 hD17 hz17 r17 fun s18 I18 => fin1 I18 nx
        exact compStart1_ok loop1 (T1.self X.A 0 _ _ _ st11 loop1)
  exact codeAny_compStart_list loop (T.self X.A 0 _ _ _ st4 loop)
/-- as a value -/
theorem pe_lc2 {elt tg iter tg1 iter1 : Expr} {ifs ifs1 : List Expr} {scope : Scope} {own : List (Str × Nat)} {vs1 : List Nat} {pos : Pos} {wi wi1 : TI} {g g1 : TG} {tt tt1 : TT} {te : TE} (hc : X.calm = true) (hN : X.N.Nodup) (hi : PI X tg iter wi) (ok : BlkOk X.N X.env.scope scope own) (hv : ∀ i ∈ vs1, i ∈ own.map (·.2))
    (hg : ∀ (s : Shared) (H : Hp) (C : Addr) (cl : List (Str × Addr)) (fp : List Addr), PG (X.blk s H scope (compEnvC scope cl C X.env) fp) tg g) (ht : ∀ (s : Shared) (H : Hp) (C : Addr) (cl : List (Str × Addr)) (fp : List Addr), PTs (X.blk s H scope (compEnvC scope cl C X.env) fp) ifs tt)
    (hi1 : ∀ (s : Shared) (H : Hp) (C : Addr) (cl : List (Str × Addr)) (fp : List Addr), PI (X.blk s H scope (compEnvC scope cl C X.env) fp) tg1 iter1 wi1)
    (hg1 : ∀ (s : Shared) (H : Hp) (C : Addr) (cl : List (Str × Addr)) (fp : List Addr), PG (X.blk s H scope (compEnvC scope cl C X.env) fp) tg1 g1) (ht1 : ∀ (s : Shared) (H : Hp) (C : Addr) (cl : List (Str × Addr)) (fp : List Addr), PTs (X.blk s H scope (compEnvC scope cl C X.env) fp) ifs1 tt1)
    (he : ∀ (s : Shared) (H : Hp) (C : Addr) (cl : List (Str × Addr)) (fp : List Addr), PE (X.blk s H scope (compEnvC scope cl C X.env) fp) elt te) (hs : ∀ x, foldedSetIterable iter X.env x = pure x := by intro _; rfl) (hs1 : ∀ env x, foldedSetIterable iter1 env x = pure x := by intro _ _; rfl) :
    PE X (.ListComp elt [⟨tg, iter, ifs, 0⟩, ⟨tg1, iter1, ifs1, 0⟩] scope pos) (tLc2 wi g tt wi1 g1 tt1 te (own.map (·.2)) vs1) := by
  intro pins s σ H Q I h
  rw [eval_ListComp]
  refine lc2_core hc hN I hi ok hv hg ht he hs hi1 hg1 ht1 hs1 h fun D C s' m H' I' q hn f => ⟨m, hn, fun h'' sb => ?_⟩
  obtain ⟨f0, f1, f2, f3, f4, f5⟩ := f
  exact ⟨.ref D, H', I'.turned (t' := s'.toks) (fun b o hb e => (sb.2 b hb).trans e) f0 f1 f3 f4 f5, rfl, q⟩
theorem ps_setLc2 {i : Nat} {y : Str} {py : Pos} {elt tg iter tg1 iter1 : Expr} {ifs ifs1 : List Expr} {scope : Scope} {own : List (Str × Nat)} {vs1 : List Nat} {pos spos : Pos} {wi wi1 : TI} {g g1 : TG} {tt tt1 : TT} {te : TE} (hc : X.calm = true) (hN : X.N.Nodup) (hy : X.N[i]? = some y) (hyl : X.env.scope.names.lookup y = some .local)
    (hsw : swapsWith (.ListComp elt [⟨tg, iter, ifs, 0⟩, ⟨tg1, iter1, ifs1, 0⟩] scope pos) (some (.Name y py)) spos.line X.env = pure true) (hi : PI X tg iter wi) (ok : BlkOk X.N X.env.scope scope own) (hv : ∀ i ∈ vs1, i ∈ own.map (·.2))
    (hg : ∀ (s : Shared) (H : Hp) (C : Addr) (cl : List (Str × Addr)) (fp : List Addr), PG (X.blk s H scope (compEnvC scope cl C X.env) fp) tg g) (ht : ∀ (s : Shared) (H : Hp) (C : Addr) (cl : List (Str × Addr)) (fp : List Addr), PTs (X.blk s H scope (compEnvC scope cl C X.env) fp) ifs tt)
    (hi1 : ∀ (s : Shared) (H : Hp) (C : Addr) (cl : List (Str × Addr)) (fp : List Addr), PI (X.blk s H scope (compEnvC scope cl C X.env) fp) tg1 iter1 wi1)
    (hg1 : ∀ (s : Shared) (H : Hp) (C : Addr) (cl : List (Str × Addr)) (fp : List Addr), PG (X.blk s H scope (compEnvC scope cl C X.env) fp) tg1 g1) (ht1 : ∀ (s : Shared) (H : Hp) (C : Addr) (cl : List (Str × Addr)) (fp : List Addr), PTs (X.blk s H scope (compEnvC scope cl C X.env) fp) ifs1 tt1)
    (he : ∀ (s : Shared) (H : Hp) (C : Addr) (cl : List (Str × Addr)) (fp : List Addr), PE (X.blk s H scope (compEnvC scope cl C X.env) fp) elt te) (hs : ∀ x, foldedSetIterable iter X.env x = pure x := by intro _; rfl) (hs1 : ∀ env x, foldedSetIterable iter1 env x = pure x := by intro _ _; rfl) :
    PS X (.Assign [.Name y py] (.ListComp elt [⟨tg, iter, ifs, 0⟩, ⟨tg1, iter1, ifs1, 0⟩] scope pos) spos) (tAsg (tLc2 wi g tt wi1 g1 tt1 te (own.map (·.2)) vs1) (gName i)) := by
  intro pins s σ H D I h
  rw [exec_Assign_Name_used _ _ _ _ hsw]
  refine wpAny_bind (wpAny_standAt (wpAny_bind ?_))
  show wpAny _ X.A (do let _ ← comprehension (.ListComp elt [⟨tg, iter, ifs, 0⟩, ⟨tg1, iter1, ifs1, 0⟩] scope pos) scope X.env (firstIterPos [⟨tg, iter, ifs, 0⟩, ⟨tg1, iter1, ifs1, 0⟩] pos) (newList []) false (eval iter X.env) (some (assign (.Name y py) X.env))) _ _ s
  have h : tLc2 wi g tt wi1 g1 tt1 te (own.map (·.2)) vs1 σ H (fun x H1 => gName i x σ H1 D.nx) := h
  refine wpAny_bind (thn (lc2_core (Qf := fun _ s' => SP X pins D .next s') hc hN I hi ok hv hg ht he hs hi1 hg1 ht1 hs1 h fun L C s' m H' I' q hn f => ?_) fun _ s' hq => wpAny_pure (wpAny_pure hq))
  show wpAny _ _ (assign (.Name y py) X.env (.ref L)) _ _ _
  refine wpAny_assign_Name (store_ok2 (v := V.ref L) I' hN hy (.inl hyl) rfl (fun s2 I2 ⟨a, sb, ha⟩ => ?_) (.inr hyl))
  obtain ⟨f0, f1, f2, f3, f4, f5⟩ := f
  have haC : C ≠ a := by
    rcases ha with z | z
    · rw [z]; exact f1
    · exact fun e => f4 y a z e.symm
  refine ⟨m, hn.sameBut sb haC, fun h3 sb3 => ?_⟩
  exact ⟨_, H', I2.turned (t' := s2.toks) (fun b o hb e => (sb3.2 b hb).trans e) f0 f1 f3 f4 f5, q⟩
end
end L2

namespace L2
open PySem PySem.Spec PyProof.Rows

/-! ### lists of pairs as tables -/
section
variable {κ : Type} [DecidableEq κ]
def valV (kvs : List (κ × V)) (k : κ) : Option V := (kvs.find? fun kv => decide (kv.1 = k)).map (·.2)
/-- in its place, or at the end -/
def putK (kvs : List (κ × V)) (k : κ) (v : V) : List (κ × V) :=
  if (kvs.any fun kv => decide (kv.1 = k)) = true then kvs.map (fun kv => if kv.1 = k then (kv.1, v) else kv) else kvs ++ [(k, v)]
def dropK (kvs : List (κ × V)) (k : κ) : List (κ × V) := kvs.filter fun kv => decide (kv.1 ≠ k)

theorem valV_nil {k : κ} : valV ([] : List (κ × V)) k = none := rfl
theorem valV_pos {p : κ × V} {r : List (κ × V)} {k : κ} (e : p.1 = k) : valV (p :: r) k = some p.2 := by simp [valV, List.find?_cons, e]
theorem valV_neg {p : κ × V} {r : List (κ × V)} {k : κ} (e : ¬ p.1 = k) : valV (p :: r) k = valV r k := by simp [valV, List.find?_cons, e]
theorem valV_any (k : κ) : ∀ kvs : List (κ × V), (kvs.any fun kv => decide (kv.1 = k)) = (valV kvs k).isSome
  | [] => rfl
  | p :: r => by
    rw [List.any_cons]
    by_cases e : p.1 = k
    · simp only [valV_pos e, decide_eq_true e, Bool.true_or, Option.isSome_some]
    · rw [valV_neg e, decide_eq_false e, Bool.false_or]; exact valV_any k r
theorem valV_map (k j : κ) (y : V) : ∀ kvs : List (κ × V), valV (kvs.map fun kv => if kv.1 = k then (kv.1, y) else kv) j = (valV kvs j).map fun x => if j = k then y else x
  | [] => rfl
  | p :: r => by
    have ih := valV_map k j y r
    rw [List.map_cons]
    by_cases h : p.1 = k
    · rw [if_pos h]
      by_cases e : p.1 = j
      · rw [valV_pos (p := (p.1, y)) e, valV_pos e, Option.map_some, if_pos (e.symm.trans h)]
      · rw [valV_neg (p := (p.1, y)) e, valV_neg e, ih]
    · rw [if_neg h]
      by_cases e : p.1 = j
      · rw [valV_pos (p := p) e, valV_pos e, Option.map_some, if_neg (fun z => h (e.trans z))]
      · rw [valV_neg (p := p) e, valV_neg e, ih]
theorem valV_snoc (k j : κ) (y : V) : ∀ kvs : List (κ × V), valV kvs k = none → valV (kvs ++ [(k, y)]) j = if j = k then some y else valV kvs j
  | [], _ => by
    by_cases e : k = j
    · rw [if_pos e.symm]; exact valV_pos (p := (k, y)) e
    · rw [if_neg (fun z => e z.symm)]; exact valV_neg (p := (k, y)) e
  | p :: r, hn => by
    rw [List.cons_append]
    have hk : ¬ p.1 = k := fun z => by rw [valV_pos z] at hn; cases hn
    rw [valV_neg hk] at hn
    have ih := valV_snoc k j y r hn
    by_cases e : p.1 = j
    · rw [valV_pos e, valV_pos e, if_neg (fun z => hk (e.trans z))]
    · rw [valV_neg e, valV_neg e, ih]
theorem valV_put (kvs : List (κ × V)) (k j : κ) (y : V) : valV (putK kvs k y) j = if j = k then some y else valV kvs j := by
  unfold putK
  by_cases a : (kvs.any fun kv => decide (kv.1 = k)) = true
  · rw [if_pos a, valV_map]
    rw [valV_any] at a
    by_cases e : j = k
    · obtain ⟨x, hx⟩ := Option.isSome_iff_exists.mp a
      rw [if_pos e, e, hx, Option.map_some, if_pos rfl]
    · rw [if_neg e]
      cases valV kvs j with
      | none => rfl
      | some x => rw [Option.map_some, if_neg e]
  · rw [if_neg a]
    refine valV_snoc k j y kvs ?_
    rw [valV_any] at a
    cases q : valV kvs k with
    | none => rfl
    | some x => rw [q] at a; exact (a rfl).elim
theorem length_putK (kvs : List (κ × V)) (k : κ) (v : V) : (putK kvs k v).length ≤ kvs.length + 1 := by
  unfold putK
  split
  · rw [List.length_map]; omega
  · rw [List.length_append, List.length_cons, List.length_nil]; omega
theorem putK_new {kvs : List (κ × V)} {k : κ} (v : V) (h : valV kvs k = none) : putK kvs k v = kvs ++ [(k, v)] := by
  unfold putK
  rw [valV_any, h]
  exact if_neg (by decide)

theorem RelO.isSome_eq {o : Option V} {u : Option Value} (r : RelO o u) : o.isSome = u.isSome := by
  cases o with
  | none => cases u with
    | none => rfl
    | some _ => exact (show False from r).elim
  | some _ => cases u with
    | none => exact (show False from r).elim
    | some _ => rfl
theorem RelO.getD {o : Option V} {u : Option Value} {d : V} {d' : Value} (r : RelO o u) (rd : RelV d d') : RelV (o.getD d) (u.getD d') := by
  cases o with
  | none => cases u with
    | none => exact rd
    | some _ => exact (show False from r).elim
  | some _ => cases u with
    | none => exact (show False from r).elim
    | some _ => exact r

/-- raw tables of the same keys -/
theorem KV.val {kvs : List (κ × V)} {vs : List (κ × Value)} (r : KV kvs vs) (k : κ) : RelO (valV kvs k) (valueAt vs k) := by
  unfold KV at r
  induction r with
  | nil => exact True.intro
  | @cons p q ps qs h t ih =>
    obtain ⟨h1, h2⟩ := h
    by_cases e : p.1 = k
    · have e' : q.1 = k := h1.symm.trans e
      have b : valueAt (q :: qs) k = some q.2 := by simp [valueAt, List.find?_cons, e']
      rw [valV_pos e, b]; exact h2
    · have e' : ¬ q.1 = k := fun z => e (h1.trans z)
      have b : valueAt (q :: qs) k = valueAt qs k := by simp [valueAt, List.find?_cons, e']
      rw [valV_neg e, b]; exact ih
theorem KV.any {kvs : List (κ × V)} {vs : List (κ × Value)} (r : KV kvs vs) (k : κ) : (kvs.any fun kv => decide (kv.1 = k)) = vs.any fun kv => decide (kv.1 = k) := by
  unfold KV at r
  induction r with
  | nil => rfl
  | cons h t ih => rw [List.any_cons, List.any_cons, ih, h.1]
theorem KV.repl {kvs : List (κ × V)} {vs : List (κ × Value)} (r : KV kvs vs) (k : κ) {y : V} {u : Value} (ry : RelV y u) :
    KV (kvs.map fun kv => if kv.1 = k then (kv.1, y) else kv) (vs.map fun kv => if kv.1 = k then (kv.1, u) else kv) := by
  unfold KV at r ⊢
  induction r with
  | nil => exact .nil
  | @cons p q ps qs h t ih =>
    rw [List.map_cons, List.map_cons]
    refine .cons ?_ ih
    obtain ⟨h1, h2⟩ := h
    by_cases e : p.1 = k
    · rw [if_pos e, if_pos (h1.symm.trans e)]; exact ⟨h1, ry⟩
    · rw [if_neg e, if_neg (fun z => e (h1.trans z))]; exact ⟨h1, h2⟩
theorem KV.put {kvs : List (κ × V)} {vs : List (κ × Value)} (r : KV kvs vs) (k : κ) {y : V} {u : Value} (ry : RelV y u) : KV (putK kvs k y) (stored vs k u) := by
  unfold putK stored
  rw [r.any k]
  by_cases e : (vs.any fun kv => decide (kv.1 = k)) = true
  · rw [if_pos e, if_pos e]; exact r.repl k ry
  · rw [if_neg e, if_neg e]; exact Paired.snoc r ⟨rfl, ry⟩
theorem KV.drop {kvs : List (κ × V)} {vs : List (κ × Value)} (r : KV kvs vs) (k : κ) : KV (dropK kvs k) (without vs k) := by
  unfold KV at r ⊢
  unfold dropK without
  induction r with
  | nil => exact .nil
  | @cons p q ps qs h t ih =>
    obtain ⟨h1, h2⟩ := h
    rw [List.filter_cons, List.filter_cons]
    by_cases e : p.1 = k
    · have a : ¬ decide (p.1 ≠ k) = true := by simp [e]
      have b : ¬ decide (q.1 ≠ k) = true := by simp [h1.symm.trans e]
      rw [if_neg a, if_neg b]; exact ih
    · have e' : ¬ q.1 = k := fun z => e (h1.trans z)
      have a : decide (p.1 ≠ k) = true := by simp [e]
      have b : decide (q.1 ≠ k) = true := by simp [e']
      rw [if_pos a, if_pos b]; exact .cons ⟨h1, h2⟩ ih
theorem KV.keys {kvs : List (κ × V)} {vs : List (κ × Value)} (r : KV kvs vs) : kvs.map (·.1) = vs.map (·.1) := by
  unfold KV at r
  induction r with
  | nil => rfl
  | cons h t ih => rw [List.map_cons, List.map_cons, ih, h.1]
theorem KV.length {kvs : List (κ × V)} {vs : List (κ × Value)} (r : KV kvs vs) : kvs.length = vs.length := Paired.length r
theorem dropK_le (kvs : List (κ × V)) (k : κ) : (dropK kvs k).length ≤ kvs.length := List.length_filter_le _ _
end


/-! ### a tracked dict, its keys ints and texts or tuples of these -/
theorem kV_is {P : Program} {w : World} {k : Key} {u : Value} (r : RelV (kV k) u) : (mixKind P w).is k u = true := by
  cases k with
  | inl i => obtain ⟨t, e⟩ := (show ∃ t, u = Value.int i t from r); subst e; exact mixKind_int P w i t
  | inr x => obtain ⟨t, e⟩ := (show ∃ t, u = Value.str x t from r); subst e; exact mixKind_str P w x t
theorem kV_inj {a b : Key} (e : kV a = kV b) : a = b := by
  cases a with
  | inl i => cases b with
    | inl j => have e' : V.int i = V.int j := e; injection e' with e'; rw [e']
    | inr y => exact nomatch (show V.int i = V.str y from e)
  | inr x => cases b with
    | inl j => exact nomatch (show V.str x = V.int j from e)
    | inr y => have e' : V.str x = V.str y := e; injection e' with e'; rw [e']
theorem kVs_inj : ∀ {a b : List Key}, a.map kV = b.map kV → a = b
  | [], [], _ => rfl
  | [], _ :: _, e => by simp at e
  | _ :: _, [], e => by simp at e
  | x :: xs, y :: ys, e => by
    rw [List.map_cons, List.map_cons] at e
    injection e with e1 e2
    rw [kV_inj e1, kVs_inj e2]
theorem items_are {P : Program} {w : World} : ∀ {ks : List Key} {us : List Value}, Vals (ks.map kV) us → ItemsAre (mixKind P w) ks us
  | [], _, r => by rw [List.map_nil] at r; cases r; exact .nil
  | k :: ks, _, r => by
    rw [List.map_cons] at r
    cases r with
    | cons h t => exact .cons (kV_is h) (items_are t)

/-- raw entries of a dict with tuple keys -/
abbrev KT (H : Hp) : List (List Key × V) → List (List Key × Addr × Value) → Prop := Paired fun p q => p.1 = q.1 ∧ H q.2.1 = some (.tup (p.1.map kV)) ∧ RelV p.2 q.2.2
theorem KT.val {H : Hp} {kvs : List (List Key × V)} {xs : List (List Key × Addr × Value)} (r : KT H kvs xs) (k : List Key) : RelO (valV kvs k) ((atKey xs k).map (·.2)) := by
  induction r with
  | nil => exact True.intro
  | @cons p q ps qs h t ih =>
    obtain ⟨h1, _, h2⟩ := h
    by_cases e : p.1 = k
    · have e' : q.1 = k := h1.symm.trans e
      have b : atKey (q :: qs) k = some q.2 := by simp [atKey, List.find?_cons, e']
      rw [valV_pos e, b]; exact h2
    · have e' : ¬ q.1 = k := fun z => e (h1.trans z)
      have b : atKey (q :: qs) k = atKey qs k := by simp [atKey, List.find?_cons, e']
      rw [valV_neg e, b]; exact ih
theorem KT.repl {H : Hp} {kvs : List (List Key × V)} {xs : List (List Key × Addr × Value)} (r : KT H kvs xs) (k : List Key) {y : V} {u : Value} (ry : RelV y u) :
    KT H (kvs.map fun kv => if kv.1 = k then (kv.1, y) else kv) (xs.map (putAt k u)) := by
  induction r with
  | nil => exact .nil
  | @cons p q ps qs h t ih =>
    rw [List.map_cons, List.map_cons]
    refine .cons ?_ ih
    obtain ⟨h1, h2, h3⟩ := h
    unfold putAt
    by_cases e : p.1 = k
    · rw [if_pos e, if_pos (h1.symm.trans e)]; exact ⟨h1, h2, ry⟩
    · rw [if_neg e, if_neg (fun z => e (h1.trans z))]; exact ⟨h1, h2, h3⟩
theorem KT.put {H : Hp} {kvs : List (List Key × V)} {xs : List (List Key × Addr × Value)} (r : KT H kvs xs) (k : List Key) {b : Addr} {y : V} {u : Value} (hb : H b = some (.tup (k.map kV))) (ry : RelV y u) :
    KT H (putK kvs k y) (storedH xs k b u) := by
  have e : (kvs.any fun kv => decide (kv.1 = k)) = (atKey xs k).isSome := by
    rw [valV_any, (r.val k).isSome_eq, Option.isSome_map]
  unfold putK storedH
  rw [e]
  by_cases q : (atKey xs k).isSome = true
  · rw [if_pos q, if_pos q]; exact r.repl k ry
  · rw [if_neg q, if_neg q]; exact Paired.snoc r ⟨rfl, hb, ry⟩
theorem KT.keeps {H H' : Hp} {kvs : List (List Key × V)} {xs : List (List Key × Addr × Value)} (r : KT H kvs xs) (ht : ∀ b ys, H b = some (.tup ys) → H' b = some (.tup ys)) : KT H' kvs xs :=
  Paired.mapP r fun _ _ z => ⟨z.1, ht _ _ z.2.1, z.2.2⟩

section
variable {P : Program} {w : World} {H : Hp} {h : Heap} {a : Addr}
theorem rd_of {u : HO} (ok : HOk P w H h) (e : Rd H a u) : ObjOk P w H h a u := e.ok ok
theorem dk_rd {kvs : List (Key × V)} (ok : HOk P w H h) (e : Rd H a (.dK kvs)) : kvs.length ≤ sizeLine ∧ (a == sysModules) = false ∧ ∃ vs, KV kvs vs ∧ h.DictOf (mixKind P w) a vs :=
  show ObjOk P w H h a (.dK kvs) from rd_of ok e
theorem dk_of {kvs : List (Key × V)} (ok : HOk P w H h) (e : H a = some (.dK kvs)) : kvs.length ≤ sizeLine ∧ (a == sysModules) = false ∧ ∃ vs, KV kvs vs ∧ h.DictOf (mixKind P w) a vs := dk_rd ok (.inl e)
/-- a tracked tuple of ints and texts is a key -/
theorem key_of {ks : List Key} (ok : HOk P w H h) (e : H a = some (.tup (ks.map kV))) : (tupleKind (mixKind P w)).is h ks a := by
  obtain ⟨_, its, r, o, h1, h2, n, h3⟩ := (show ObjOk P w H h a (.tup (ks.map kV)) from ok a _ e)
  exact ⟨o, its.toArray, n, h1, h2, h3, by simpa using items_are r⟩
theorem dt_rd {kvs : List (List Key × V)} (ok : HOk P w H h) (e : Rd H a (.dT kvs)) : kvs.length ≤ sizeLine ∧ (a == sysModules) = false ∧
    ∃ xs, KT H kvs xs ∧ h.DictOfH (tupleKind (mixKind P w)) a xs := by
  obtain ⟨z, y, xs, r, o, es, ep, h1, h2, h3, h4, h5⟩ := (show ObjOk P w H h a (.dT kvs) from rd_of ok e)
  refine ⟨z, y, xs, r, o, es, ep, h1, h2, h3, h4, fun x hx => ?_, h5⟩
  have all : ∀ {l : List (List Key × V)} {m : List (List Key × Addr × Value)}, KT H l m → ∀ x ∈ m, (tupleKind (mixKind P w)).is h x.1 x.2.1 := by
    intro l m q
    induction q with
    | nil => intro x hx; exact nomatch hx
    | @cons p q ps qs hq t ih =>
      intro x hx
      rcases List.mem_cons.mp hx with e | hx
      · subst e
        exact key_of ok (by rw [← hq.1]; exact hq.2.1)
      · exact ih x hx
  exact all r x hx
theorem dt_of {kvs : List (List Key × V)} (ok : HOk P w H h) (e : H a = some (.dT kvs)) : kvs.length ≤ sizeLine ∧ (a == sysModules) = false ∧
    ∃ xs, KT H kvs xs ∧ h.DictOfH (tupleKind (mixKind P w)) a xs := dt_rd ok (.inl e)
end

/-- what the dict at a holds at the key y -/
def DGet (H : Hp) (a : Addr) (y : V) (r : Option V) : Prop :=
  (∃ kvs k, Rd H a (.dK kvs) ∧ y = kV k ∧ r = valV kvs k) ∨ ∃ kvs k b, Rd H a (.dT kvs) ∧ y = .ref b ∧ H b = some (.tup (k.map kV)) ∧ r = valV kvs k
/-- the heap behind a[y] = v -/
def DPut (H : Hp) (a : Addr) (y v : V) (H' : Hp) : Prop :=
  (∃ kvs k, H a = some (.dK kvs) ∧ y = kV k ∧ kvs.length < sizeLine ∧ H' = upd H a (.dK (putK kvs k v))) ∨
  ∃ kvs k b, H a = some (.dT kvs) ∧ y = .ref b ∧ H b = some (.tup (k.map kV)) ∧ kvs.length < sizeLine ∧ H' = upd H a (.dT (putK kvs k v))
theorem DGet.k {H : Hp} {a : Addr} {kvs : List (Key × V)} {k : Key} (e : H a = some (.dK kvs)) : DGet H a (kV k) (valV kvs k) := .inl ⟨kvs, k, .inl e, rfl, rfl⟩
theorem DGet.t {H : Hp} {a b : Addr} {kvs : List (List Key × V)} {k : List Key} (e : H a = some (.dT kvs)) (eb : H b = some (.tup (k.map kV))) : DGet H a (.ref b) (valV kvs k) := .inr ⟨kvs, k, b, .inl e, rfl, eb, rfl⟩
theorem DPut.k {H : Hp} {a : Addr} {kvs : List (Key × V)} {k : Key} {v : V} (e : H a = some (.dK kvs)) (hl : kvs.length < sizeLine) : DPut H a (kV k) v (upd H a (.dK (putK kvs k v))) := .inl ⟨kvs, k, e, rfl, hl, rfl⟩
theorem DPut.t {H : Hp} {a b : Addr} {kvs : List (List Key × V)} {k : List Key} {v : V} (e : H a = some (.dT kvs)) (eb : H b = some (.tup (k.map kV))) (hl : kvs.length < sizeLine) :
    DPut H a (.ref b) v (upd H a (.dT (putK kvs k v))) := .inr ⟨kvs, k, b, e, rfl, eb, hl, rfl⟩


section
variable {X : Cx} {pins : List (Addr × Obj)} {σ : St} {H : Hp} {s : Shared} {a : Addr} {y v : V} {u r : Value} {o : Option V} {A : Around} {E : Value → Shared → Prop}

theorem Inv.big (I : Inv X pins σ H s) : sysModules < s.heap.objs.size := by
  have h : mainGlobals < s.heap.objs.size := (I.mod.glob.keeps I.bk).lt
  exact Nat.lt_trans (by decide) h

/-- d[y], there -/
theorem d_getItem {Q : Value → Shared → Prop} (hu : A.units + 1 < cLine) (I : Inv X pins σ H s) (g : DGet H a y (some v)) (ry : RelV y u) (h : ∀ w' s', Inv X pins σ H s' → RelV v w' → Q w' s') :
    wpAny (model X.prog X.w) A (getItem (.ref a) u) Q E s := by
  rcases g with ⟨kvs, k, e, ey, l⟩ | ⟨kvs, k, b, e, ey, eb, l⟩
  · subst ey
    obtain ⟨z, hd, vs, rel, dd⟩ := dk_rd I.hok e
    obtain ⟨w', hw, rw'⟩ := RelO.some_of (v := v) (o := valueAt vs k) (by rw [l]; exact rel.val k)
    exact wpAny_getItem_of (kV_is ry) dd.mapOf hw (h w' _ (I.tok _) rw')
  · subst ey
    cases (show u = Value.ref b from ry)
    obtain ⟨z, hd, xs, rel, dd⟩ := dt_rd I.hok e
    obtain ⟨w', hw, rw'⟩ := RelO.some_of (v := v) (o := (atKey xs k).map (·.2)) (by rw [l]; exact rel.val k)
    obtain ⟨p, hp, hp2⟩ := Option.map_eq_some_iff.mp hw
    refine wpAny_getItem_heap (tupleKind_room_in1 hu) (key_of I.hok eb) dd hp ?_
    rw [hp2]
    exact h w' _ (I.tok _) rw'
/-- y in d -/
theorem d_in {Q : Value → Shared → Prop} (hu : A.units + 1 < cLine) (I : Inv X pins σ H s) (g : DGet H a y o) (ry : RelV y u) (h : ∀ s', Inv X pins σ H s' → Q (.bool o.isSome) s') :
    wpAny (model X.prog X.w) A (compareOp .In u (.ref a)) Q E s := by
  rcases g with ⟨kvs, k, e, ey, l⟩ | ⟨kvs, k, b, e, ey, eb, l⟩
  · subst ey
    obtain ⟨z, hd, vs, rel, dd⟩ := dk_rd I.hok e
    refine wpAny_in_of (kV_is ry) hd dd.mapOf ?_
    rw [← (rel.val k).isSome_eq, ← l]
    exact h _ (I.tok _)
  · subst ey
    cases (show u = Value.ref b from ry)
    obtain ⟨z, hd, xs, rel, dd⟩ := dt_rd I.hok e
    refine wpAny_in_heap (tupleKind_room_in1 hu) (key_of I.hok eb) hd dd ?_
    have q := (rel.val k).isSome_eq
    rw [Option.isSome_map] at q
    rw [← q, ← l]
    exact h _ (I.tok _)
theorem d_notIn {Q : Value → Shared → Prop} (hu : A.units + 1 < cLine) (I : Inv X pins σ H s) (g : DGet H a y o) (ry : RelV y u) (h : ∀ s', Inv X pins σ H s' → Q (.bool (!o.isSome)) s') :
    wpAny (model X.prog X.w) A (compareOp .NotIn u (.ref a)) Q E s := by
  rcases g with ⟨kvs, k, e, ey, l⟩ | ⟨kvs, k, b, e, ey, eb, l⟩
  · subst ey
    obtain ⟨z, hd, vs, rel, dd⟩ := dk_rd I.hok e
    refine wpAny_notIn_of (kV_is ry) hd dd.mapOf ?_
    rw [← (rel.val k).isSome_eq, ← l]
    exact h _ (I.tok _)
  · subst ey
    cases (show u = Value.ref b from ry)
    obtain ⟨z, hd, xs, rel, dd⟩ := dt_rd I.hok e
    refine wpAny_notIn_heap (tupleKind_room_in1 hu) (key_of I.hok eb) hd dd ?_
    have q := (rel.val k).isSome_eq
    rw [Option.isSome_map] at q
    rw [← q, ← l]
    exact h _ (I.tok _)
/-- a dict's object is replaced -/
theorem d_write {h' : Heap} {t' : Nat} {ob : HO} (I : Inv X pins σ H s) (mu : Mut (H a)) (hs : Heap.SameBut a s.heap h') (he : ∃ q, h'.get? a = some q) (new : ObjOk X.prog X.w (upd H a ob) h' a ob) :
    Inv X pins σ (upd H a ob) { s with heap := h', toks := t' } :=
  I.write (x := a) (e := a) mu (.inl rfl) (fun b q hb z => (hs.2 b hb).trans z) he new
theorem dk_new {P : Program} {w : World} {H' : Hp} {h' : Heap} {kvs : List (Key × V)} {vs : List (Key × Value)} (z : kvs.length ≤ sizeLine) (hd : (a == sysModules) = false) (rel : KV kvs vs) (dd : h'.DictOf (mixKind P w) a vs) :
    ObjOk P w H' h' a (.dK kvs) := ⟨z, hd, vs, rel, dd⟩
/-- d[y] = v -/
theorem d_setItem {H' : Hp} {Q : Unit → Shared → Prop} (hu : A.units + 1 < cLine) (I : Inv X pins σ H s) (g : DPut H a y v H') (ry : RelV y u) (rv : RelV v r) (h : ∀ s', Inv X pins σ H' s' → Q () s') :
    wpAny (model X.prog X.w) A (setItem (.ref a) u r) Q E s := by
  rcases g with ⟨kvs, k, e, ey, l, eH⟩ | ⟨kvs, k, b, e, ey, eb, l, eH⟩
  · subst ey eH
    obtain ⟨z, hd, vs, rel, dd⟩ := dk_of I.hok e
    have hz : vs.length ≤ sizeLine := by rw [← rel.length]; exact z
    have hl : (putK kvs k v).length ≤ sizeLine := by have := length_putK kvs k v; omega
    refine wpAny_setItem_pairs (hsz := hz) (kV_is ry) dd fun h' dd' hs => h _ ?_
    have he : ∃ q, h'.get? a = some q := let ⟨q, _, _, hq, _⟩ := dd'; ⟨q, hq⟩
    exact d_write I (by rw [e]; exact True.intro) hs he (dk_new hl hd (rel.put k rv) dd')
  · subst ey eH
    cases (show u = Value.ref b from ry)
    obtain ⟨z, hd, xs, rel, dd⟩ := dt_of I.hok e
    have hz : xs.length ≤ sizeLine := by rw [← Paired.length rel]; exact z
    have hl : (putK kvs k v).length ≤ sizeLine := by have := length_putK kvs k v; omega
    refine wpAny_setItem_heap (hsz := hz) (tupleKind_room_in1 hu) (key_of I.hok eb) dd fun h' dd' hs => h _ ?_
    obtain ⟨q, es, ep, hq, h2, h3, h4, _, h5⟩ := dd'
    refine d_write I (by rw [e]; exact True.intro) hs ⟨q, hq⟩ ⟨hl, hd, _, (rel.put k eb rv).keeps fun c ys ec => ?_, q, es, ep, hq, h2, h3, h4, h5⟩
    rw [upd_ne (ne_of ec e (fun z => nomatch z))]
    exact ec
end

section
variable {X : Cx} {pins : List (Addr × Obj)} {σ : St} {H : Hp} {s : Shared} {a : Addr} {kvs : List (Key × V)} {k : Key} {u : Value} {A : Around} {E : Value → Shared → Prop}
/-- del d[k] -/
theorem d_delItem {Q : Unit → Shared → Prop} (I : Inv X pins σ H s) (e : H a = some (.dK kvs)) (ry : RelV (kV k) u) (l : (valV kvs k).isSome = true) (h : ∀ s', Inv X pins σ (upd H a (.dK (dropK kvs k))) s' → Q () s') :
    wpAny (model X.prog X.w) A (delItem (.ref a) u) Q E s := by
  obtain ⟨z, hd, vs, rel, dd⟩ := dk_of I.hok e
  refine wpAny_delItem_slot dd.typeIs (by decide) PySem.F.slot_dict_delitem
    (call_meetsIn PySem.F.slot_dict_delitem dd.typeIs PySem.F.entry_dict_delitem (PySem.F.args_dict_delitem_2 _ _) (meets_dict_delitem_pairs (mixKind X.prog X.w) a (kV_is ry)) ⟨vs, dd, by rw [← rel.length]; exact z, by rw [← (rel.val k).isSome_eq]; exact l, fun h' dd' hs => h _ ?_⟩)
  have he : ∃ q, h'.get? a = some q := let ⟨q, _, _, hq, _⟩ := dd'; ⟨q, hq⟩
  exact d_write I (by rw [e]; exact True.intro) hs he (dk_new (Nat.le_trans (dropK_le kvs k) z) hd (rel.drop k) dd')
/-- d.pop(k[, x]), there -/
theorem d_pop {v : V} {more : List Value} {Q : Value → Shared → Prop} (I : Inv X pins σ H s) (e : H a = some (.dK kvs)) (ry : RelV (kV k) u) (l : valV kvs k = some v) (hm : more = [] ∨ ∃ x, more = [x])
    (h : ∀ w' s', Inv X pins σ (upd H a (.dK (dropK kvs k))) s' → RelV v w' → Q w' s') : wpAny (model X.prog X.w) A (call (.builtin "dict.pop") (.ref a :: u :: more)) Q E s := by
  obtain ⟨z, hd, vs, rel, dd⟩ := dk_of I.hok e
  obtain ⟨w', hw, rw'⟩ := RelO.some_of (v := v) (o := valueAt vs k) (by rw [← l]; exact rel.val k)
  have hp : (keyPart u).isSome = true := by
    cases k with
    | inl i => obtain ⟨t, q⟩ := (show ∃ t, u = Value.int i t from ry); subst q; rfl
    | inr x => obtain ⟨t, q⟩ := (show ∃ t, u = Value.str x t from ry); subst q; rfl
  have ha : argsOk "dict.pop" ⟨.ref a :: u :: more, []⟩ := by
    rcases hm with q | ⟨x, q⟩
    · subst q; exact PySem.F.args_dict_pop_2 _ _
    · subst q; exact PySem.F.args_dict_pop_3 _ _ _
  refine call_meetsIn PySem.F.slot_dict_pop dd.typeIs PySem.F.entry_dict_pop ha (meets_dict_pop_there (mixKind X.prog X.w) a (kV_is ry) more hm hp)
    ⟨vs, w', dd, by rw [← rel.length]; exact z, hw, fun h' dd' hs => h w' _ ?_ rw'⟩
  have he : ∃ q, h'.get? a = some q := let ⟨q, _, _, hq, _⟩ := dd'; ⟨q, hq⟩
  exact d_write I (by rw [e]; exact True.intro) hs he (dk_new (Nat.le_trans (dropK_le kvs k) z) hd (rel.drop k) dd')
/-- d.pop(k, x), not there -/
theorem d_popD {r : Value} {Q : Value → Shared → Prop} (I : Inv X pins σ H s) (e : H a = some (.dK kvs)) (ry : RelV (kV k) u) (l : valV kvs k = none) (h : ∀ s', Inv X pins σ H s' → Q r s') :
    wpAny (model X.prog X.w) A (call (.builtin "dict.pop") [.ref a, u, r]) Q E s := by
  obtain ⟨z, hd, vs, rel, dd⟩ := dk_of I.hok e
  have hn : valueAt vs k = none := RelO.none_of (by rw [← l]; exact rel.val k)
  have hp : (keyPart u).isSome = true := by
    cases k with
    | inl i => obtain ⟨t, q⟩ := (show ∃ t, u = Value.int i t from ry); subst q; rfl
    | inr x => obtain ⟨t, q⟩ := (show ∃ t, u = Value.str x t from ry); subst q; rfl
  exact call_meetsIn PySem.F.slot_dict_pop dd.typeIs PySem.F.entry_dict_pop (PySem.F.args_dict_pop_3 _ _ _) (meets_dict_pop_default (mixKind X.prog X.w) a (kV_is ry) hd hp r) ⟨vs, dd, hn, h _ (I.tok _)⟩
/-- d.clear() -/
theorem d_clear {Q : Value → Shared → Prop} (I : Inv X pins σ H s) (e : H a = some (.dK kvs)) (h : ∀ s', Inv X pins σ (upd H a (.dK [])) s' → Q .none s') : wpAny (model X.prog X.w) A (call (.builtin "dict.clear") [.ref a]) Q E s := by
  obtain ⟨z, hd, vs, rel, dd⟩ := dk_of I.hok e
  refine call_meetsIn PySem.F.slot_dict_clear dd.typeIs PySem.F.entry_dict_clear (PySem.F.args_dict_clear_1 _) (meets_dict_clear (mixKind X.prog X.w) a) ⟨vs, dd, by rw [← rel.length]; exact z, fun h' dd' hs => h _ ?_⟩
  have he : ∃ q, h'.get? a = some q := let ⟨q, _, _, hq, _⟩ := dd'; ⟨q, hq⟩
  exact d_write (t' := s.toks) I (by rw [e]; exact True.intro) hs he (dk_new (Nat.zero_le _) hd .nil dd')
/-- len(d) -/
theorem d_len {Q : Value → Shared → Prop} (I : Inv X pins σ H s) (e : Rd H a (.dK kvs)) (h : ∀ t s', Inv X pins σ H s' → Q (.int kvs.length t) s') : wpAny (model X.prog X.w) A (call (.builtin "len") [.ref a]) Q E s := by
  obtain ⟨z, hd, vs, rel, dd⟩ := dk_rd I.hok e
  refine call_len_dict hd dd (by rw [← rel.length]; rw [sizeLine_eq] at z; omega) ?_
  rw [← rel.length]
  exact h _ _ (I.tok _)
/-- if d -/
theorem d_truth {Q : Bool → Shared → Prop} (I : Inv X pins σ H s) (e : Rd H a (.dK kvs)) (h : ∀ s', Inv X pins σ H s' → Q (!kvs.isEmpty) s') : wpAny (model X.prog X.w) A (truthy (.ref a)) Q E s := by
  obtain ⟨z, hd, vs, rel, dd⟩ := dk_rd I.hok e
  refine wpAny_truthy_dict hd dd (by rw [← rel.length]; rw [sizeLine_eq] at z; omega) ?_
  have q : kvs.isEmpty = vs.isEmpty := by cases rel <;> rfl
  rw [← q]
  exact h _ (I.tok _)
end


/-! ### readings and rules -/
/-- the element of a subscription, not a slice -/
def NoSl (i : Expr) : Prop := ∀ ov iv, subscripted i false ov iv = operate [ov, iv] (getItem ov iv)
theorem subD_of {prog : Program} {w : World} {A : Around} {E : Value → Shared → Prop} {s : Shared} {env : Env} {value slice : Expr} {pos : Pos} {T id : String} {Q : Value → Shared → Prop}
    (hl : typeLookup (.type T) "__getitem__" = pure (some (.builtin id))) (hs : NoSl slice)
    (h : wpAny (model prog w) A (eval value env) (fun o s₁ => wpAny (model prog w) A (eval slice env) (fun i s₂ => s₂.TypeIs o T ∧ wpAny (model prog w) A (getItem o i) Q E s₂) E s₁) E s) :
    wpAny (model prog w) A (eval (.Subscript value slice pos) env) Q E s := by
  refine Subscript_ (wpAny_mono h (fun o s₁ h₁ => wpAny_mono h₁ (fun i s₂ h₂ => ?_) fun _ _ x => x) fun _ _ x => x)
  obtain ⟨hT, h₂⟩ := h₂
  unfold subscriptTail
  refine wpAny_bind ?_
  rw [getitemInPython_of_ne hT.not_modules]
  refine wpAny_bind (wpAny_specialOf hT hl ?_)
  have fin : wpAny (model prog w) A (subscripted slice false o i) (fun r s₃ => wpAny (model prog w) A (letTemporaryGo value o r >>= fun _ => pure r) Q E s₃) E s₂ := by
    rw [hs o i]
    exact wpAny_operating (wpAny_mono h₂ (fun r s₃ h₃ => wpAny_bind (wpAny_letTemporaryGo (wpAny_pure h₃))) fun _ _ x => x)
  first
    | exact wpAny_pure (wpAny_bind fin)
    | exact wpAny_bind (wpAny_pure (wpAny_bind fin))
    | exact wpAny_bind fin

theorem dict_typeIs {X : Cx} {pins : List (Addr × Obj)} {σ : St} {H : Hp} {s : Shared} {a : Addr} {y : V} {o : Option V} (I : Inv X pins σ H s) (g : DGet H a y o) : s.TypeIs (.ref a) "dict" := by
  rcases g with ⟨kvs, k, e, _, _⟩ | ⟨kvs, k, b, e, _, _, _⟩
  · obtain ⟨_, _, vs, _, dd⟩ := dk_rd I.hok e
    exact dd.typeIs
  · obtain ⟨_, _, xs, _, dd⟩ := dt_rd I.hok e
    exact dd.typeIs
theorem dict_noDict {X : Cx} {pins : List (Addr × Obj)} {σ : St} {H : Hp} {s : Shared} {a : Addr} {y : V} {o : Option V} (I : Inv X pins σ H s) (g : DGet H a y o) :
    ∀ b, Value.ref a = .ref b → ∃ ob, s.heap.get? b = some ob ∧ ob.dict = none := fun b q => by
  cases q
  rcases g with ⟨kvs, k, e, _, _⟩ | ⟨kvs, k, b, e, _, _, _⟩
  · obtain ⟨_, _, vs, _, ob, _, _, h1, h2, _⟩ := dk_rd I.hok e
    exact ⟨ob, h1, h2.2.1⟩
  · obtain ⟨_, _, xs, _, ob, _, _, h1, h2, _⟩ := dt_rd I.hok e
    exact ⟨ob, h1, h2.2.1⟩

/-- d[y] -/
def tDGet (td ty : TE) : TE := fun σ H Q => td σ H fun x H1 => ty σ H1 fun y H2 => ∃ a v, x = .ref a ∧ DGet H2 a y (some v) ∧ Q v H2
/-- y in d, y not in d -/
def tDIn (ty td : TE) : TE := fun σ H Q => ty σ H fun y H1 => td σ H1 fun x H2 => ∃ a o, x = .ref a ∧ DGet H2 a y o ∧ Q (.bl o.isSome) H2
def tDNotIn (ty td : TE) : TE := fun σ H Q => ty σ H fun y H1 => td σ H1 fun x H2 => ∃ a o, x = .ref a ∧ DGet H2 a y o ∧ Q (.bl (!o.isSome)) H2
/-- d[y] = v -/
def sDPut (td ty tv : TE) : TS := fun D σ H => tv σ H fun v H1 => td σ H1 fun x H2 => ty σ H2 fun y H3 => ∃ a H4, x = .ref a ∧ DPut H3 a y v H4 ∧ D.nx σ H4
/-- d[y] op= v -/
def sDAug (td ty tv : TE) (rd : V → V → Hp → VK → Prop) : TS := fun D σ H => td σ H fun x H1 => ty σ H1 fun y H2 => ∃ a v, x = .ref a ∧ DGet H2 a y (some v) ∧
  tv σ H2 fun y2 H3 => rd v y2 H3 fun z H4 => ∃ H5, DPut H4 a y z H5 ∧ D.nx σ H5
/-- del d[y] -/
def sDDel (td ty : TE) : TS := fun D σ H => td σ H fun x H1 => ty σ H1 fun y H2 => ∃ a kvs k, x = .ref a ∧ H2 a = some (.dK kvs) ∧ y = kV k ∧ (valV kvs k).isSome = true ∧ D.nx σ (upd H2 a (.dK (dropK kvs k)))

section
variable {X : Cx} {o i e value : Expr} {pos pos' tpos : Pos} {td ty tv : TE}
theorem pe_dget (hu : X.A.units + 1 < cLine) (ho : PE X o td) (hi : PE X i ty) (hs : NoSl i) : PE X (.Subscript o i pos) (tDGet td ty) := by
  intro pins s σ H Q I h
  refine subD_of PySem.F.slot_dict_getitem.lookup hs (thn (ho pins s σ H _ I h) fun u s1 ⟨x, H1, I1, rx, q1⟩ => thn (hi pins s1 σ H1 _ I1 q1) fun iv s2 ⟨y, H2, I2, ry, a, v, ex, g, q2⟩ => ?_)
  subst ex
  obtain rfl : u = Value.ref a := rx
  exact ⟨dict_typeIs I2 g, d_getItem hu I2 g ry fun w' s3 I3 rw' => ⟨v, H2, I3, rw', q2⟩⟩
theorem pc_din (hu : X.A.units + 1 < cLine) (hi : PE X i ty) (ho : PE X o td) : PC X .In i o (tDIn ty td) := by
  intro pins s σ H Q I h
  refine thn (hi pins s σ H _ I h) fun iv s1 ⟨y, H1, I1, ry, q1⟩ => thn (ho pins s1 σ H1 _ I1 q1) fun u s2 ⟨x, H2, I2, rx, a, ov, ex, g, q2⟩ => ?_
  subst ex
  obtain rfl : u = Value.ref a := rx
  exact d_in hu I2 g ry fun s3 I3 => ⟨.bl ov.isSome, H2, I3, rfl, q2⟩
theorem pc_dnotin (hu : X.A.units + 1 < cLine) (hi : PE X i ty) (ho : PE X o td) : PC X .NotIn i o (tDNotIn ty td) := by
  intro pins s σ H Q I h
  refine thn (hi pins s σ H _ I h) fun iv s1 ⟨y, H1, I1, ry, q1⟩ => thn (ho pins s1 σ H1 _ I1 q1) fun u s2 ⟨x, H2, I2, rx, a, ov, ex, g, q2⟩ => ?_
  subst ex
  obtain rfl : u = Value.ref a := rx
  exact d_notIn hu I2 g ry fun s3 I3 => ⟨.bl (!ov.isSome), H2, I3, rfl, q2⟩
theorem ps_dput (hu : X.A.units + 1 < cLine) (ho : PE X o td) (hi : PE X i ty) (hv : PE X value tv) (hs : swapsWith value (some (.Subscript o i pos')) pos.line X.env = pure false) :
    PS X (.Assign [.Subscript o i pos'] value pos) (sDPut td ty tv) := by
  intro pins s σ H D I h
  refine wpAny_Assign_Subscript (thn (hv pins s σ H _ I h) fun r s1 ⟨v, H1, I1, rv, q1⟩ => thn (ho pins s1 σ H1 _ I1 q1) fun u s2 ⟨x, H2, I2, rx, q2⟩ => thn (hi pins s2 σ H2 _ I2 q2) fun iv s3 ⟨y, H3, I3, ry, a, H4, ex, g, q3⟩ => ?_) hs
  subst ex
  obtain rfl : u = Value.ref a := rx
  exact d_setItem hu I3 g ry rv fun s4 I4 => ⟨σ, H4, I4, q3⟩
theorem ps_daug {op : Operator} {rd : V → V → Hp → VK → Prop} (hu : X.A.units + 1 < cLine) (ho : PE X o td) (hi : PE X i ty) (hv : PE X value tv) (hop : InOp X op rd)
    (ha : ∀ ov iv new, augStore i ov iv new = (do holding [new, ov, iv] (setItem ov iv new); release [new, ov, iv] []; pure .next)) : PS X (.AugAssign (.Subscript o i tpos) op value pos) (sDAug td ty tv rd) := by
  intro pins s σ H D I h
  refine wpAny_AugAssign_SubscriptAny (thn (ho pins s σ H _ I h) fun u s1 ⟨x, H1, I1, rx, q1⟩ => thn (hi pins s1 σ H1 _ I1 q1) fun iv s2 ⟨y, H2, I2, ry, a, v, ex, g, q2⟩ => ?_) ha
  subst ex
  obtain rfl : u = Value.ref a := rx
  refine d_getItem hu I2 g ry fun w' s3 I3 rw' => thn (hv pins s3 σ H2 _ I3 q2) fun w2 s4 ⟨y2, H3, I4, ry2, q3⟩ => thn (hop pins s4 σ H3 v y2 w' w2 _ I4 rw' ry2 q3) fun w3 s5 ⟨z, H4, I5, rz, H5, g5, q4⟩ => ?_
  exact d_setItem hu I5 g5 ry rz fun s6 I6 => ⟨σ, H5, I6, q4⟩
theorem ps_ddel (ho : PE X o td) (hi : PE X i ty) : PS X (.Delete [.Subscript o i tpos] pos) (sDDel td ty) := by
  intro pins s σ H D I h
  refine wpAny_Delete (wpAny_deleteEach_cons (wpAny_delete_Subscript (thn (ho pins s σ H _ I h) fun u s1 ⟨x, H1, I1, rx, q1⟩ => thn (hi pins s1 σ H1 _ I1 q1) fun iv s2 ⟨y, H2, I2, ry, a, kvs, k, ex, e, ey, l, q2⟩ => ?_)))
  subst ex ey
  obtain rfl : u = Value.ref a := rx
  exact d_delItem I2 e ry l fun s3 I3 => wpAny_deleteEach_nil ⟨σ, _, I3, q2⟩
end


/-! ### displays -/
theorem dk_empty {P : Program} {w : World} {H : Hp} (h : Heap) (hb : sysModules < h.objs.size) : ObjOk P w H (h.push { cls := .type "dict", data := .dict #[] }) h.objs.size (.dK []) :=
  ⟨Nat.zero_le _, beq_eq_false_iff_ne.mpr (Ne.symm (Nat.ne_of_lt hb)), [], .nil, Heap.DictOf.new h⟩
theorem dt_empty {P : Program} {w : World} {H : Hp} (h : Heap) (hb : sysModules < h.objs.size) : ObjOk P w H (h.push { cls := .type "dict", data := .dict #[] }) h.objs.size (.dT []) :=
  ⟨Nat.zero_le _, beq_eq_false_iff_ne.mpr (Ne.symm (Nat.ne_of_lt hb)), [], .nil, _, #[], 0, Heap.get?_push_size _ rfl, ⟨rfl, rfl, rfl⟩, rfl, rfl, List.nodup_nil⟩
/-- {}, to be a dict of the kind that is wanted -/
def tDNewK : TE := fun _ H Q => ∀ p, H p = none → Q (.ref p) (upd H p (.dK []))
def tDNewT : TE := fun _ H Q => ∀ p, H p = none → Q (.ref p) (upd H p (.dT []))
section
variable {X : Cx} {pos : Pos}
theorem pe_dnewK : PE X (.Dict [] [] pos) tDNewK := fun pins s σ H Q I h =>
  wpAny_Dict_empty ⟨.ref s.heap.objs.size, _, I.laid (a := s.heap.objs.size) (o := .dK []) (t' := s.toks) (fun _ _ q => Heap.get?_push_of_some _ q) (Nat.le_refl _) (dk_empty s.heap I.big), rfl, h _ (I.hok.fresh (Nat.le_refl _))⟩
theorem pe_dnewT : PE X (.Dict [] [] pos) tDNewT := fun pins s σ H Q I h =>
  wpAny_Dict_empty ⟨.ref s.heap.objs.size, _, I.laid (a := s.heap.objs.size) (o := .dT []) (t' := s.toks) (fun _ _ q => Heap.get?_push_of_some _ q) (Nat.le_refl _) (dt_empty s.heap I.big), rfl, h _ (I.hok.fresh (Nat.le_refl _))⟩
end

/-- the pairs of a display, from the left -/
def tPairs : List (TE × TE) → St → Hp → (List (V × V) → Hp → Prop) → Prop
  | [], _, H, Q => Q [] H
  | (tk, tv) :: r, σ, H, Q => tk σ H fun x H1 => tv σ H1 fun y H2 => tPairs r σ H2 fun ps H3 => Q ((x, y) :: ps) H3
abbrev VV : List (V × V) → List (Value × Value) → Prop := Paired fun p q => RelV p.1 q.1 ∧ RelV p.2 q.2
def PPs (X : Cx) (pos : Pos) (keys : List (Option Expr)) (values : List Expr) (trs : List (TE × TE)) : Prop :=
  ∀ (pins : List (Addr × Obj)) (s : Shared) (σ : St) (H : Hp) (Q : List (V × V) → Hp → Prop), Inv X pins σ H s → tPairs trs σ H Q →
    wpAny (model X.prog X.w) X.A (evalPairs (pairTrees keys values X.env pos)) (fun vs s' => ∃ ps H', Inv X pins σ H' s' ∧ VV ps vs ∧ Q ps H') X.xe s
theorem pps_nil {X : Cx} {pos : Pos} : PPs X pos [] [] [] := fun pins s σ H Q I h => pairTrees_nil_walk ⟨[], H, I, .nil, h⟩
theorem pps_cons {X : Cx} {pos : Pos} {k v : Expr} {ks : List (Option Expr)} {vs : List Expr} {tk tv : TE} {trs : List (TE × TE)} (hk : PE X k tk) (hv : PE X v tv) (hr : PPs X pos ks vs trs) :
    PPs X pos (some k :: ks) (v :: vs) ((tk, tv) :: trs) := fun pins s σ H Q I h =>
  pairTrees_cons_walk (thn (hk pins s σ H _ I h) fun u s1 ⟨x, H1, I1, rx, q1⟩ => thn (hv pins s1 σ H1 _ I1 q1) fun w2 s2 ⟨y, H2, I2, ry, q2⟩ =>
    thn (hr pins s2 σ H2 _ I2 q2) fun ws s3 ⟨ps, H3, I3, rel, q3⟩ => ⟨(x, y) :: ps, H3, I3, .cons ⟨rx, ry⟩ rel, q3⟩)

def mergeK (kvs more : List (Key × V)) : List (Key × V) := more.foldl (fun acc kv => putK acc kv.1 kv.2) kvs
theorem KV.merge : ∀ {more : List (Key × V)} {rs : List (Key × Value)} {kvs : List (Key × V)} {vs : List (Key × Value)}, KV more rs → KV kvs vs → KV (mergeK kvs more) (merged vs rs) := by
  intro more rs kvs vs r
  unfold KV at r
  induction r generalizing kvs vs with
  | nil => intro q; exact q
  | @cons p q ps qs h t ih =>
    intro r0
    have e : KV (putK kvs p.1 p.2) (stored vs q.1 q.2) := by
      have := r0.put p.1 h.2
      rw [← h.1]; exact this
    exact ih e
theorem length_mergeK : ∀ (more kvs : List (Key × V)), (mergeK kvs more).length ≤ kvs.length + more.length
  | [], kvs => by show kvs.length ≤ kvs.length + 0; omega
  | p :: r, kvs => by
    have h1 := length_mergeK r (putK kvs p.1 p.2)
    have h2 := length_putK kvs p.1 p.2
    show (mergeK (putK kvs p.1 p.2) r).length ≤ _
    rw [List.length_cons]; omega
theorem carries_of {P : Program} {w : World} : ∀ {kvs : List (Key × V)} {ws : List (Value × Value)}, VV (kvs.map fun kv => (kV kv.1, kv.2)) ws → ∃ rs, Carries (mixKind P w) ws rs ∧ KV kvs rs
  | [], _, r => by rw [List.map_nil] at r; cases r; exact ⟨[], True.intro, .nil⟩
  | p :: kvs, _, r => by
    rw [List.map_cons] at r
    cases r with
    | @cons a b as bs h t =>
      obtain ⟨rs, c, q⟩ := carries_of (P := P) (w := w) t
      obtain ⟨b1, b2⟩ := b
      exact ⟨(p.1, b2) :: rs, ⟨kV_is h.1, rfl, c⟩, .cons ⟨rfl, h.2⟩ q⟩
/-- {k: v, ..} with keys ints and texts; the new dict stands empty while the pairs are made -/
def tDisp (trs : List (TE × TE)) : TE := fun σ H Q => ∀ p, H p = none → tPairs trs σ (upd H p (.dK [])) fun ps H2 => H2 p = some (.dK []) ∧ ∃ kvs : List (Key × V), ps = kvs.map (fun kv => (kV kv.1, kv.2)) ∧ kvs.length ≤ 15 ∧ Q (.ref p) (upd H2 p (.dK (mergeK [] kvs)))
theorem pe_disp {X : Cx} {pos : Pos} {keys : List (Option Expr)} {values : List Expr} {trs : List (TE × TE)} (h : PPs X pos keys values trs) (hall : keys.all (·.isSome) = true) (hl : keys.length = values.length) (h0 : keys ≠ [])
    (h15 : keys.length ≤ 15) : PE X (.Dict keys values pos) (tDisp trs) := by
  intro pins s σ H Q I q
  have hn := I.hok.fresh (Nat.le_refl s.heap.objs.size)
  have I1 := I.laid (a := s.heap.objs.size) (o := .dK []) (h' := s.heap.push { cls := .type "dict", data := .dict #[] }) (t' := s.toks) (fun _ _ q => Heap.get?_push_of_some _ q) (Nat.le_refl _) (dk_empty s.heap I.big)
  refine wpAny_Dict_walk (knd := mixKind X.prog X.w) hall hl h0 h15 (thn (h pins _ σ _ _ I1 (q _ hn)) fun ws s2 ⟨ps, H2, I2, rel, e, kvs, ep, lk, q2⟩ => ?_)
  subst ep
  obtain ⟨rs, c, rk⟩ := carries_of (P := X.prog) (w := X.w) rel
  obtain ⟨z, hd, vs0, r0, dd⟩ := dk_of I2.hok e
  cases r0
  refine ⟨rs, c, dd, fun h' dd' hs => ⟨.ref s.heap.objs.size, _, ?_, rfl, q2⟩⟩
  have hz : (mergeK [] kvs).length ≤ sizeLine := by
    have h1 := length_mergeK kvs []
    rw [List.length_nil] at h1
    rw [sizeLine_eq]; omega
  have he : ∃ q, h'.get? s.heap.objs.size = some q := let ⟨q, _, _, hq, _⟩ := dd'; ⟨q, hq⟩
  exact d_write I2 (by rw [e]; exact True.intro) hs he (dk_new hz hd (rk.merge .nil) dd')


/-! ### methods -/
/-- a method call o.m(e) of a built-in, with one argument: what must be seen of the text -/
structure M1 (X : Cx) (o : Expr) (m : Str) (apos : Pos) (e : Expr) (cpos : Pos) : Prop where
  base : attributeBase o m X.env (eval o X.env) = eval o X.env
  few : ((backTo cpos (starEach [e] X.env)).all (fun x => !x.1) && (backToKw cpos (keywordEach [] X.env)).all (fun x => x.1.isSome)
    && decide (([e] : List Expr).length + ([] : List Keyword).length + (if ([] : List Keyword).isEmpty then 0 else 1) < 30)) = true
  line : (apos.endLine == cpos.line) = true
  trees : backTo cpos (starEach [e] X.env) = [(false, eval e X.env)]
structure M2 (X : Cx) (o : Expr) (m : Str) (apos : Pos) (e f : Expr) (cpos : Pos) : Prop where
  base : attributeBase o m X.env (eval o X.env) = eval o X.env
  few : ((backTo cpos (starEach [e, f] X.env)).all (fun x => !x.1) && (backToKw cpos (keywordEach [] X.env)).all (fun x => x.1.isSome)
    && decide (([e, f] : List Expr).length + ([] : List Keyword).length + (if ([] : List Keyword).isEmpty then 0 else 1) < 30)) = true
  line : (apos.endLine == cpos.line) = true
  trees : backTo cpos (starEach [e, f] X.env) = [(false, eval e X.env), (false, eval f X.env)]

/-- a is a dict, whatever its keys -/
def IsD (H : Hp) (a : Addr) : Prop := (∃ kvs, Rd H a (.dK kvs)) ∨ ∃ kvs, Rd H a (.dT kvs)
theorem isD_at {X : Cx} {pins : List (Addr × Obj)} {σ : St} {H : Hp} {s : Shared} {a : Addr} (I : Inv X pins σ H s) (d : IsD H a) :
    s.TypeIs (.ref a) "dict" ∧ (∀ b, Value.ref a = .ref b → ∃ ob, s.heap.get? b = some ob ∧ ob.dict = none) ∧ (a == sysModules) = false := by
  rcases d with ⟨kvs, e⟩ | ⟨kvs, e⟩
  · obtain ⟨_, hd, vs, _, dd⟩ := dk_rd I.hok e
    refine ⟨dd.typeIs, fun b q => ?_, hd⟩
    cases q
    obtain ⟨ob, _, _, h1, h2, _⟩ := dd
    exact ⟨ob, h1, h2.2.1⟩
  · obtain ⟨_, hd, xs, _, dd⟩ := dt_rd I.hok e
    refine ⟨dd.typeIs, fun b q => ?_, hd⟩
    cases q
    obtain ⟨ob, _, _, h1, h2, _⟩ := dd
    exact ⟨ob, h1, h2.2.1⟩

section
variable {X : Cx} {pins : List (Addr × Obj)} {σ : St} {H : Hp} {s : Shared} {a : Addr} {y d : V} {u r : Value} {o : Option V} {A : Around} {E : Value → Shared → Prop}
/-- d.get(y) -/
theorem d_get1 {Q : Value → Shared → Prop} (hu : A.units + 1 < cLine) (I : Inv X pins σ H s) (g : DGet H a y o) (ry : RelV y u) (h : ∀ w' s', Inv X pins σ H s' → RelV (o.getD .non) w' → Q w' s') :
    wpAny (model X.prog X.w) A (call (.builtin "dict.get") [.ref a, u]) Q E s := by
  rcases g with ⟨kvs, k, e, ey, l⟩ | ⟨kvs, k, b, e, ey, eb, l⟩
  · subst ey
    obtain ⟨z, hd, vs, rel, dd⟩ := dk_rd I.hok e
    refine call_meetsIn PySem.F.slot_dict_get dd.typeIs PySem.F.entry_dict_get (PySem.F.args_dict_get_2 _ _) (meets_dict_get (mixKind X.prog X.w) a (kV_is ry) hd) ⟨_, dd.mapOf, h _ _ (I.tok _) ?_⟩
    rw [l]
    exact (rel.val k).getD rfl
  · subst ey
    cases (show u = Value.ref b from ry)
    obtain ⟨z, hd, xs, rel, dd⟩ := dt_rd I.hok e
    refine call_meetsIn PySem.F.slot_dict_get dd.typeIs PySem.F.entry_dict_get (PySem.F.args_dict_get_2 _ _) (meetsH_dict_get (tupleKind (mixKind X.prog X.w)) a b hd) ⟨tupleKind_room_in1 hu, k, xs, key_of I.hok eb, dd, h _ _ (I.tok _) ?_⟩
    rw [l]
    exact (rel.val k).getD rfl
/-- d.get(y, x) -/
theorem d_get2 {Q : Value → Shared → Prop} (hu : A.units + 1 < cLine) (I : Inv X pins σ H s) (g : DGet H a y o) (ry : RelV y u) (rd : RelV d r) (h : ∀ w' s', Inv X pins σ H s' → RelV (o.getD d) w' → Q w' s') :
    wpAny (model X.prog X.w) A (call (.builtin "dict.get") [.ref a, u, r]) Q E s := by
  rcases g with ⟨kvs, k, e, ey, l⟩ | ⟨kvs, k, b, e, ey, eb, l⟩
  · subst ey
    obtain ⟨z, hd, vs, rel, dd⟩ := dk_rd I.hok e
    refine call_meetsIn PySem.F.slot_dict_get dd.typeIs PySem.F.entry_dict_get (PySem.F.args_dict_get_3 _ _ _) (meets_dict_get_default (mixKind X.prog X.w) a (kV_is ry) hd r) ⟨_, dd.mapOf, h _ _ (I.tok _) ?_⟩
    rw [l]
    exact (rel.val k).getD rd
  · subst ey
    cases (show u = Value.ref b from ry)
    obtain ⟨z, hd, xs, rel, dd⟩ := dt_rd I.hok e
    refine call_meetsIn PySem.F.slot_dict_get dd.typeIs PySem.F.entry_dict_get (PySem.F.args_dict_get_3 _ _ _) (meetsH_dict_get_default (tupleKind (mixKind X.prog X.w)) a b hd r) ⟨tupleKind_room_in1 hu, k, xs, key_of I.hok eb, dd, h _ _ (I.tok _) ?_⟩
    rw [l]
    exact (rel.val k).getD rd
end

def tDGet1 (td ty : TE) : TE := fun σ H Q => td σ H fun x H1 => ∃ a, x = .ref a ∧ IsD H1 a ∧ ty σ H1 fun y H2 => ∃ o, DGet H2 a y o ∧ Q (o.getD .non) H2
def tDGet2 (td ty tx : TE) : TE := fun σ H Q => td σ H fun x H1 => ∃ a, x = .ref a ∧ IsD H1 a ∧ ty σ H1 fun y H2 => tx σ H2 fun z H3 => ∃ o, DGet H3 a y o ∧ Q (o.getD z) H3
/-- d.pop(k): there; d.pop(k, x): there or not -/
def tDPop1 (td ty : TE) : TE := fun σ H Q => td σ H fun x H1 => ∃ a, x = .ref a ∧ IsD H1 a ∧ ty σ H1 fun y H2 => ∃ kvs k v, H2 a = some (.dK kvs) ∧ y = kV k ∧ valV kvs k = some v ∧ Q v (upd H2 a (.dK (dropK kvs k)))
def tDPop2 (td ty tx : TE) : TE := fun σ H Q => td σ H fun x H1 => ∃ a, x = .ref a ∧ IsD H1 a ∧ ty σ H1 fun y H2 => tx σ H2 fun z H3 => ∃ kvs k, H3 a = some (.dK kvs) ∧ y = kV k ∧
  (∀ v, valV kvs k = some v → Q v (upd H3 a (.dK (dropK kvs k)))) ∧ (valV kvs k = none → Q z H3)
section
variable {X : Cx} {o e f : Expr} {apos cpos : Pos} {td ty tx : TE}
theorem pe_dget1 (hu : X.A.units + 1 < cLine) (ho : PE X o td) (he : PE X e ty) (m : M1 X o "get" apos e cpos) : PE X (.Call (.Attribute o "get" apos) [e] [] cpos) (tDGet1 td ty) := by
  intro pins s σ H Q I h
  refine wpAny_Call_method m.base m.few m.line PySem.F.plainAttrs_dict PySem.F.slot_dict_get PySem.F.type_dict_get (thn (ho pins s σ H _ I h) fun u s1 ⟨x, H1, I1, rx, a, ex, d, q1⟩ => ?_)
  subst ex
  obtain rfl : u = Value.ref a := rx
  obtain ⟨t1, t2, _⟩ := isD_at I1 d
  refine ⟨t1, t2, ?_⟩
  rw [m.trees]
  refine Calls.callWith_builtin rfl (Calls.evalArgs_plain (Calls.spliced_cons (thn (he pins s1 σ H1 _ I1 q1) fun iv s2 ⟨y, H2, I2, ry, ov, g, q2⟩ => Calls.spliced_nil ?_)))
  exact d_get1 hu I2 g ry fun w' s3 I3 rw' => ⟨_, H2, I3, rw', q2⟩
theorem pe_dget2 (hu : X.A.units + 1 < cLine) (ho : PE X o td) (he : PE X e ty) (hf : PE X f tx) (m : M2 X o "get" apos e f cpos) : PE X (.Call (.Attribute o "get" apos) [e, f] [] cpos) (tDGet2 td ty tx) := by
  intro pins s σ H Q I h
  refine wpAny_Call_method m.base m.few m.line PySem.F.plainAttrs_dict PySem.F.slot_dict_get PySem.F.type_dict_get (thn (ho pins s σ H _ I h) fun u s1 ⟨x, H1, I1, rx, a, ex, d, q1⟩ => ?_)
  subst ex
  obtain rfl : u = Value.ref a := rx
  obtain ⟨t1, t2, _⟩ := isD_at I1 d
  refine ⟨t1, t2, ?_⟩
  rw [m.trees]
  refine Calls.callWith_builtin rfl (Calls.evalArgs_plain (Calls.spliced_cons (thn (he pins s1 σ H1 _ I1 q1) fun iv s2 ⟨y, H2, I2, ry, q2⟩ =>
    Calls.spliced_cons (thn (hf pins s2 σ H2 _ I2 q2) fun fv s3 ⟨z, H3, I3, rz, ov, g, q3⟩ => Calls.spliced_nil ?_))))
  exact d_get2 hu I3 g ry rz fun w' s4 I4 rw' => ⟨_, H3, I4, rw', q3⟩
theorem pe_dpop1 (ho : PE X o td) (he : PE X e ty) (m : M1 X o "pop" apos e cpos) : PE X (.Call (.Attribute o "pop" apos) [e] [] cpos) (tDPop1 td ty) := by
  intro pins s σ H Q I h
  refine wpAny_Call_method m.base m.few m.line PySem.F.plainAttrs_dict PySem.F.slot_dict_pop PySem.F.type_dict_pop (thn (ho pins s σ H _ I h) fun u s1 ⟨x, H1, I1, rx, a, ex, d, q1⟩ => ?_)
  subst ex
  obtain rfl : u = Value.ref a := rx
  obtain ⟨t1, t2, _⟩ := isD_at I1 d
  refine ⟨t1, t2, ?_⟩
  rw [m.trees]
  refine Calls.callWith_builtin rfl (Calls.evalArgs_plain (Calls.spliced_cons (thn (he pins s1 σ H1 _ I1 q1) fun iv s2 ⟨y, H2, I2, ry, kvs, k, v, ea, ey, l, q2⟩ => Calls.spliced_nil ?_)))
  subst ey
  exact d_pop I2 ea ry l (.inl rfl) fun w' s3 I3 rw' => ⟨v, _, I3, rw', q2⟩
theorem pe_dpop2 (ho : PE X o td) (he : PE X e ty) (hf : PE X f tx) (m : M2 X o "pop" apos e f cpos) : PE X (.Call (.Attribute o "pop" apos) [e, f] [] cpos) (tDPop2 td ty tx) := by
  intro pins s σ H Q I h
  refine wpAny_Call_method m.base m.few m.line PySem.F.plainAttrs_dict PySem.F.slot_dict_pop PySem.F.type_dict_pop (thn (ho pins s σ H _ I h) fun u s1 ⟨x, H1, I1, rx, a, ex, d, q1⟩ => ?_)
  subst ex
  obtain rfl : u = Value.ref a := rx
  obtain ⟨t1, t2, _⟩ := isD_at I1 d
  refine ⟨t1, t2, ?_⟩
  rw [m.trees]
  refine Calls.callWith_builtin rfl (Calls.evalArgs_plain (Calls.spliced_cons (thn (he pins s1 σ H1 _ I1 q1) fun iv s2 ⟨y, H2, I2, ry, q2⟩ =>
    Calls.spliced_cons (thn (hf pins s2 σ H2 _ I2 q2) fun fv s3 ⟨z, H3, I3, rz, kvs, k, ea, ey, q3, q4⟩ => Calls.spliced_nil ?_))))
  subst ey
  cases l : valV kvs k with
  | some v => exact d_pop I3 ea ry l (.inr ⟨fv, rfl⟩) fun w' s4 I4 rw' => ⟨v, _, I4, rw', q3 v l⟩
  | none => exact d_popD I3 ea ry l fun s4 I4 => ⟨z, H3, I4, rz, q4 l⟩
end

/-! ### dict(d): a copy -/
section
variable {X : Cx} {pins : List (Addr × Obj)} {σ : St} {H : Hp} {s : Shared} {a : Addr} {kvs : List (Key × V)} {A : Around} {E : Value → Shared → Prop}
theorem d_copyOf {Q : Value → Shared → Prop} (I : Inv X pins σ H s) (e : Rd H a (.dK kvs)) (h : ∀ p s', H p = none → Inv X pins σ (upd H p (.dK kvs)) s' → Q (.ref p) s') : wpAny (model X.prog X.w) A (call (.type "dict") [.ref a]) Q E s := by
  obtain ⟨z, hd, vs, rel, dd⟩ := dk_rd I.hok e
  refine kt_call_dict hd dd (by rw [← rel.length]; exact z) fun h' dd' hs => ?_
  refine h _ _ (I.hok.fresh (Nat.le_refl _)) (I.laid (a := s.heap.objs.size) (o := .dK kvs) (t' := s.toks) (fun b q hq => ?_) (Nat.le_refl _) (dk_new z (beq_eq_false_iff_ne.mpr (Ne.symm (Nat.ne_of_lt I.big))) rel dd'))
  exact (hs.2 b (Nat.ne_of_lt (Heap.lt_size hq))).trans (Heap.get?_push_of_some _ hq)
end


section
variable {X : Cx} {pins : List (Addr × Obj)} {σ : St} {H : Hp} {s : Shared} {a : Addr} {y : V} {u : Value} {A : Around} {E : Value → Shared → Prop}
/-- d[y], not there: a KeyError -/
theorem d_missing {Q : Value → Shared → Prop} (hu : A.units + 1 < cLine) (hh : A.handled = none) (I : Inv X pins σ H s) (g : DGet H a y none) (ry : RelV y u)
    (h : ∀ h' e t', Heap.NewExc s.heap h' e "KeyError" → E (.ref e) { s with heap := h', toks := t' }) : wpAny (model X.prog X.w) A (getItem (.ref a) u) Q E s := by
  rcases g with ⟨kvs, k, e, ey, l⟩ | ⟨kvs, k, b, e, ey, eb, l⟩
  · subst ey
    obtain ⟨z, hd, vs, rel, dd⟩ := dk_rd I.hok e
    have hn : valueAt vs k = none := RelO.none_of (by rw [l]; exact rel.val k)
    exact wpAny_getItem_missing_of (kV_is ry) hd hh dd.mapOf hn fun h' ex ne => h h' ex _ ne
  · subst ey
    cases (show u = Value.ref b from ry)
    obtain ⟨z, hd, xs, rel, dd⟩ := dt_rd I.hok e
    have hn : (atKey xs k).map (·.2) = none := RelO.none_of (by rw [l]; exact rel.val k)
    exact wpAny_getItem_missing_heap (tupleKind_room_in1 hu) (key_of I.hok eb) hd hh dd (Option.map_eq_none_iff.mp hn) fun h' ex ne => h h' ex _ ne
end
end L2

namespace L2
open PySem PySem.Spec PyProof.Rows

theorem list_keys_none : typeLookup (.type "list") "keys" = pure none := am_miss_of_fast (by first | decide +kernel | rfl)
theorem ud_entry : entryFor table "dict.update.loop" = some Builtin.«dict.update.loop» := entryFor_of_tree (by kernel_rfl)
theorem ud_plain : plainId "dict.update.loop" = true := by decide +kernel

section
variable {prog : Program} {w : World} {A : Around} {E : Value → Shared → Prop}
/-- a list has no attribute 'keys': an AttributeError is made, and forgotten -/
theorem miss_list {s : Shared} {a : Addr} {o : Obj} {xs : Array Value} {k : Nat} {Q : Option Value → Shared → Prop} (hx : s.heap.get? a = some o) (hc : o.cls = .type "list") (hdat : o.data = .seq xs k) (hd : o.dict = none) (hA : A.handled = none)
    (h : ∀ h' tk, (∀ b ob, s.heap.get? b = some ob → h'.get? b = some ob) → Q none { s with heap := h', toks := tk }) : wpAny (model prog w) A (getAttr? (.ref a) "keys") Q E s := by
  obtain ⟨c, dct, dat, sl⟩ := o
  simp only at hc hdat hd
  subst hc hdat hd
  obtain ⟨hp, g, d, tk, os⟩ := s
  have hT : ∀ tk', (⟨hp, g, d, tk', os⟩ : Shared).TypeIs (.ref a) "list" := fun _ => ⟨_, hx, rfl⟩
  have hmiss := list_keys_none
  have hname : (["__module__", "__name__", "__qualname__", "__doc__", "__annotations__"] : List Str).contains "keys" = false := by decide +kernel
  have hsz : ("keys" : Str).length + 100 ≤ sizeLine := by first | size_fits | decide +kernel
  have f1 := sub_AttributeError
  have f3 := PySem.F.slot_list_getattribute.lookup
  have f4 := PySem.F.slot_list_getattribute.bind (.ref a)
  have f5 := am_list_getattr_none
  unfold getAttr? getAttrBy? getAttrBy
  repeat (any_goals (first | assumption | exact hT _ | ((with_reducible show wpAny _ _ (call (Value.builtin "list.__getattribute__") _ _) _ _ _); refine call_meets PySem.F.slot_list_getattribute (hT _) am_entry_list_getattribute (PySem.F.args_list_getattribute_2 _ _) (meets_getattribute_miss_list a xs k sl "keys" _ hmiss hname hsz) ⟨hx, hA, fun h' tk' e hx' => ?_⟩) | wp_step))
  obtain ⟨t', u', he⟩ := hx'.there
  show wpAny _ _ (getattributeRaised _ _ _ _ _ _ _) _ _ _
  unfold getattributeRaised
  repeat (any_goals (first | assumption | wp_step))
  all_goals first | exact h _ _ hx'.keeps | (dsimp only; repeat (any_goals (first | assumption | exact h _ _ hx'.keeps | wp_step)))

/-- the walk over the pairs -/
theorem upd_loop {R : Result → Shared → Prop} {S I l : Addr} {items : Array Value} {res : Value} (hh : A.handled = none) (hlI : l ≠ I) (hSI : S ≠ I) (hSl : S ≠ l) :
    ∀ (rest : List (Key × Value)) (i : Nat) (acc : List (Key × Value)) (ix : Int) (t : Tok) (s : Shared), items.size = i + rest.length → acc.length + rest.length ≤ sizeLine →
      (∀ (j : Nat) (q : Key × Value), rest[j]? = some q → ∃ (b : Addr) (u : Value), items[i + j]? = some (.ref b) ∧ b ≠ S ∧ b ≠ I ∧ IsTup s.heap b #[u, q.2] ∧ keyIs q.1 u = true) →
      s.heap.IsListIter I l i → s.heap.IsList l items → s.heap.DictOf (mixKind prog w) S acc →
      (∀ h' tk, h'.DictOf (mixKind prog w) S (merged acc rest) → (∀ b o, b ≠ S → b ≠ I → s.heap.get? b = some o → h'.get? b = some o) → R (.ok (.ret res)) { s with heap := h', toks := tk }) →
      codeAny (model prog w) A (.builtin "dict.update.loop" ⟨[.ref S, .ref I, .int ix t, res], []⟩) R s
  | [], i, acc, ix, t, s, hsz, hln, ht, hit, hl, hm, hR => by
    refine codeAny_builtin ud_entry ?_
    rw [Around.under_plainId ud_plain _]
    show wpAny _ A.in1 (pyNext (.ref I) >>= _) _ _ s
    refine wpAny_bind (wpAny_pyNext_list_end (A := A.in1) hh hit hl (by first | exact Array.getElem?_eq_none (Nat.le_of_eq hsz) | (simp at hsz; simp; omega)) fun h' he => ?_)
    show wpAny _ A.in1 (Builtin.Dict.addKeywords S [] >>= _) _ _ _
    refine wpAny_bind (wpAny_pure (wpAny_pure ?_))
    exact hR h' s.toks (hm.extBut he hSI) fun b o _ hb e => he b o hb e
  | q :: rest, i, acc, ix, t, s, hsz, hln, ht, hit, hl, hm, hR => by
    obtain ⟨b, u, hb, hbS, hbI, htup, hk⟩ := ht 0 q rfl
    rw [List.length_cons] at hsz hln
    refine codeAny_builtin ud_entry ?_
    rw [Around.under_plainId ud_plain _]
    show wpAny _ A.in1 (pyNext (.ref I) >>= _) _ _ s
    refine wpAny_bind (wpAny_pyNext_list_item (x := .ref b) hit hl (by simpa using hb) fun h1 hit1 hs1 => ?_)
    have ht1 : IsTup h1 b #[u, q.2] := htup.extBut hs1.extBut hbI
    have hl1 : h1.IsList l items := hl.extBut hs1.extBut hlI
    have hm1 : h1.DictOf (mixKind prog w) S acc := hm.extBut hs1.extBut hSI
    obtain ⟨o, ho, hc, n, hd⟩ := id ht1
    show wpAny _ A.in1 (holding [Value.ref b] _ >>= _) _ _ _
    refine wpAny_bind (wpAny_holding ?_)
    refine wpAny_bind (wpAny_tryCatch ?_)
    unfold Builtin.Dict.pairItems
    refine wpAny_bind (wpAny_typeOf (T := "tuple") ⟨o, ho, hc⟩ ?_)
    rw [if_pos (by first | decide | rfl | simp)]
    refine wpAny_bind (wpAny_seqItems ho hd (wpAny_pure ?_))
    show wpAny _ A.in1 (holding [u, q.2] (dictSet S u q.2)) _ _ _
    refine wpAny_holding (wpAny_dictSet_pairs (knd := mixKind prog w) (k := q.1) hk hm1 (fun h2 hm2 hs2 => ?_) (by omega))
    refine wpAny_pure ⟨plainId_quiet ud_plain _, upd_loop (items := items) hh hlI hSI hSl rest (i + 1) (stored acc q.1 q.2) (ix + 1) 0 _ (show items.size = i + 1 + rest.length by omega) ?_ (fun j q' e => ?_) ?_ ?_ hm2 fun h' tk hd' k => ?_⟩
    · have z := stored_length_le acc q.1 q.2
      omega
    · obtain ⟨b', u', hb', hbS', hbI', htup', hk'⟩ := ht (j + 1) q' (by simpa using e)
      refine ⟨b', u', ?_, hbS', hbI', (htup'.extBut hs1.extBut hbI').extBut hs2.extBut hbS', hk'⟩
      rw [show i + 1 + j = i + (j + 1) by omega]
      exact hb'
    · exact hit1.at fun o' e => hs2.extBut I o' (Ne.symm hSI) e
    · exact hl1.extBut hs2.extBut (Ne.symm hSl)
    · exact hR h' tk hd' fun c oc h3 h4 e => k c oc h3 h4 (hs2.extBut c oc h3 (hs1.extBut c oc h4 e))

/-- dict(l) of a list of pairs -/
theorem call_dict_pairs {s : Shared} {l : Addr} {ol : Obj} {items : Array Value} {n : Nat} {prs : List (Key × Value)} {Q : Value → Shared → Prop} (hh : A.handled = none) (hl : s.heap.get? l = some ol) (hc : ol.cls = .type "list") (hd : ol.dict = none)
    (hdat : ol.data = .seq items n) (hsz : items.size = prs.length) (hln : prs.length ≤ sizeLine)
    (ht : ∀ (j : Nat) (q : Key × Value), prs[j]? = some q → ∃ (b : Addr) (u : Value), items[j]? = some (.ref b) ∧ IsTup s.heap b #[u, q.2] ∧ keyIs q.1 u = true)
    (h : ∀ h' tk, h'.DictOf (mixKind prog w) s.heap.objs.size (merged [] prs) → (∀ b o, s.heap.get? b = some o → h'.get? b = some o) → Q (.ref s.heap.objs.size) { s with heap := h', toks := tk }) :
    wpAny (model prog w) A (call (.type "dict") [.ref l]) Q E s := by
  refine callType_codes (Q₁ := fun obj s₁ => obj = .ref s.heap.objs.size ∧ s₁ = { s with heap := s.heap.push { cls := .type "dict", data := .dict #[] } }) PySem.F.kt_called_dict (PySem.F.kt_typeCall_dict_1 _) PySem.F.entry_dict_init (kt_code_dict_new _ ⟨rfl, rfl⟩) ?_
  rintro obj s₁ ⟨rfl, rfl⟩
  have hnew : (s.heap.push { cls := .type "dict", data := .dict #[] }).DictOf (mixKind prog w) s.heap.objs.size [] := Heap.DictOf.new s.heap
  have k0 : ∀ b o, s.heap.get? b = some o → (s.heap.push { cls := .type "dict", data := .dict #[] }).get? b = some o := fun b o e => Heap.get?_push_of_some _ e
  refine ⟨hnew.typeIs, PySem.F.args_dict_init_2 _ _, ?_⟩
  unfold Builtin.«dict.__init__»
  refine wpAny_bind ?_
  unfold Builtin.Dict.selfAndRest
  refine wpAny_bind (wpAny_notOrdered_dict hnew.typeIs ?_)
  show wpAny _ _ (pure (s.heap.objs.size, [Value.ref l])) _ _ _
  refine wpAny_pure ?_
  show wpAny _ _ (Builtin.Dict.updateFrom "dict.__init__" s.heap.objs.size (.ref l) [] .none) _ _ _
  unfold Builtin.Dict.updateFrom
  refine wpAny_bind (wpAny_typeOf (T := "list") ⟨ol, k0 _ _ hl, hc⟩ ?_)
  rw [if_pos (by first | decide | rfl | simp)]
  refine wpAny_bind (miss_list (k0 _ _ hl) hc hdat hd hh fun h1 tk1 hk1 => ?_)
  rw [if_pos (show (none : Option Value).isNone = true from rfl)]
  refine wpAny_bind (wpAny_rule ?_)
  have hl1 : h1.IsList l items := ⟨ol, hk1 _ _ (k0 _ _ hl), hc, n, hdat⟩
  have hS1 : s.heap.objs.size < h1.objs.size := by
    have e : (s.heap.push { cls := .type "dict", data := .dict #[] }).get? s.heap.objs.size = some { cls := .type "dict", data := .dict #[] } := Heap.get?_push_size _ rfl
    exact Heap.lt_size (hk1 _ _ e)
  refine wpAny_bind (wpAny_pyIter_list hl1 ?_)
  have k2 : ∀ b o, h1.get? b = some o → (h1.push { cls := .type "list_iterator", data := .fields #[.ref l, .int 0 0] }).get? b = some o := fun b o e => Heap.get?_push_of_some _ e
  have hlt : l < s.heap.objs.size := Heap.lt_size hl
  have key := upd_loop (prog := prog) (w := w) (A := A.in1) (R := wants (fun r s₂ => r = .none ∧ Q (.ref s.heap.objs.size) s₂) E) (S := s.heap.objs.size) (I := h1.objs.size) (l := l) (items := items) (res := Value.none) hh
    (Nat.ne_of_lt (Nat.lt_trans hlt hS1)) (Nat.ne_of_lt hS1) (Nat.ne_of_gt hlt) prs 0 [] 0 0
    { s with heap := h1.push { cls := .type "list_iterator", data := .fields #[.ref l, .int 0 0] }, toks := tk1 } (by rw [hsz, Nat.zero_add]) (by rw [List.length_nil, Nat.zero_add]; exact hln)
    (fun j q e => by
      obtain ⟨b, u, e1, e2, e3⟩ := ht j q e
      have hb : b < s.heap.objs.size := e2.lt
      exact ⟨b, u, by rw [Nat.zero_add]; exact e1, Nat.ne_of_lt hb, Nat.ne_of_lt (Nat.lt_trans hb hS1), e2.keeps fun c o z => k2 _ _ (hk1 _ _ (k0 _ _ z)), e3⟩)
    ⟨_, Heap.get?_push_size _ rfl, rfl, rfl⟩ (hl1.at fun o e => k2 _ _ e) ((hnew.at fun o e => hk1 _ _ e).at fun o e => k2 _ _ e)
    (fun h' tk hd' k => ⟨rfl, h h' tk hd' fun b o e => k b o (Nat.ne_of_lt (Heap.lt_size e)) (Nat.ne_of_lt (Nat.lt_trans (Heap.lt_size e) hS1)) (k2 _ _ (hk1 _ _ (k0 _ _ e)))⟩)
  first
    | exact wpAny_pure ⟨plainId_quiet ud_plain _, key⟩
    | exact wpAny_bind (wpAny_pure (wpAny_pure ⟨plainId_quiet ud_plain _, key⟩))
end

section
variable {X : Cx}
theorem pairs_of {pins : List (Addr × Obj)} {σ : St} {H : Hp} {s : Shared} (I : Inv X pins σ H s) : ∀ {ps : List Addr} {kvs : List (Key × V)}, Paired (fun p kv => SqT X.K H p [kV kv.1, kv.2]) ps kvs →
    ∃ prs : List (Key × Value), KV kvs prs ∧ prs.length = ps.length ∧ ∀ (j : Nat) (q : Key × Value), prs[j]? = some q → ∃ (b : Addr) (u : Value), ps[j]? = some b ∧ IsTup s.heap b #[u, q.2] ∧ keyIs q.1 u = true
  | _, _, .nil => ⟨[], .nil, rfl, fun j q e => by simp at e⟩
  | _, _, .cons (a := p) (b := kv) h t => by
    obtain ⟨prs, r, hl, hp⟩ := pairs_of I t
    obtain ⟨its, rv, ht, _⟩ := I.tuple h
    obtain ⟨u, y, ei, ru, ry⟩ := vals2 rv
    subst ei
    refine ⟨(kv.1, y) :: prs, .cons ⟨rfl, ry⟩ r, by rw [List.length_cons, List.length_cons, hl], fun j q e => ?_⟩
    cases j with
    | zero =>
      have e' : (kv.1, y) = q := Option.some.inj e
      subst e'
      exact ⟨p, u, rfl, ht, kV_is (P := X.prog) (w := X.w) ru⟩
    | succ j =>
      obtain ⟨b, u', e1, e2, e3⟩ := hp j q (by simpa using e)
      exact ⟨b, u', by simpa using e1, e2, e3⟩
theorem refs_at : ∀ {ps : List Addr} {us : List Value}, Vals (ps.map V.ref) us → us = ps.map Value.ref
  | [], us, r => by
    rw [List.map_nil] at r
    cases r
    rfl
  | p :: ps, us, r => by
    rw [List.map_cons] at r
    cases r with
    | cons h t =>
      cases h
      rw [List.map_cons, ← refs_at t]
/-- dict(xs) of a list of pairs (key, value): later pairs win, the place is the first one's -/
theorem call_dictP (hcalm : X.calm = true) : CallR X (.type "dict") (fun xs H Q => ∃ (a : Addr) (ps : List Addr) (kvs : List (Key × V)), xs = [.ref a] ∧ SqL X.K H a (ps.map V.ref) ∧ Paired (fun p kv => SqT X.K H p [kV kv.1, kv.2]) ps kvs ∧
    ∀ p, H p = none → Q (.ref p) (upd H p (.dK (mergeK [] kvs)))) := by
  intro pins s σ H xs us Q I r q
  obtain ⟨a, ps, kvs, ex, hq, hp, q⟩ := q
  subst ex
  obtain ⟨u, eu, rx⟩ := vals1 r
  subst eu
  cases rx
  obtain ⟨its, rv, pl, hz⟩ := I.list hq
  have ei := refs_at rv
  subst ei
  rw [List.length_map] at hz
  obtain ⟨prs, rel, hl, hpr⟩ := pairs_of I hp
  obtain ⟨o, n, ho, hc, hd, hdat⟩ := pl
  refine call_dict_pairs (prs := prs) (I.ok.hd hcalm) ho hc hd hdat (by simp [hl]) (by rw [hl]; exact hz) (fun j q' e => ?_) fun h' tk hd' k => ?_
  · obtain ⟨b, u, e1, e2, e3⟩ := hpr j q' e
    exact ⟨b, u, by simp [e1], e2, e3⟩
  · have hm : (s.heap.objs.size == sysModules) = false := beq_eq_false_iff_ne.mpr (Nat.ne_of_gt I.big)
    have hlen : (mergeK [] kvs).length ≤ sizeLine := by
      refine Nat.le_trans (length_mergeK kvs []) ?_
      rw [List.length_nil, Nat.zero_add, rel.length, hl]
      exact hz
    exact ⟨.ref s.heap.objs.size, upd H s.heap.objs.size (.dK (mergeK [] kvs)), I.laid (t' := tk) k (Nat.le_refl _) (show ObjOk X.prog X.w _ _ _ (.dK (mergeK [] kvs)) from ⟨hlen, hm, merged [] prs, KV.merge rel .nil, hd'⟩), rfl, q _ (I.hok.fresh (Nat.le_refl _))⟩
end
end L2

namespace L2
open PySem PySem.Spec PyProof.Rows

theorem boot_reversed5 : bootBuiltins "reversed" = some (.type "reversed") := by decide +kernel

section
variable {X : Cx} {pins : List (Addr × Obj)} {σ : St} {H : Hp} {s : Shared} {h' : Heap}
/-- several records of ours have turned -/
theorem Inv.turnedL {t' : Nat} {ch : List Addr} (I : Inv X pins σ H s) (k : ∀ b o, b ∉ ch → s.heap.get? b = some o → h'.get? b = some o) (hf : ∀ b ∈ ch, FpOk X pins H b) : Inv X pins σ H { s with heap := h', toks := t' } := by
  have nit : ∀ b u, H b = some u → b ∉ ch := fun b u e z => by
    have q := (hf b z).1
    rw [q] at e; cases e
  refine I.step (g' := s.gens) (d' := s.drawn) (ch := ch) (fun b hb => ⟨(hf b hb).2.2.2.1, (hf b hb).2.1, (hf b hb).2.2.2.2.1, (hf b hb).2.2.2.2.2⟩) (fun b o _ _ hc e _ => k b o hc e) (fun b o _ _ hc e _ => ⟨o.slots, k b o hc e⟩)
    (fun _ _ _ _ n => n) (fun b o hc e => ⟨o, k b o hc e⟩) (fun _ _ e => e) (fun _ _ _ e => e) (fun b ps e => ⟨#[], by rw [e]; simp⟩) (fun m hm => ?_) (fun b u e => ?_) I.bare
  · obtain ⟨o, es, ep, ho, r⟩ := hm
    exact ⟨o, es, ep, k _ o (fun z => (hf _ z).2.1 rfl) ho, r⟩
  · refine (I.hok b u e).stay (fun c v hc q => k c v ?_ q) (fun _ q => q) fun _ _ q => q
    rcases hc with z | z
    · rw [z]; exact nit b u e
    · exact nit c _ z
/-- .. and one new object is laid -/
theorem Inv.turnedNew {t' : Nat} {ch : List Addr} {T : Addr} {ob : HO} (I : Inv X pins σ H s) (k : ∀ b o, b ∉ ch → s.heap.get? b = some o → h'.get? b = some o) (hf : ∀ b ∈ ch, FpOk X pins H b) (hT : s.heap.objs.size ≤ T)
    (new : ObjOk X.prog X.w (upd H T ob) h' T ob) : Inv X pins σ (upd H T ob) { s with heap := h', toks := t' } := by
  have hn : H T = none := I.hok.fresh hT
  have nit : ∀ b u, H b = some u → b ∉ ch := fun b u e z => by
    have q := (hf b z).1
    rw [q] at e; cases e
  refine I.step (g' := s.gens) (d' := s.drawn) (ch := ch) (fun b hb => ⟨(hf b hb).2.2.2.1, (hf b hb).2.1, (hf b hb).2.2.2.2.1, (hf b hb).2.2.2.2.2⟩) (fun b o _ _ hc e _ => k b o hc e) (fun b o _ _ hc e _ => ⟨o.slots, k b o hc e⟩)
    (fun b o _ e n => ?_) (fun b o hc e => ⟨o, k b o hc e⟩) (fun b xs e => ?_) (fun b o u e => ?_) (fun b ps e => ⟨#[], ?_⟩) (fun m hm => ?_) (fun b u e => ?_) I.bare
  · rw [upd_ne (Nat.ne_of_lt (Nat.lt_of_lt_of_le (Heap.lt_size e) hT))]; exact n
  · rw [upd_ne (ne_of_none e hn)]; exact e
  · rw [upd_ne (ne_of_none e hn)]; exact e
  · rw [upd_ne (ne_of_none e hn), e]; simp
  · obtain ⟨o, es, ep, ho, r⟩ := hm
    exact ⟨o, es, ep, k _ o (fun z => (hf _ z).2.1 rfl) ho, r⟩
  · by_cases hb : b = T
    · subst hb
      rw [upd_same] at e
      cases e
      exact new
    · rw [upd_ne hb] at e
      refine (I.hok b u e).stay (fun c v hc q => k c v ?_ q) (fun c q => by rw [upd_ne (ne_of_none q hn)]; exact q) fun c xs q => by rw [upd_ne (ne_of_none q hn)]; exact q
      rcases hc with z | z
      · rw [z]; exact nit b u e
      · exact nit c _ z

/-! ### locking a thing while a statement runs -/
theorem Inv.lock {d : Addr} {u : HO} (I : Inv X pins σ H s) (h : H d = some u) (mu : Mut (some u)) : ∃ od, Inv X pins σ (upd H d (.frz od u)) s := by
  have x := I.hok d u h
  have ex : ∃ od, s.heap.get? d = some od := by
    cases u with
    | lst xs => obtain ⟨_, _, _, _, e⟩ := x; exact ⟨_, e⟩
    | dK kvs => obtain ⟨_, _, _, _, o, _, _, e, _⟩ := x; exact ⟨o, e⟩
    | dT kvs => obtain ⟨_, _, _, _, o, _, _, e, _⟩ := x; exact ⟨o, e⟩
    | set S n => obtain ⟨o, _, _, _, e, _⟩ := x; exact ⟨o, e⟩
    | ins C dx fs => obtain ⟨_, _, _, e, _⟩ := x; exact ⟨_, e⟩
    | ext φ => obtain ⟨_, ⟨_, e⟩, _⟩ := x; exact ⟨_, e⟩
    | _ => exact False.elim mu
  obtain ⟨od, e⟩ := ex
  have new : ObjOk X.prog X.w (upd H d (.frz od u)) s.heap d (.frz od u) := by
    refine ⟨e, x.stay (fun b v _ q => q) (fun b q => ?_) fun b xs q => ?_⟩
    · rw [upd_ne (fun z => by rw [z, h] at q; cases q; exact mu)]; exact q
    · rw [upd_ne (fun z => by rw [z, h] at q; cases q; exact mu)]; exact q
  exact ⟨od, I.write (x := d) (e := d) (t' := s.toks) (h' := s.heap) (by rw [h]; exact mu) (.inl rfl) (fun b v _ q => q) ⟨od, e⟩ new⟩
theorem Inv.nofrz {d : Addr} {u : HO} (I : Inv X pins σ H s) (h : H d = some u) (mu : Mut (some u)) : ∀ o' u', X.H_0 d ≠ some (.frz o' u') := fun o' u' e => by
  have q := I.base.frzs d o' u' e
  rw [h] at q
  cases q
  exact mu
theorem Inv.unlock {d : Addr} {od : Obj} {u : HO} (I : Inv X pins σ H s) (h : H d = some (.frz od u)) (hn : ∀ o' u', X.H_0 d ≠ some (.frz o' u')) : Inv X pins σ (upd H d u) s := by
  have neH : ∀ b o, H b = some o → (∀ o' u', o ≠ .frz o' u') → b ≠ d := fun b o e hne z => by
    rw [z, h] at e
    cases e
    exact hne _ _ rfl
  have neN : ∀ b, H b = none → b ≠ d := fun b e z => by rw [z, h] at e; cases e
  refine ⟨I.ok, I.os, I.bare, ⟨I.base.keep, I.base.slot, fun b o e n hx => ?_, I.base.there, fun b xs e => ?_, fun b o x e => ?_, fun b ps e => ?_⟩, I.loc, I.cell, ?_, fun x c e => ?_, fun p hp => ?_, fun b o e => ?_, I.len⟩
  · rw [upd_ne (neN b (I.base.free b o e n hx))]; exact I.base.free b o e n hx
  · have q := I.base.tups b xs e
    rw [upd_ne (neH b _ q (fun _ _ z => nomatch z))]; exact q
  · have q := I.base.frzs b o x e
    rw [upd_ne (fun z => by rw [z] at e; exact hn _ _ e)]; exact q
  · obtain ⟨m, q⟩ := I.base.tbls b ps e
    exact ⟨m, by rw [upd_ne (neH b _ q (fun _ _ z => nomatch z))]; exact q⟩
  · rw [upd_ne (neN _ I.free)]; exact I.free
  · rw [upd_ne (neN c (I.freeC x c e))]; exact I.freeC x c e
  · obtain ⟨e, n, r⟩ := I.pin p hp
    exact ⟨e, by rw [upd_ne (neN _ n)]; exact n, r⟩
  · by_cases hb : b = d
    · rw [hb, upd_same] at e
      cases e
      rw [hb]
      obtain ⟨_, x⟩ := I.hok d _ h
      exact x.stay (fun c v _ q => q) (fun c q => by rw [upd_ne (neH c _ q (fun _ _ z => nomatch z))]; exact q) fun c xs q => by rw [upd_ne (neH c _ q (fun _ _ z => nomatch z))]; exact q
    · rw [upd_ne hb] at e
      exact (I.hok b o e).stay (fun c v _ q => q) (fun c q => by rw [upd_ne (neH c _ q (fun _ _ z => nomatch z))]; exact q) fun c xs q => by rw [upd_ne (neH c _ q (fun _ _ z => nomatch z))]; exact q
end
/-- the statement runs while the thing at d is locked (read, not written); d and what stands there are the reading's choice -/
def tLock (t : TS) : TS := fun D σ H => ∃ d u, H d = some u ∧ Mut (some u) ∧ ∀ od, t ⟨fun σ' H' => H' d = some (.frz od u) ∧ D.nx σ' (upd H' d u), fun v H' => H' d = some (.frz od u) ∧ D.rt v (upd H' d u), fun σ' H' => H' d = some (.frz od u) ∧ D.bk σ' (upd H' d u), fun σ' H' => H' d = some (.frz od u) ∧ D.ct σ' (upd H' d u)⟩ σ (upd H d (.frz od u))
def tLockE (t : TE) : TE := fun σ H Q => ∃ d u, H d = some u ∧ Mut (some u) ∧ ∀ od, t σ (upd H d (.frz od u)) fun v H' => H' d = some (.frz od u) ∧ Q v (upd H' d u)
section
variable {X : Cx}
theorem ps_lock {st : Stmt} {t : TS} (h : PS X st t) : PS X st (tLock t) := by
  intro pins s σ H D I hw
  obtain ⟨d, u, hd, mu, hw⟩ := hw
  obtain ⟨od, I1⟩ := I.lock hd mu
  refine thn (h pins s σ _ _ I1 (hw od)) fun f s1 q => ?_
  cases f with
  | next => obtain ⟨σ', H', I2, e, q⟩ := q; exact ⟨σ', _, I2.unlock e (I.nofrz hd mu), q⟩
  | brk => obtain ⟨σ', H', I2, e, q⟩ := q; exact ⟨σ', _, I2.unlock e (I.nofrz hd mu), q⟩
  | cont => obtain ⟨σ', H', I2, e, q⟩ := q; exact ⟨σ', _, I2.unlock e (I.nofrz hd mu), q⟩
  | ret v => obtain ⟨x, σ', H', I2, r, e, q⟩ := q; exact ⟨x, σ', _, I2.unlock e (I.nofrz hd mu), r, q⟩
theorem pe_lock {e : Expr} {t : TE} (h : PE X e t) : PE X e (tLockE t) := by
  intro pins s σ H Q I hw
  obtain ⟨d, u, hd, mu, hw⟩ := hw
  obtain ⟨od, I1⟩ := I.lock hd mu
  refine thn (h pins s σ _ _ I1 (hw od)) fun v s1 ⟨x, H1, I2, r, e2, q⟩ => ?_
  exact ⟨x, _, I2.unlock e2 (I.nofrz hd mu), r, q⟩

/-! ### one iterator just laid -/
theorem pi_one {tg : Expr} {pins : List (Addr × Obj)} {σ : St} {H : Hp} {s : Shared} {R : It → Hp → Prop} {J : It} {tn : Nat → Heap → Prop} {tk : Nat} (I : Inv X pins σ H s) (o : Obj)
    (T : Turn X.prog X.w X.K tg J [s.heap.objs.size] s.heap.objs.size tn) (st : tn 0 (s.heap.push o)) (q : R J H) : PIE X pins σ tg R (.ref s.heap.objs.size) { s with heap := s.heap.push o, toks := tk } := by
  refine ⟨s.heap.objs.size, [s.heap.objs.size], tn, J, H, rfl, I.kept fun b ob e => Heap.get?_push_of_some _ e, T, st, fun b hb => ?_, q⟩
  have e : b = s.heap.objs.size := by simpa using hb
  subst e
  exact I.fpOk (Nat.le_refl _) (I.hok.fresh (Nat.le_refl _))
end

/-! ### range with a step -/
/-- lo, lo + c, .. (n of them) -/
def Itc (lo c : Int) (n : Nat) : It := ⟨fun i _ => i < n, fun i H x H' => H' = H ∧ x = .int (lo + (i : Nat) * c), fun i _ => n ≤ i⟩
theorem turn_rangeC {P : Program} {w : World} {K : PySem.W.Frag} {tg : Expr} (it : Addr) (lo c : Int) (n : Nat) : Turn P w K tg (Itc lo c n) [it] it (fun i h => IsRangeIter h it (lo + (i : Nat) * c) ((n : Int) - (i : Nat)) c) where
  mem := by simp
  obj := fun i h st b hb => by
    have e : b = it := by simpa using hb
    subst e
    exact ⟨_, st, fun v z => nomatch z⟩
  keep := fun i h h' st k => k it (by simp) _ st
  item := by
    intro X hP hw hK hc i pins s σ H E I hf st hg
    subst hP hw hK
    obtain ⟨f0, f1, f2, f3, f4, f5⟩ := hf it (by simp)
    have W := Walks.range (prog := X.prog) (w := X.w) (I.ok.hd hc) it lo c n
    refine W.item i s _ _ hg st fun v h' tk hv st' kk => ?_
    obtain ⟨t, rfl⟩ := hv
    have I1 : Inv X pins σ H { s with heap := h', toks := tk } := I.turned (fun b o hb e => kk b o (by simpa using hb) e) f0 f1 f3 f4 f5
    exact ⟨_, rfl, go_of (s := { s with heap := h', toks := tk }) (n := "range_iterator") st' rfl rfl (by decide) ⟨.int (lo + (i : Nat) * c), H, I1, ⟨t, rfl⟩, ⟨rfl, rfl⟩, st', fun b hb => (hf b hb).1⟩⟩
  done := by
    intro X hP hw hK hc i pins s σ H E I hf st hg
    subst hP hw hK
    obtain ⟨f0, f1, f2, f3, f4, f5⟩ := hf it (by simp)
    exact wpAny_pyNext_range_end (I.ok.hd hc) st (by have : n ≤ i := hg; omega) fun h' eb => ⟨rfl, I.turned (t' := s.toks) (fun b o hb e => eb b o hb e) f0 f1 f3 f4 f5⟩
  self := fun A i s Q E st h => wpAny_pyIter_rangeiter st h
/-- range(i, j, c): small bounds, n items -/
def RgC (i j c : Int) (n : Nat) : Prop := c ≠ 0 ∧ c.natAbs < 1073741824 ∧ Builtin.Range.small i j c = true ∧ Builtin.Range.rangeSize i j c = n
theorem RgC.neg {i j : Int} (ha : -(2 ^ 62) ≤ i) (ha' : i < 2 ^ 62) (hb : -(2 ^ 62) ≤ j) (hb' : j < 2 ^ 62) : RgC i j (-1) (i - j).toNat :=
  ⟨by decide, by decide, PySem.W.small_down ha ha' hb hb', PySem.W.rangeSize_downNat i j⟩
def iRng3 (ta : TA) : TI := fun σ H R => ta σ H fun vs H1 => ∃ (i j c : Int) (n : Nat), vs = [.int i, .int j, .int c] ∧ RgC i j c n ∧ R (Itc i c n) H1
section
variable {X : Cx} {tg : Expr}
theorem pi_range3 {a b c : Expr} {ta : TA} {p pos : Pos} (hg : Gl X "range") (hm : X.mg "range" = none) (ha : PA X [a, b, c] ta)
    (hs : starEach [a, b, c] X.env = (false, eval a X.env) :: starEach [b, c] X.env := by rfl) (hpl : (backTo pos (starEach [b, c] X.env)).any (·.1) = false := by rfl) :
    PI X tg (.Call (.Name "range" p) [a, b, c] [] pos) (iRng3 ta) := by
  intro pins s σ H R I h
  refine Call_ (ld_blt I hg hm boot_range (PyProof.Rows.callWith_type1 (thn (ha pos pins s σ H _ I h) fun us s1 ⟨vs, H1, I1, r1, q1⟩ => ?_) hs hpl))
  obtain ⟨i, j, k, n, e, ⟨c0, c1, c2, c3⟩, q⟩ := q1
  subst e
  cases r1 with
  | cons r rr =>
    cases rr with
    | cons r' rr =>
      cases rr with
      | cons r'' rr =>
        cases rr
        obtain ⟨t, rfl⟩ := r
        obtain ⟨t', rfl⟩ := r'
        obtain ⟨t'', rfl⟩ := r''
        refine call_range_3 c0 ?_ (.inl (PyProof.noPylong_small c1))
        refine wpAny_pyIter_range (IsRange.new ..) c2 ?_
        have I2 : Inv X pins σ H1 { s1 with heap := s1.heap.push { cls := .type "range", data := .fields #[.int i t, .int j t', .int k t''] } } := I1.kept (t' := s1.toks) fun b o e => Heap.get?_push_of_some _ e
        refine pi_one (tk := s1.toks) I2 _ (turn_rangeC _ i k n) ?_ q
        have e1 : i + ((0 : Nat) : Int) * k = i := by simp
        have e2 : (n : Int) - ((0 : Nat) : Int) = Builtin.Range.rangeSize i j k := by rw [c3]; simp
        show IsRangeIter _ _ (i + ((0 : Nat) : Int) * k) ((n : Int) - ((0 : Nat) : Int)) k
        rw [e1, e2]
        exact Heap.get?_push_size _ rfl
end
/-- the turns of a step range, for the for loop -/
theorem for_rangeC {lo c : Int} {n : Nat} {g : TG} {tb : TS} {D : Ends} {σ : St} {H : Hp} (Pv : Nat → St → Hp → Prop) (h0 : Pv 0 σ H)
    (hs : ∀ i σ H, i < n → Pv i σ H → g (.int (lo + (i : Nat) * c)) σ H fun σ2 H2 => tb { D with nx := Pv (i + 1), ct := Pv (i + 1), bk := D.nx } σ2 H2) (hd : ∀ σ H, Pv n σ H → D.nx σ H) :
    ∃ W : Nat → Nat → St → Hp → Prop, (∃ m, W 0 m σ H) ∧ ∀ i m σ H, W i m σ H →
      ((Itc lo c n).stop i H ∧ D.nx σ H) ∨ ((Itc lo c n).go i H ∧ ∃ N : St → Hp → Prop, (∀ σ' H', N σ' H' → ∃ m', m' < m ∧ W (i + 1) m' σ' H') ∧ ∀ x H', (Itc lo c n).yld i H x H' → g x σ H' fun σ2 H2 => tb { D with nx := N, ct := N, bk := D.nx } σ2 H2) := by
  refine ⟨fun i m σ H => m = n - i ∧ i ≤ n ∧ Pv i σ H, ⟨n, by simp, Nat.zero_le _, h0⟩, ?_⟩
  rintro i m σ H ⟨rfl, hi, p⟩
  by_cases hlt : i < n
  · refine .inr ⟨hlt, Pv (i + 1), fun σ' H' p' => ⟨n - (i + 1), by omega, rfl, hlt, p'⟩, fun x H' y => ?_⟩
    obtain ⟨e, y⟩ := y
    subst e y
    exact hs i σ _ hlt p
  · have e : i = n := by omega
    subst e
    exact .inl ⟨Nat.le_refl _, hd σ H p⟩

/-! ### reversed(list) -/
/-- the list at a (n items at the start, which the loop leaves there), from its end -/
def Itv (K : PySem.W.Frag) (a : Addr) (n : Nat) : It :=
  ⟨fun i H => i < n ∧ ∃ (xs : List V) (x : V), SqL K H a xs ∧ xs[n - 1 - i]? = some x, fun i H x H' => H' = H ∧ ∀ xs, SqL K H a xs → xs[n - 1 - i]? = some x, fun i _ => n ≤ i⟩
theorem turn_rev {P : Program} {w : World} {K : PySem.W.Frag} {tg : Expr} (a it : Addr) (n : Nat) : Turn P w K tg (Itv K a n) [it] it (fun i h => i ≤ n ∧ h.IsRevIter it a ((n : Int) - 1 - (i : Nat))) where
  mem := by simp
  obj := fun i h st b hb => by
    have e : b = it := by simpa using hb
    subst e
    obtain ⟨_, o, e, c, d⟩ := st
    exact ⟨o, e, fun v z => by rw [d] at z; cases z⟩
  keep := fun i h h' st k => ⟨st.1, st.2.at fun o e => k it (by simp) o e⟩
  item := by
    intro X hP hw hK hc i pins s σ H E I hf st hg
    subst hP hw hK
    obtain ⟨hin, xs, x, hq, hx⟩ := hg
    obtain ⟨its, rv, p, hz⟩ := I.list hq
    obtain ⟨u, hu, ru⟩ := rv.get hx
    obtain ⟨f0, f1, f2, f3, f4, f5⟩ := hf it (by simp)
    obtain ⟨_, hit⟩ := st
    have e1 : (n : Int) - 1 - ((i : Nat) : Int) = ((n - 1 - i : Nat) : Int) := by omega
    rw [e1] at hit
    refine wpAny_pyNext_rev_item hit p.isList (x := u) (by simpa using hu) fun h' st' sb => ?_
    have e2 : ((n - 1 - i : Nat) : Int) - 1 = (n : Int) - 1 - ((i + 1 : Nat) : Int) := by omega
    rw [e2] at st'
    have I1 : Inv X pins σ H { s with heap := h' } := I.turned (t' := s.toks) (fun b o hb e => (sb.2 b hb).trans e) f0 f1 f3 f4 f5
    obtain ⟨o, e, c, d⟩ := id st'
    exact ⟨u, rfl, go_of (s := { s with heap := h' }) e c d (by decide) ⟨x, H, I1, ru, ⟨rfl, fun ys hy => by rw [I.list_inj hy hq]; exact hx⟩, ⟨hin, st'⟩, fun b hb => (hf b hb).1⟩⟩
  done := by
    intro X hP hw hK hc i pins s σ H E I hf st hg
    subst hP hw hK
    obtain ⟨f0, f1, f2, f3, f4, f5⟩ := hf it (by simp)
    obtain ⟨hin, hit⟩ := st
    have hge : n ≤ i := hg
    have e1 : (n : Int) - 1 - ((i : Nat) : Int) = -1 := by omega
    rw [e1] at hit
    exact wpAny_pyNext_rev_end (I.ok.hd hc) hit fun h' eb => ⟨rfl, I.turned (t' := s.toks) (fun b o hb e => eb b o hb e) f0 f1 f3 f4 f5⟩
  self := fun A i s Q E st h => wpAny_pyIter_revIter st.2 h
def iRev (K : PySem.W.Frag) (ta : TA) : TI := fun σ H R => ta σ H fun vs H1 => ∃ (a : Addr) (xs : List V), vs = [.ref a] ∧ SqL K H1 a xs ∧ R (Itv K a xs.length) H1
section
variable {X : Cx} {tg : Expr}
theorem pi_reversed {e : Expr} {ta : TA} {p pos : Pos} (hg : Gl X "reversed") (hm : X.mg "reversed" = none) (ha : PA X [e] ta) (hs : starEach [e] X.env = [(false, eval e X.env)] := by rfl) : PI X tg (.Call (.Name "reversed" p) [e] [] pos) (iRev X.K ta) := by
  intro pins s σ H R I h
  refine Call_ (ld_blt I hg hm boot_reversed5 (PyProof.Rows.callWith_type1 (thn (ha pos pins s σ H _ I h) fun us s1 ⟨vs, H1, I1, r1, q1⟩ => ?_) hs rfl))
  obtain ⟨a, xs, e, hq, q⟩ := q1
  subst e
  cases r1 with
  | cons r rr =>
    cases rr
    cases r
    obtain ⟨its, rv, p', hz⟩ := I1.list hq
    have hl := rv.length
    have e1 : ((its.toArray.size : Nat) : Int) - 1 = (xs.length : Int) - 1 - ((0 : Nat) : Int) := by simp only [List.size_toArray]; omega
    refine call_reversed_list p'.isList (wpAny_pyIter_revIter (l := a) (i := ((its.toArray.size : Nat) : Int) - 1) ⟨_, Heap.get?_push_size _ rfl, rfl, rfl⟩ ?_)
    refine pi_one (tk := s1.toks) I1 _ (turn_rev a _ xs.length) ⟨Nat.zero_le _, ?_⟩ q
    rw [← e1]
    exact ⟨_, Heap.get?_push_size _ rfl, rfl, rfl⟩
end

/-! ### a str -/
def Its (x : Str) : It := ⟨fun i _ => i < x.cps.size, fun i H v H' => H' = H ∧ ∃ c, x.cps[i]? = some c ∧ v = .str ⟨#[c]⟩, fun i _ => x.cps.size ≤ i⟩
theorem turn_str {P : Program} {w : World} {K : PySem.W.Frag} {tg : Expr} (it : Addr) (x : Str) (t : Tok) (ty : String) (hty : ty = "str_ascii_iterator" ∨ ty = "str_iterator") :
    Turn P w K tg (Its x) [it] it (fun i h => h.IsStrIter it ty x t i) where
  mem := by simp
  obj := fun i h st b hb => by
    have e : b = it := by simpa using hb
    subst e
    obtain ⟨o, e, c, d⟩ := st
    exact ⟨o, e, fun v z => by rw [d] at z; cases z⟩
  keep := fun i h h' st k => let ⟨o, ho, r⟩ := st; ⟨o, k it (by simp) o ho, r⟩
  item := by
    intro X hP hw hK hc i pins s σ H E I hf st hg
    subst hP hw hK
    obtain ⟨f0, f1, f2, f3, f4, f5⟩ := hf it (by simp)
    have W : Walks X.prog X.w X.A it [it] [it] x.cps.size (SignAt x) (fun i h => h.IsStrIter it ty x t i) := by
      rcases hty with e | e
      · rw [e]; exact Walks.strAscii (I.ok.hd hc) it x t
      · rw [e]; exact Walks.strWide (I.ok.hd hc) it x t
    have hno : ["enumerate", "zip", "dict_itemiterator", "dict_reverseitemiterator", "odict_iterator", "itertools.zip_longest", "itertools.pairwise"].contains ty = false := by
      rcases hty with e | e
      · rw [e]; decide
      · rw [e]; decide
    refine W.item i s _ _ hg st fun v h' tk hv st' kk => ?_
    obtain ⟨c, u, hcx, rfl⟩ := hv
    have I1 : Inv X pins σ H { s with heap := h', toks := tk } := I.turned (fun b o hb e => kk b o (by simpa using hb) e) f0 f1 f3 f4 f5
    obtain ⟨oi, e, cc, dd⟩ := id st'
    exact ⟨_, rfl, go_of (s := { s with heap := h', toks := tk }) e cc dd hno ⟨.str ⟨#[c]⟩, H, I1, ⟨u, rfl⟩, ⟨rfl, c, hcx, rfl⟩, st', fun b hb => (hf b hb).1⟩⟩
  done := by
    intro X hP hw hK hc i pins s σ H E I hf st hg
    subst hP hw hK
    obtain ⟨f0, f1, f2, f3, f4, f5⟩ := hf it (by simp)
    have hx : x.cps[i]? = none := Array.getElem?_eq_none hg
    rcases hty with e | e
    · rw [e] at st
      exact wpAny_pyNext_ascii_end (I.ok.hd hc) st hx fun h' eb => ⟨rfl, I.turned (t' := s.toks) (fun b o hb e => eb b o hb e) f0 f1 f3 f4 f5⟩
    · rw [e] at st
      exact wpAny_pyNext_wide_end (I.ok.hd hc) st hx fun h' eb => ⟨rfl, I.turned (t' := s.toks) (fun b o hb e => eb b o hb e) f0 f1 f3 f4 f5⟩
  self := fun A i s Q E st h => by
    rcases hty with e | e
    · rw [e] at st; exact wpAny_pyIter_striter_ascii st h
    · rw [e] at st; exact wpAny_pyIter_striter_wide st h
def iStr (te : TE) : TI := fun σ H R => te σ H fun v H1 => ∃ x, v = .str x ∧ R (Its x) H1
theorem pi_str {X : Cx} {tg e : Expr} {te : TE} (he : PE X e te) : PI X tg e (iStr te) := by
  intro pins s σ H R I h
  refine thn (he pins s σ H _ I h) fun v s1 ⟨y, H1, I1, r1, x, ex, q⟩ => ?_
  subst ex
  obtain ⟨t, rfl⟩ := r1
  cases ha : x.cps.all (· < 128)
  · exact wpAny_pyIter_wide ha (pi_one (tk := s1.toks) I1 _ (turn_str _ x t "str_iterator" (.inr rfl)) ⟨_, Heap.get?_push_size _ rfl, rfl, rfl⟩ q)
  · exact wpAny_pyIter_ascii ha (pi_one (tk := s1.toks) I1 _ (turn_str _ x t "str_ascii_iterator" (.inl rfl)) ⟨_, Heap.get?_push_size _ rfl, rfl, rfl⟩ q)

/-! ### a dict's keys: any dict's entries -/
section
variable {prog : Program} {w : World} {A : Around} {E : Value → Shared → Prop} {s : Shared}
theorem iter_keys {d : Addr} {o : Obj} {es : Array DictEntry} {ep : Nat} {Q : Value → Shared → Prop} (hd : (d == sysModules) = false) (ho : s.heap.get? d = some o) (hc : o.ExactDict) (hdat : o.data = .dict es ep)
    (hQ : Q (.ref s.heap.objs.size) { s with heap := s.heap.push { cls := .type "dict_keyiterator", data := .fields #[.ref d, .int 0 0, .int es.size 0, .int ep 0] } }) :
    wpAny (model prog w) A (pyIter (.ref d)) Q E s := by
  have hT : s.TypeIs (.ref d) "dict" := ⟨o, ho, hc.1⟩
  refine wpAny_pyIter_slot hT F.slot_dict_iter (wpAny_call_entry F.slot_dict_iter hT F.entry_dict_iter ?_ (F.args_dict_iter_1 _))
  unfold Builtin.«dict.__iter__»
  refine wpAny_bind ?_
  unfold Builtin.Dict.dictSlotNone
  refine wpAny_bind (wpAny_notOrdered_dict hT ?_)
  show wpAny _ _ (pure (Value.ref d)) _ _ s
  refine wpAny_pure ?_
  show wpAny _ _ (Builtin.Dict.showsAll d >>= _) _ _ s
  unfold Builtin.Dict.showsAll
  rw [if_neg (by rw [hd]; exact Bool.false_ne_true)]
  refine wpAny_bind (wpAny_pure ?_)
  refine wpAny_bind (wpAny_dictEntries ho hdat ?_)
  refine wpAny_bind (wpAny_dictEpoch ho hdat ?_)
  refine wpAny_bind (wpAny_newObj_type (wpAny_pure ⟨_, rfl, "dict_keyiterator", _, ⟨_, Heap.get?_push_size _ rfl, rfl⟩, F.slot_dict_keyiterator_next.lookup, ?_⟩))
  simpa [rawInt] using hQ
theorem next_key_item {it d : Addr} {i n ep : Nat} {od : Obj} {es : Array DictEntry} {en : DictEntry} {Q : Option Value → Shared → Prop} (hit : s.heap.IsKeyIter it d i n ep) (hod : s.heap.get? d = some od) (hdd : od.data = .dict es ep)
    (hsz : es.size = n) (hx : es[i]? = some en) (hQ : ∀ h', h'.IsKeyIter it d (i + 1) n ep → Heap.SameBut it s.heap h' → Q (some en.key) { s with heap := h' }) : wpAny (model prog w) A (pyNext (.ref it)) Q E s := by
  obtain ⟨o, ho, hc, hd⟩ := id hit
  unfold pyNext
  refine wpAny_bind (wpAny_attempt (wpAny_callSpecial?_slot (name := Str.ofString "__next__") hit.typeIs F.slot_dict_keyiterator_next
    (wpAny_call_entry F.slot_dict_keyiterator_next hit.typeIs F.entry_dict_keyiterator_next ?_ (F.args_dict_keyiterator_next_1 _))))
  refine wpAny_bind (wpAny_pure ?_)
  refine wpAny_bind ?_
  refine wpAny_bind ?_
  first | refine wpAny_bind (wpAny_typeNameOfWhole_keyiter hit.typeIs (wpAny_pure ?_)) | refine wpAny_bind (wpAny_typeNameOf_keyiter hit.typeIs (wpAny_pure ?_))
  refine wpAny_bind (wpAny_fieldsOf ho hd ?_)
  have hown : Builtin.Dict_items.ownsTuple "dict_keyiterator" = false := by decide
  simp only [hown, Bool.false_eq_true, if_false]
  show wpAny _ _ (if (Value.ref d == Value.none) = true then _ else _) _ _ s
  rw [if_neg (show ¬ ((Value.ref d == Value.none) = true) from Bool.false_ne_true)]
  refine wpAny_bind (wpAny_pure ?_)
  refine wpAny_bind (wpAny_dictEntries hod hdd ?_)
  rw [if_neg (by rw [hsz]; simp)]
  refine wpAny_bind (wpAny_pure ?_)
  refine wpAny_bind (wpAny_dictEpoch hod hdd ?_)
  rw [if_neg (by simp)]
  refine wpAny_pure ?_
  obtain ⟨hlt', hen⟩ := Array.getElem?_eq_some_iff.mp hx
  simp only [show ¬ ((i : Int) < 0) from by omega, if_false, Int.toNat_natCast, Array.getElem?_eq_getElem hlt']
  refine wpAny_bind ?_
  first | refine wpAny_bind (wpAny_typeNameOfWhole_keyiter hit.typeIs (wpAny_pure ?_)) | refine wpAny_bind (wpAny_typeNameOf_keyiter hit.typeIs (wpAny_pure ?_))
  refine wpAny_bind (wpAny_isOneOf_keyiter hit.typeIs ?_)
  show wpAny _ _ (setField (.ref it) 1 (rawInt ((i : Int) + 1)) >>= _) _ _ s
  refine wpAny_bind (wpAny_setField ho hd (by simp) ?_)
  have hit' : (s.heap.update it (Obj.mapFields (·.setIfInBounds 1 (rawInt ((i : Int) + 1))))).IsKeyIter it d (i + 1) n ep :=
    ⟨_, Heap.get?_update_self _ ho (Obj.isFreed_of_fields (Obj.data_mapFields hd _)), (Obj.cls_mapFields ..).trans hc, by rw [Obj.data_mapFields hd]; simp [rawInt]⟩
  refine wpAny_bind (wpAny_holding ?_)
  refine wpAny_bind (wpAny_isOneOf_keyiter (s := { s with heap := s.heap.update it (Obj.mapFields (·.setIfInBounds 1 (rawInt ((i : Int) + 1)))) }) hit'.typeIs ?_)
  show wpAny _ _ (pure es[i].key) _ _ _
  rw [hen]
  exact wpAny_pure (wpAny_pure ⟨_, rfl, wpAny_pure (hQ _ hit' (Heap.SameBut.update ..))⟩)
theorem next_key_end {it d : Addr} {i n ep : Nat} {od : Obj} {es : Array DictEntry} {Q : Option Value → Shared → Prop} (hh : A.handled = none) (hit : s.heap.IsKeyIter it d i n ep) (hod : s.heap.get? d = some od) (hdd : od.data = .dict es ep)
    (hsz : es.size = n) (hge : n ≤ i) (hQ : ∀ h', Heap.ExtBut it s.heap h' → Q none { s with heap := h' }) : wpAny (model prog w) A (pyNext (.ref it)) Q E s := by
  obtain ⟨o, ho, hc, hd⟩ := id hit
  unfold pyNext
  refine wpAny_bind (wpAny_attempt (wpAny_callSpecial?_slot (name := Str.ofString "__next__") hit.typeIs F.slot_dict_keyiterator_next
    (wpAny_call_entry F.slot_dict_keyiterator_next hit.typeIs F.entry_dict_keyiterator_next ?_ (F.args_dict_keyiterator_next_1 _))))
  refine wpAny_bind (wpAny_pure ?_)
  refine wpAny_bind ?_
  refine wpAny_bind ?_
  first | refine wpAny_bind (wpAny_typeNameOfWhole_keyiter hit.typeIs (wpAny_pure ?_)) | refine wpAny_bind (wpAny_typeNameOf_keyiter hit.typeIs (wpAny_pure ?_))
  refine wpAny_bind (wpAny_fieldsOf ho hd ?_)
  have hown : Builtin.Dict_items.ownsTuple "dict_keyiterator" = false := by decide
  simp only [hown, Bool.false_eq_true, if_false]
  show wpAny _ _ (if (Value.ref d == Value.none) = true then _ else _) _ _ s
  rw [if_neg (show ¬ ((Value.ref d == Value.none) = true) from Bool.false_ne_true)]
  refine wpAny_bind (wpAny_pure ?_)
  refine wpAny_bind (wpAny_dictEntries hod hdd ?_)
  rw [if_neg (by rw [hsz]; simp)]
  refine wpAny_bind (wpAny_pure ?_)
  refine wpAny_bind (wpAny_dictEpoch hod hdd ?_)
  rw [if_neg (by simp)]
  refine wpAny_pure ?_
  have hge' : es.size ≤ i := by rw [hsz]; exact hge
  simp only [show ¬ ((i : Int) < 0) from by omega, if_false, Int.toNat_natCast, Array.getElem?_eq_none hge']
  refine wpAny_bind ?_
  first | refine wpAny_bind (wpAny_typeNameOfWhole_keyiter hit.typeIs (wpAny_pure ?_)) | refine wpAny_bind (wpAny_typeNameOf_keyiter hit.typeIs (wpAny_pure ?_))
  show wpAny _ _ (setField (.ref it) 0 .none >>= _) _ _ s
  refine wpAny_bind (wpAny_setField ho hd (by simp) ?_)
  show wpAny _ _ (newExc (.type "StopIteration") [] >>= _) _ _ _
  refine wpAny_bind ?_
  simp only [newExc, newTuple]
  refine wpAny_bind (wpAny_newObj_type ?_ (by size_fits))
  refine wpAny_bind (m := firstArgMember _ _) (wpAny_of_eq (a := Value.none) (by first | rfl | (simp only [firstArgMember]; rfl)) ?_)
  refine wpAny_newObj_type ?_ (by size_fits)
  simp only [raiseNew]
  refine wpAny_bind (wpAny_handled ?_)
  rw [show A.in1.handled = none from hh]
  refine wpAny_bind (wpAny_pure (wpAny_throw ?_))
  refine wpAny_bind (wpAny_isInstance (T := "StopIteration") (b := true) ⟨_, Heap.get?_push_size _ rfl, rfl⟩ isSubtype_stop ?_)
  exact wpAny_pure (hQ _ (((Heap.SameBut.update ..).extBut.push _).push _))
end

/-! ### a locked dict -/
theorem kv_get {κ : Type} {kvs : List (κ × V)} {vs : List (κ × Value)} (h : KV kvs vs) : ∀ {i : Nat} {k : κ} {v : V}, kvs[i]? = some (k, v) → ∃ u, vs[i]? = some (k, u) ∧ RelV v u := by
  unfold KV at h
  induction h with
  | nil => intro i k v e; simp at e
  | @cons a b l₁ l₂ r t ih =>
    intro i k v e
    cases i with
    | zero =>
      simp only [List.getElem?_cons_zero, Option.some.injEq] at e
      subst e
      refine ⟨b.2, ?_, r.2⟩
      simp only [List.getElem?_cons_zero]
      exact congrArg some (Prod.ext r.1.symm rfl)
    | succ j =>
      simp only [List.getElem?_cons_succ] at e ⊢
      exact ih e
theorem paired_get {α β : Type} {G : α → β → Prop} {l₁ : List α} {l₂ : List β} (h : Paired G l₁ l₂) : ∀ {i : Nat} {a : α}, l₁[i]? = some a → ∃ b, l₂[i]? = some b ∧ G a b := by
  induction h with
  | nil => intro i a e; simp at e
  | @cons a b l₁ l₂ r t ih =>
    intro i a' e
    cases i with
    | zero =>
      simp only [List.getElem?_cons_zero, Option.some.injEq] at e
      subst e
      exact ⟨b, rfl, r⟩
    | succ j =>
      simp only [List.getElem?_cons_succ] at e ⊢
      exact ih e
theorem relV_key {k : Key} {u : Value} (h : keyIs k u = true) : RelV (kV k) u := by
  rcases keyIs_shape h with ⟨i, t, rfl, rfl⟩ | ⟨x, t, rfl, rfl⟩
  · exact ⟨t, rfl⟩
  · exact ⟨t, rfl⟩
section
variable {X : Cx} {pins : List (Addr × Obj)} {σ : St} {H : Hp} {s : Shared} {d : Addr} {o : Obj}
theorem Inv.frzK {kvs : List (Key × V)} (I : Inv X pins σ H s) (h : H d = some (.frz o (.dK kvs))) :
    (d == sysModules) = false ∧ s.heap.get? d = some o ∧ o.ExactDict ∧ ∃ (es : Array DictEntry) (ep : Nat) (vs : List (Key × Value)), o.data = .dict es ep ∧ es.size = kvs.length ∧ KV kvs vs ∧ s.heap.DictAt (mixKind X.prog X.w) d vs ep := by
  obtain ⟨hd, z, hs, vs, kv, o', es, ep, ho, hx, hdt, r⟩ := I.hok d _ h
  rw [hd] at ho
  cases ho
  refine ⟨hs, hd, hx, es, ep, vs, hdt, ?_, kv, o, es, hd, hx, hdt, r⟩
  have l1 := r.2.1.length
  have l2 : kvs.length = vs.length := Paired.length kv
  rw [Array.length_toList] at l1
  omega
/-- the same for tuple keys -/
theorem Inv.frzT {kvs : List (List Key × V)} (I : Inv X pins σ H s) (h : H d = some (.frz o (.dT kvs))) :
    (d == sysModules) = false ∧ s.heap.get? d = some o ∧ o.ExactDict ∧ ∃ (es : Array DictEntry) (ep : Nat), o.data = .dict es ep ∧ es.size = kvs.length ∧
      ∀ (i : Nat) (k : List Key) (v : V), kvs[i]? = some (k, v) → ∃ (en : DictEntry) (q : Addr), es[i]? = some en ∧ en.key = .ref q ∧ H q = some (.tup (k.map kV)) := by
  obtain ⟨hd, z, hs, xs, pr, o', es, ep, ho, hx, hdt, he, _⟩ := I.hok d _ h
  rw [hd] at ho
  cases ho
  refine ⟨hs, hd, hx, es, ep, hdt, ?_, fun i k v e => ?_⟩
  · have l1 : es.size = xs.length := size_of_entries he
    have l2 : kvs.length = xs.length := Paired.length pr
    omega
  · obtain ⟨b, hb, e1, e2, _⟩ := paired_get pr e
    have q := entry_at he i
    rw [hb] at q
    exact ⟨_, b.2.1, q, rfl, e2⟩
end

/-- the keys of the locked dict at d, in their order -/
def Itk (d : Addr) (o : Obj) (kvs : List (Key × V)) : It :=
  ⟨fun i H => H d = some (.frz o (.dK kvs)) ∧ i < kvs.length, fun i H x H' => H' = H ∧ ∃ k v, kvs[i]? = some (k, v) ∧ x = kV k, fun i H => H d = some (.frz o (.dK kvs)) ∧ kvs.length ≤ i⟩
/-- .. of tuple keys: the key's own tuple -/
def Itkt (d : Addr) (o : Obj) (kvs : List (List Key × V)) : It :=
  ⟨fun i H => H d = some (.frz o (.dT kvs)) ∧ i < kvs.length, fun i H x H' => H' = H ∧ ∃ (k : List Key) (v : V) (q : Addr), kvs[i]? = some (k, v) ∧ x = .ref q ∧ H q = some (.tup (k.map kV)), fun i H => H d = some (.frz o (.dT kvs)) ∧ kvs.length ≤ i⟩
/-- the values -/
def Itd (d : Addr) (o : Obj) (kvs : List (Key × V)) : It :=
  ⟨fun i H => H d = some (.frz o (.dK kvs)) ∧ i < kvs.length, fun i H x H' => H' = H ∧ ∃ k, kvs[i]? = some (k, x), fun i H => H d = some (.frz o (.dK kvs)) ∧ kvs.length ≤ i⟩
/-- the pairs, each a new tuple -/
def Iti (d : Addr) (o : Obj) (kvs : List (Key × V)) : It :=
  ⟨fun i H => H d = some (.frz o (.dK kvs)) ∧ i < kvs.length, fun i H x H' => ∃ T k v, kvs[i]? = some (k, v) ∧ x = .ref T ∧ H T = none ∧ H' = upd H T (.tup [kV k, v]), fun i H => H d = some (.frz o (.dK kvs)) ∧ kvs.length ≤ i⟩
theorem dict_ep {o : Obj} {es es' : Array DictEntry} {ep ep' : Nat} (h : o.data = .dict es ep) (h' : o.data = .dict es' ep') : es' = es ∧ ep' = ep := by
  rw [h] at h'
  cases h'
  exact ⟨rfl, rfl⟩
section
variable {P : Program} {w : World} {K : PySem.W.Frag} {tg : Expr} {d : Addr} {o : Obj} {es : Array DictEntry} {ep : Nat}
theorem turn_keys {kvs : List (Key × V)} (it : Addr) (hod : o.data = .dict es ep) : Turn P w K tg (Itk d o kvs) [it] it (fun i h => h.IsKeyIter it d i kvs.length ep) where
  mem := by simp
  obj := fun i h st b hb => by
    have e : b = it := by simpa using hb
    subst e
    obtain ⟨oi, e, c, dd⟩ := st
    exact ⟨oi, e, fun v z => by rw [dd] at z; cases z⟩
  keep := fun i h h' st k => st.at fun oi e => k it (by simp) oi e
  item := by
    intro X hP hw hK hc i pins s σ H E I hf st hg
    subst hP hw hK
    obtain ⟨hd, hi⟩ := hg
    obtain ⟨f0, f1, f2, f3, f4, f5⟩ := hf it (by simp)
    obtain ⟨hs, hgd, hx, es', ep', vs, hdt, hsz, kv, hm⟩ := I.frzK hd
    obtain ⟨rfl, rfl⟩ := dict_ep hod hdt
    obtain ⟨⟨k, v⟩, hkv⟩ : ∃ p, kvs[i]? = some p := ⟨kvs[i], List.getElem?_eq_getElem hi⟩
    obtain ⟨u, hu, ru⟩ := kv_get kv hkv
    have hl : kvs.length = vs.length := Paired.length kv
    rw [hl] at st
    refine wpAny_pyNext_dict_item st hm hu fun key h' hkey st' sb => ?_
    have I1 : Inv X pins σ H { s with heap := h' } := I.turned (t' := s.toks) (fun b ob hb e => (sb.2 b hb).trans e) f0 f1 f3 f4 f5
    obtain ⟨oi, e, c, dd⟩ := id st'
    refine ⟨key, rfl, go_of (s := { s with heap := h' }) e c dd (by decide) ⟨kV k, H, I1, relV_key (show keyIs k key = true from hkey), ⟨rfl, k, v, hkv, rfl⟩, ?_, fun b hb => (hf b hb).1⟩⟩
    show h'.IsKeyIter it d (i + 1) kvs.length _
    rw [hl]
    exact st'
  done := by
    intro X hP hw hK hc i pins s σ H E I hf st hg
    subst hP hw hK
    obtain ⟨hd, hi⟩ := hg
    obtain ⟨f0, f1, f2, f3, f4, f5⟩ := hf it (by simp)
    obtain ⟨hs, hgd, hx, es', ep', vs, hdt, hsz, kv, hm⟩ := I.frzK hd
    obtain ⟨rfl, rfl⟩ := dict_ep hod hdt
    exact next_key_end (I.ok.hd hc) st hgd hdt hsz hi fun h' eb => ⟨rfl, I.turned (t' := s.toks) (fun b ob hb e => eb b ob hb e) f0 f1 f3 f4 f5⟩
  self := fun A i s Q E st h => wpAny_pyIter_keyiter st h
theorem turn_keysT {kvs : List (List Key × V)} (it : Addr) (hod : o.data = .dict es ep) : Turn P w K tg (Itkt d o kvs) [it] it (fun i h => h.IsKeyIter it d i kvs.length ep) where
  mem := by simp
  obj := fun i h st b hb => by
    have e : b = it := by simpa using hb
    subst e
    obtain ⟨oi, e, c, dd⟩ := st
    exact ⟨oi, e, fun v z => by rw [dd] at z; cases z⟩
  keep := fun i h h' st k => st.at fun oi e => k it (by simp) oi e
  item := by
    intro X hP hw hK hc i pins s σ H E I hf st hg
    subst hP hw hK
    obtain ⟨hd, hi⟩ := hg
    obtain ⟨f0, f1, f2, f3, f4, f5⟩ := hf it (by simp)
    obtain ⟨hs, hgd, hx, es', ep', hdt, hsz, ent⟩ := I.frzT hd
    obtain ⟨rfl, rfl⟩ := dict_ep hod hdt
    obtain ⟨⟨k, v⟩, hkv⟩ : ∃ p, kvs[i]? = some p := ⟨kvs[i], List.getElem?_eq_getElem hi⟩
    obtain ⟨en, q, hen, hkey, hq⟩ := ent i k v hkv
    refine next_key_item st hgd hdt hsz hen fun h' st' sb => ?_
    have I1 : Inv X pins σ H { s with heap := h' } := I.turned (t' := s.toks) (fun b ob hb e => (sb.2 b hb).trans e) f0 f1 f3 f4 f5
    obtain ⟨oi, e, c, dd⟩ := id st'
    exact ⟨en.key, rfl, go_of (s := { s with heap := h' }) e c dd (by decide) ⟨.ref q, H, I1, hkey, ⟨rfl, k, v, q, hkv, rfl, hq⟩, st', fun b hb => (hf b hb).1⟩⟩
  done := by
    intro X hP hw hK hc i pins s σ H E I hf st hg
    subst hP hw hK
    obtain ⟨hd, hi⟩ := hg
    obtain ⟨f0, f1, f2, f3, f4, f5⟩ := hf it (by simp)
    obtain ⟨hs, hgd, hx, es', ep', hdt, hsz, ent⟩ := I.frzT hd
    obtain ⟨rfl, rfl⟩ := dict_ep hod hdt
    exact next_key_end (I.ok.hd hc) st hgd hdt hsz hi fun h' eb => ⟨rfl, I.turned (t' := s.toks) (fun b ob hb e => eb b ob hb e) f0 f1 f3 f4 f5⟩
  self := fun A i s Q E st h => by
    refine wpAny_pyIter_slot st.typeIs F.slot_dict_keyiterator_iter (wpAny_call_entry F.slot_dict_keyiterator_iter st.typeIs F.entry_dict_keyiterator_iter ?_ (F.args_dict_keyiterator_iter_1 _))
    show wpAny _ _ (ret (.ref it)) _ _ s
    exact wpAny_pure ⟨_, rfl, "dict_keyiterator", _, st.typeIs, F.slot_dict_keyiterator_next.lookup, h⟩
theorem turn_vals {kvs : List (Key × V)} (it : Addr) (hod : o.data = .dict es ep) : Turn P w K tg (Itd d o kvs) [it] it (fun i h => h.IsValIter it d i kvs.length ep) where
  mem := by simp
  obj := fun i h st b hb => by
    have e : b = it := by simpa using hb
    subst e
    obtain ⟨oi, e, c, dd⟩ := st
    exact ⟨oi, e, fun v z => by rw [dd] at z; cases z⟩
  keep := fun i h h' st k => st.at fun oi e => k it (by simp) oi e
  item := by
    intro X hP hw hK hc i pins s σ H E I hf st hg
    subst hP hw hK
    obtain ⟨hd, hi⟩ := hg
    obtain ⟨f0, f1, f2, f3, f4, f5⟩ := hf it (by simp)
    obtain ⟨hs, hgd, hx, es', ep', vs, hdt, hsz, kv, hm⟩ := I.frzK hd
    obtain ⟨rfl, rfl⟩ := dict_ep hod hdt
    obtain ⟨⟨k, v⟩, hkv⟩ : ∃ p, kvs[i]? = some p := ⟨kvs[i], List.getElem?_eq_getElem hi⟩
    obtain ⟨u, hu, ru⟩ := kv_get kv hkv
    have hl : kvs.length = vs.length := Paired.length kv
    rw [hl] at st
    refine wpAny_pyNext_values_item st hm hu fun h' st' sb => ?_
    have I1 : Inv X pins σ H { s with heap := h' } := I.turned (t' := s.toks) (fun b ob hb e => (sb.2 b hb).trans e) f0 f1 f3 f4 f5
    obtain ⟨oi, e, c, dd⟩ := id st'
    refine ⟨u, rfl, go_of (s := { s with heap := h' }) e c dd (by decide) ⟨v, H, I1, ru, ⟨rfl, k, hkv⟩, ?_, fun b hb => (hf b hb).1⟩⟩
    show h'.IsValIter it d (i + 1) kvs.length _
    rw [hl]
    exact st'
  done := by
    intro X hP hw hK hc i pins s σ H E I hf st hg
    subst hP hw hK
    obtain ⟨hd, hi⟩ := hg
    obtain ⟨f0, f1, f2, f3, f4, f5⟩ := hf it (by simp)
    obtain ⟨hs, hgd, hx, es', ep', vs, hdt, hsz, kv, hm⟩ := I.frzK hd
    obtain ⟨rfl, rfl⟩ := dict_ep hod hdt
    have hl : kvs.length = vs.length := Paired.length kv
    rw [hl] at st
    exact wpAny_pyNext_values_end (I.ok.hd hc) st hm (List.getElem?_eq_none (by omega)) fun h' eb => ⟨rfl, I.turned (t' := s.toks) (fun b ob hb e => eb b ob hb e) f0 f1 f3 f4 f5⟩
  self := fun A i s Q E st h => wpAny_pyIter_valiter st h
theorem turn_items {kvs : List (Key × V)} {elts : List Expr} {kk : Nat} {tpos : Pos} (it : Addr) (hod : o.data = .dict es ep) :
    Turn P w K (.Tuple elts kk tpos) (Iti d o kvs) [it] it (fun i h => ∃ ok ov, IsItemIter h it d i kvs.length ep ok ov) where
  mem := by simp
  obj := fun i h st b hb => by
    have e : b = it := by simpa using hb
    subst e
    obtain ⟨ok, ov, e⟩ := st
    exact ⟨_, e, fun v z => nomatch z⟩
  keep := fun i h h' st k => let ⟨ok, ov, e⟩ := st; ⟨ok, ov, k it (by simp) _ e⟩
  item := by
    intro X hP hw hK hc i pins s σ H E I hf st hg
    subst hP hw hK
    obtain ⟨hd, hi⟩ := hg
    obtain ⟨hs, hgd, hx, es', ep', vs, hdt, hsz, kv, hm⟩ := I.frzK hd
    obtain ⟨rfl, rfl⟩ := dict_ep hod hdt
    obtain ⟨⟨k, v⟩, hkv⟩ : ∃ p, kvs[i]? = some p := ⟨kvs[i], List.getElem?_eq_getElem hi⟩
    obtain ⟨u, hu, ru⟩ := kv_get kv hkv
    have hl : kvs.length = vs.length := Paired.length kv
    obtain ⟨ok, ov, he⟩ := st
    rw [hl] at he
    have hlt : it < s.heap.objs.size := Heap.lt_size he
    refine wpAny_pyNext_items_item he hm hu fun key h' hkey ho hT hz hk => ?_
    refine ⟨_, rfl, wpAny_letOwnedTupleGo_items (s := { s with heap := h' }) ho fun h'' he' sb => ?_⟩
    have hT2 : h''.get? s.heap.objs.size = some { cls := .type "tuple", data := .seq #[key, u] } := (sb.2 _ (Nat.ne_of_gt hlt)).trans hT
    have new : ObjOk X.prog X.w (upd H s.heap.objs.size (.tup [kV k, v])) h'' s.heap.objs.size (.tup [kV k, v]) :=
      ⟨by show 2 ≤ sizeLine; decide, [key, u], .cons (relV_key (show keyIs k key = true from hkey)) (.cons ru .nil), ⟨_, hT2, rfl, _, rfl⟩⟩
    have I1 : Inv X pins σ (upd H s.heap.objs.size (.tup [kV k, v])) { s with heap := h'' } :=
      I.turnedNew (t' := s.toks) (ch := [it]) (fun b ob hb e => (sb.2 b (by simpa using hb)).trans (hk b ob (by simpa using hb) e)) hf (Nat.le_refl _) new
    refine ⟨.ref s.heap.objs.size, _, I1, rfl, ⟨_, k, v, hkv, rfl, I.hok.fresh (Nat.le_refl _), rfl⟩, ⟨key, u, ?_⟩, fun b hb => ?_⟩
    · rw [hl]; exact he'
    · have e : b = it := by simpa using hb
      rw [e, upd_ne (Nat.ne_of_lt hlt)]
      exact (hf it (by simp)).1
  done := by
    intro X hP hw hK hc i pins s σ H E I hf st hg
    subst hP hw hK
    obtain ⟨hd, hi⟩ := hg
    obtain ⟨f0, f1, f2, f3, f4, f5⟩ := hf it (by simp)
    obtain ⟨hs, hgd, hx, es', ep', vs, hdt, hsz, kv, hm⟩ := I.frzK hd
    obtain ⟨rfl, rfl⟩ := dict_ep hod hdt
    have hl : kvs.length = vs.length := Paired.length kv
    obtain ⟨ok, ov, he⟩ := st
    rw [hl] at he
    exact wpAny_pyNext_items_end (I.ok.hd hc) he hm (List.getElem?_eq_none (by omega)) fun h' eb => ⟨rfl, I.turned (t' := s.toks) (fun b ob hb e => eb b ob hb e) f0 f1 f3 f4 f5⟩
  self := fun A i s Q E st h => let ⟨_, _, e⟩ := st; PySem.W.kcp_self e h
end

/-! ### for k in d, d.keys(), d.values(), d.items() -/
/-- the dict is locked (tLock, or by the caller) -/
def iKeys (td : TE) : TI := fun σ H R => td σ H fun x H1 => ∃ d o, x = .ref d ∧ ((∃ kvs, H1 d = some (.frz o (.dK kvs)) ∧ R (Itk d o kvs) H1) ∨ ∃ kvs, H1 d = some (.frz o (.dT kvs)) ∧ R (Itkt d o kvs) H1)
def iVals (td : TE) : TI := fun σ H R => td σ H fun x H1 => ∃ d o kvs, x = .ref d ∧ H1 d = some (.frz o (.dK kvs)) ∧ R (Itd d o kvs) H1
def iItems (td : TE) : TI := fun σ H R => td σ H fun x H1 => ∃ d o kvs, x = .ref d ∧ H1 d = some (.frz o (.dK kvs)) ∧ R (Iti d o kvs) H1
def iKeysM (td : TE) : TI := fun σ H R => td σ H fun x H1 => ∃ d o kvs, x = .ref d ∧ H1 d = some (.frz o (.dK kvs)) ∧ R (Itk d o kvs) H1
section
variable {X : Cx} {tg e : Expr} {td : TE} {apos cpos : Pos}
theorem pi_keys (he : PE X e td) : PI X tg e (iKeys td) := by
  intro pins s σ H R I h
  refine thn (he pins s σ H _ I h) fun u s1 ⟨x, H1, I1, rx, d, o, ex, q⟩ => ?_
  subst ex
  obtain rfl : u = Value.ref d := rx
  rcases q with ⟨kvs, hd, q⟩ | ⟨kvs, hd, q⟩
  · obtain ⟨hs, hgd, hx, es, ep, vs, hdt, hsz, kv, hm⟩ := I1.frzK hd
    refine iter_keys hs hgd hx hdt (pi_one (tk := s1.toks) I1 _ (turn_keys _ hdt) ⟨_, Heap.get?_push_size _ rfl, rfl, ?_⟩ q)
    rw [hsz] <;> rfl
  · obtain ⟨hs, hgd, hx, es, ep, hdt, hsz, ent⟩ := I1.frzT hd
    refine iter_keys hs hgd hx hdt (pi_one (tk := s1.toks) I1 _ (turn_keysT _ hdt) ⟨_, Heap.get?_push_size _ rfl, rfl, ?_⟩ q)
    rw [hsz] <;> rfl
theorem pi_values (he : PE X e td) (hbase : attributeBase e "values" X.env (eval e X.env) = eval e X.env := by rfl) (hline : (apos.endLine == cpos.line) = true := by rfl) : PI X tg (.Call (.Attribute e "values" apos) [] [] cpos) (iVals td) := by
  intro pins s σ H R I h
  refine wpAny_Call_method (T := "dict") (id := "dict.values") hbase rfl hline F.plainAttrs_dict F.slot_dict_values F.type_dict_values (thn (he pins s σ H _ I h) fun u s1 ⟨x, H1, I1, rx, d, o, kvs, ex, hd, q⟩ => ?_)
  subst ex
  obtain rfl : u = Value.ref d := rx
  obtain ⟨hs, hgd, hx, es, ep, vs, hdt, hsz, kv, hm⟩ := I1.frzK hd
  have hl : kvs.length = vs.length := Paired.length kv
  refine ⟨hm.dictOf.typeIs, hm.dictOf.mapOf.noDict, ?_⟩
  have I2 : Inv X pins σ H1 { s1 with heap := s1.heap.push { cls := .type "dict_values", data := .fields #[.ref d] } } := I1.kept (t' := s1.toks) fun b ob q => Heap.get?_push_of_some _ q
  have fin : wpAny (model X.prog X.w) X.A (pyIter (.ref s1.heap.objs.size)) (PIE X pins σ tg R) X.xe { s1 with heap := s1.heap.push { cls := .type "dict_values", data := .fields #[.ref d] } } := by
    refine wpAny_pyIter_values (d := d) (knd := mixKind X.prog X.w) ⟨_, Heap.get?_push_size _ rfl, rfl, rfl⟩ (hm.push _) (pi_one (tk := s1.toks) I2 _ (turn_vals _ hdt) ⟨_, Heap.get?_push_size _ rfl, rfl, ?_⟩ q)
    rw [hl] <;> rfl
  show wpAny _ _ (callWith cpos (.builtin "dict.values") [.ref d] [] []) _ X.xe s1
  exact method_meetsIn F.slot_dict_values F.entry_dict_values rfl (PySem.evalArgs_none ⟨rfl, hm.dictOf.typeIs, F.args_dict_values_1 _, _, meets_dict_values (mixKind X.prog X.w) d hs, ⟨vs, hm.dictOf⟩, fin⟩)
theorem pi_items {elts : List Expr} {kk : Nat} {tpos : Pos} (he : PE X e td) (hbase : attributeBase e "items" X.env (eval e X.env) = eval e X.env := by rfl) (hline : (apos.endLine == cpos.line) = true := by rfl) :
    PI X (.Tuple elts kk tpos) (.Call (.Attribute e "items" apos) [] [] cpos) (iItems td) := by
  intro pins s σ H R I h
  refine wpAny_Call_method (T := "dict") (id := "dict.items") hbase rfl hline F.plainAttrs_dict F.slot_dict_items F.type_dict_items (thn (he pins s σ H _ I h) fun u s1 ⟨x, H1, I1, rx, d, o, kvs, ex, hd, q⟩ => ?_)
  subst ex
  obtain rfl : u = Value.ref d := rx
  obtain ⟨hs, hgd, hx, es, ep, vs, hdt, hsz, kv, hm⟩ := I1.frzK hd
  have hl : kvs.length = vs.length := Paired.length kv
  refine ⟨hm.dictOf.typeIs, hm.dictOf.mapOf.noDict, ?_⟩
  have I2 : Inv X pins σ H1 { s1 with heap := s1.heap.push { cls := .type "dict_items", data := .fields #[.ref d] } } := I1.kept (t' := s1.toks) fun b ob q => Heap.get?_push_of_some _ q
  have fin : wpAny (model X.prog X.w) X.A (pyIter (.ref s1.heap.objs.size)) (PIE X pins σ (.Tuple elts kk tpos) R) X.xe { s1 with heap := s1.heap.push { cls := .type "dict_items", data := .fields #[.ref d] } } := by
    refine wpAny_pyIter_items (d := d) (knd := mixKind X.prog X.w) ⟨_, Heap.get?_push_size _ rfl, rfl, rfl⟩ (hm.push _) (pi_one (tk := s1.toks) I2 _ (turn_items _ hdt) ⟨.none, .none, ?_⟩ q)
    rw [hl]
    exact Heap.get?_push_size _ rfl
  show wpAny _ _ (callWith cpos (.builtin "dict.items") [.ref d] [] []) _ X.xe s1
  exact method_meetsIn F.slot_dict_items F.entry_dict_items rfl (PySem.evalArgs_none ⟨rfl, hm.dictOf.typeIs, F.args_dict_items_1 _, _, meets_dict_items (mixKind X.prog X.w) d hs, ⟨vs, hm.dictOf⟩, fin⟩)
theorem pi_keysM (he : PE X e td) (hbase : attributeBase e "keys" X.env (eval e X.env) = eval e X.env := by rfl) (hline : (apos.endLine == cpos.line) = true := by rfl) : PI X tg (.Call (.Attribute e "keys" apos) [] [] cpos) (iKeysM td) := by
  intro pins s σ H R I h
  refine wpAny_Call_method (T := "dict") (id := "dict.keys") hbase rfl hline F.plainAttrs_dict F.slot_dict_keys F.type_dict_keys (thn (he pins s σ H _ I h) fun u s1 ⟨x, H1, I1, rx, d, o, kvs, ex, hd, q⟩ => ?_)
  subst ex
  obtain rfl : u = Value.ref d := rx
  obtain ⟨hs, hgd, hx, es, ep, vs, hdt, hsz, kv, hm⟩ := I1.frzK hd
  have hl : kvs.length = vs.length := Paired.length kv
  refine ⟨hm.dictOf.typeIs, hm.dictOf.mapOf.noDict, ?_⟩
  have I2 : Inv X pins σ H1 { s1 with heap := s1.heap.push { cls := .type "dict_keys", data := .fields #[.ref d] } } := I1.kept (t' := s1.toks) fun b ob q => Heap.get?_push_of_some _ q
  have fin : wpAny (model X.prog X.w) X.A (pyIter (.ref s1.heap.objs.size)) (PIE X pins σ tg R) X.xe { s1 with heap := s1.heap.push { cls := .type "dict_keys", data := .fields #[.ref d] } } := by
    refine PySem.W.kdl_pyIter_keys (d := d) (knd := mixKind X.prog X.w) ⟨_, Heap.get?_push_size _ rfl, rfl, rfl⟩ (hm.push _) (pi_one (tk := s1.toks) I2 _ (turn_keys _ hdt) ⟨_, Heap.get?_push_size _ rfl, rfl, ?_⟩ q)
    rw [hl] <;> rfl
  show wpAny _ _ (callWith cpos (.builtin "dict.keys") [.ref d] [] []) _ X.xe s1
  exact method_meetsIn F.slot_dict_keys F.entry_dict_keys rfl (PySem.evalArgs_none ⟨rfl, hm.dictOf.typeIs, F.args_dict_keys_1 _, _, PySem.W.kdl_meets_keys (mixKind X.prog X.w) d hs, ⟨vs, hm.dictOf⟩, fin⟩)
end

/-! ### enumerate(list) -/
/-- the list at a as it stands at each turn, each item in a new pair -/
def Ite (K : PySem.W.Frag) (a : Addr) : It :=
  ⟨fun i H => ∃ (xs : List V) (x : V), SqL K H a xs ∧ xs[i]? = some x, fun i H v H' => ∃ T x, v = .ref T ∧ H T = none ∧ H' = upd H T (.tup [.int (i : Nat), x]) ∧ ∀ xs, SqL K H a xs → xs[i]? = some x, fun i H => ∃ xs : List V, SqL K H a xs ∧ xs.length ≤ i⟩
theorem turn_enum {P : Program} {w : World} {K : PySem.W.Frag} {elts : List Expr} {kk : Nat} {tpos : Pos} (a e it : Addr) :
    Turn P w K (.Tuple elts kk tpos) (Ite K a) [e, it] e (fun i h => (∃ old, IsEnum h e it ((i : Nat) : Int) old) ∧ h.IsListIter it a i ∧ e ≠ it) where
  mem := by simp
  obj := fun i h st b hb => by
    obtain ⟨⟨old, he⟩, ⟨o, ho, hc, hd⟩, _⟩ := st
    have e' : b = e ∨ b = it := by simpa using hb
    rcases e' with z | z
    · rw [z]; exact ⟨_, he, fun v q => nomatch q⟩
    · rw [z]; exact ⟨o, ho, fun v q => by rw [hd] at q; cases q⟩
  keep := fun i h h' st k => let ⟨⟨old, he⟩, hi, hne⟩ := st; ⟨⟨old, k e (by simp) _ he⟩, hi.at fun o q => k it (by simp) o q, hne⟩
  item := by
    intro X hP hw hK hc i pins s σ H E I hf st hg
    subst hP hw hK
    obtain ⟨⟨old, he⟩, hit, hne⟩ := st
    obtain ⟨xs, x, hq, hx⟩ := hg
    obtain ⟨its, rv, p, hz⟩ := I.list hq
    obtain ⟨u, hu, ru⟩ := rv.get hx
    have hel : e < s.heap.objs.size := Heap.lt_size he
    have hil : it < s.heap.objs.size := by obtain ⟨_, q, _⟩ := hit; exact Heap.lt_size q
    refine wpAny_pyNext_enum_item he hit p.isList (x := u) (by simpa using hu) hne fun h' ho hit' hT hsz hk => ?_
    refine ⟨_, rfl, wpAny_letOwnedTupleGo_enum (s := { s with heap := h', toks := s.toks + 1 }) ho fun h'' he' sb => ?_⟩
    have hT2 : h''.get? s.heap.objs.size = some { cls := .type "tuple", data := .seq #[.int i s.toks, u] } := (sb.2 _ (Nat.ne_of_gt hel)).trans hT
    have new : ObjOk X.prog X.w (upd H s.heap.objs.size (.tup [.int (i : Nat), x])) h'' s.heap.objs.size (.tup [.int (i : Nat), x]) :=
      ⟨by show 2 ≤ sizeLine; decide, [.int i s.toks, u], .cons ⟨_, rfl⟩ (.cons ru .nil), ⟨_, hT2, rfl, _, rfl⟩⟩
    have I1 : Inv X pins σ (upd H s.heap.objs.size (.tup [.int (i : Nat), x])) { s with heap := h'', toks := s.toks + 1 } :=
      I.turnedNew (ch := [e, it]) (fun b ob hb q => (sb.2 b (fun z => hb (by simp [z]))).trans (hk b ob (fun z => hb (by simp [z])) (fun z => hb (by simp [z])) q)) hf (Nat.le_refl _) new
    refine ⟨.ref s.heap.objs.size, _, I1, rfl, ⟨_, x, rfl, I.hok.fresh (Nat.le_refl _), rfl, fun ys hy => by rw [I.list_inj hy hq]; exact hx⟩, ⟨⟨u, ?_⟩, hit'.at fun o q => (sb.2 it (Ne.symm hne)).trans q, hne⟩, fun b hb => ?_⟩
    · have e1 : ((i + 1 : Nat) : Int) = (i : Int) + 1 := by omega
      rw [e1]; exact he'
    · have hb' : b < s.heap.objs.size := by
        have e' : b = e ∨ b = it := by simpa using hb
        rcases e' with z | z
        · rw [z]; exact hel
        · rw [z]; exact hil
      rw [upd_ne (Nat.ne_of_lt hb')]
      exact (hf b hb).1
  done := by
    intro X hP hw hK hc i pins s σ H E I hf st hg
    subst hP hw hK
    obtain ⟨⟨old, he⟩, hit, hne⟩ := st
    obtain ⟨xs, hq, hx⟩ := hg
    obtain ⟨its, rv, p, hz⟩ := I.list hq
    obtain ⟨f0, f1, f2, f3, f4, f5⟩ := hf it (by simp)
    have hl := rv.length
    exact wpAny_pyNext_enum_end (I.ok.hd hc) he hit p.isList (by simp; omega) fun h' eb => ⟨rfl, I.turned (t' := s.toks) (fun b o hb q => eb b o hb q) f0 f1 f3 f4 f5⟩
  self := fun A i s Q E st h => let ⟨⟨_, he⟩, _⟩ := st; wpAny_pyIter_enum he h
def iEnum (K : PySem.W.Frag) (ta : TA) : TI := fun σ H R => ta σ H fun vs H1 => ∃ a xs, vs = [.ref a] ∧ SqL K H1 a xs ∧ R (Ite K a) H1
theorem pi_enum {X : Cx} {e : Expr} {ta : TA} {p pos tpos : Pos} {elts : List Expr} {kk : Nat} (hg : Gl X "enumerate") (hm : X.mg "enumerate" = none) (ha : PA X [e] ta) (hs : starEach [e] X.env = [(false, eval e X.env)] := by rfl) :
    PI X (.Tuple elts kk tpos) (.Call (.Name "enumerate" p) [e] [] pos) (iEnum X.K ta) := by
  intro pins s σ H R I h
  refine Call_ (ld_blt I hg hm boot_enumerate (PyProof.Rows.callWith_type1 (thn (ha pos pins s σ H _ I h) fun us s1 ⟨vs, H1, I1, r1, q1⟩ => ?_) hs rfl))
  obtain ⟨a, xs, ex, hq, q⟩ := q1
  subst ex
  cases r1 with
  | cons r rr =>
    cases rr
    cases r
    obtain ⟨its, rv, p', hz⟩ := I1.list hq
    refine call_enumerate_list p'.isList fun h' he hit hsz hk => wpAny_pyIter_enum he ?_
    have I2 : Inv X pins σ H1 { s1 with heap := h' } := I1.kept (t' := s1.toks) hk
    refine ⟨s1.heap.objs.size + 1, [s1.heap.objs.size + 1, s1.heap.objs.size], _, _, H1, rfl, I2, turn_enum a (s1.heap.objs.size + 1) s1.heap.objs.size, ⟨⟨.none, he⟩, hit, Nat.succ_ne_self _⟩, fun b hb => ?_, q⟩
    have e' : b = s1.heap.objs.size + 1 ∨ b = s1.heap.objs.size := by simpa using hb
    have hle : s1.heap.objs.size ≤ b := by
      rcases e' with z | z
      · rw [z]; exact Nat.le_add_right _ _
      · rw [z]; exact Nat.le_refl _
    exact I1.fpOk hle (I1.hok.fresh hle)
/-! ### zip(list, list) -/
theorem boot_zip5 : bootBuiltins "zip" = some (.type "zip") := by decide +kernel
/-- the lists at a and b as they stand at each turn, the items in new pairs -/
def Itz (K : PySem.W.Frag) (a b : Addr) : It :=
  ⟨fun i H => ∃ (xs ys : List V) (x y : V), SqL K H a xs ∧ SqL K H b ys ∧ xs[i]? = some x ∧ ys[i]? = some y,
    fun i H v H' => ∃ T x y, v = .ref T ∧ H T = none ∧ H' = upd H T (.tup [x, y]) ∧ (∀ xs, SqL K H a xs → xs[i]? = some x) ∧ ∀ ys, SqL K H b ys → ys[i]? = some y,
    fun i H => ∃ xs ys : List V, SqL K H a xs ∧ SqL K H b ys ∧ (xs.length ≤ i ∨ ys.length ≤ i)⟩
theorem turn_zip {P : Program} {w : World} {K : PySem.W.Frag} {elts : List Expr} {kk : Nat} {tpos : Pos} {a b z TI TO i1 i2 : Addr} (D : ZipApart z TI TO i1 i2 a b) :
    Turn P w K (.Tuple elts kk tpos) (Itz K a b) [z, TI, TO, i1, i2] z (fun i h => IsZip h z TI TO .none ∧ IsPair h TI (.ref i1) (.ref i2) ∧ (∃ x y, IsPair h TO x y) ∧ h.IsListIter i1 a i ∧ h.IsListIter i2 b i) where
  mem := by simp
  obj := fun i h st c hc => by
    obtain ⟨hz, hTI, ⟨x, y, hTO⟩, ⟨o1, e1, _, d1⟩, ⟨o2, e2, _, d2⟩⟩ := st
    have e' : c = z ∨ c = TI ∨ c = TO ∨ c = i1 ∨ c = i2 := by simpa using hc
    rcases e' with q | q | q | q | q
    · rw [q]; exact ⟨_, hz, fun v q => nomatch q⟩
    · rw [q]; exact ⟨_, hTI, fun v q => nomatch q⟩
    · rw [q]; exact ⟨_, hTO, fun v q => nomatch q⟩
    · rw [q]; exact ⟨o1, e1, fun v q => by rw [d1] at q; cases q⟩
    · rw [q]; exact ⟨o2, e2, fun v q => by rw [d2] at q; cases q⟩
  keep := fun i h h' st k => by
    obtain ⟨hz, hTI, ⟨x, y, hTO⟩, h1, h2⟩ := st
    exact ⟨k z (by simp) _ hz, k TI (by simp) _ hTI, ⟨x, y, k TO (by simp) _ hTO⟩, h1.at fun o q => k i1 (by simp) o q, h2.at fun o q => k i2 (by simp) o q⟩
  item := by
    intro X hP hw hK hc i pins s σ H E I hf st hg
    subst hP hw hK
    obtain ⟨hz, hTI, ⟨x0, y0, hTO⟩, h1, h2⟩ := st
    obtain ⟨xs, ys, x, y, hqx, hqy, hx, hy⟩ := hg
    obtain ⟨its, rv, p, _⟩ := I.list hqx
    obtain ⟨its2, rv2, p2, _⟩ := I.list hqy
    obtain ⟨u, hu, ru⟩ := rv.get hx
    obtain ⟨u2, hu2, ru2⟩ := rv2.get hy
    have hzl : z < s.heap.objs.size := Heap.lt_size hz
    refine wpAny_pyNext_zip_item D hz hTI hTO h1 h2 p.isList p2.isList (x := u) (y := u2) (by simpa using hu) (by simpa using hu2) fun h' z' TO' h1' h2' hT hsz hk => ?_
    refine ⟨_, rfl, wpAny_letOwnedTupleGo_zip (s := { s with heap := h' }) z' fun h'' z'' sb => ?_⟩
    have hT2 : h''.get? s.heap.objs.size = some { cls := .type "tuple", data := .seq #[u, u2] } := (sb.2 _ (Nat.ne_of_gt hzl)).trans hT
    have new : ObjOk X.prog X.w (upd H s.heap.objs.size (.tup [x, y])) h'' s.heap.objs.size (.tup [x, y]) :=
      ⟨by show 2 ≤ sizeLine; decide, [u, u2], .cons ru (.cons ru2 .nil), ⟨_, hT2, rfl, _, rfl⟩⟩
    have I1 : Inv X pins σ (upd H s.heap.objs.size (.tup [x, y])) { s with heap := h'' } :=
      I.turnedNew (t' := s.toks) (ch := [z, TI, TO, i1, i2]) (fun c o hb q => (sb.2 c (fun q' => hb (by simp [q']))).trans (hk c o (fun q' => hb (by simp [q'])) (fun q' => hb (by simp [q'])) (fun q' => hb (by simp [q'])) (fun q' => hb (by simp [q'])) q)) hf (Nat.le_refl _) new
    refine ⟨.ref s.heap.objs.size, _, I1, rfl, ⟨_, x, y, rfl, I.hok.fresh (Nat.le_refl _), rfl, fun l hl => by rw [I.list_inj hl hqx]; exact hx, fun l hl => by rw [I.list_inj hl hqy]; exact hy⟩, ⟨z'', ?_, ⟨u, u2, ?_⟩, ?_, ?_⟩, fun c hcm => ?_⟩
    · exact (sb.2 _ D.TIz).trans (hk _ _ D.TIz D.TITO D.TIi1 D.TIi2 hTI)
    · exact (sb.2 _ D.TOz).trans TO'
    · exact h1'.at fun o q => (sb.2 _ D.i1z).trans q
    · exact h2'.at fun o q => (sb.2 _ D.i2z).trans q
    · have hlt : c < s.heap.objs.size := by
        have e' : c = z ∨ c = TI ∨ c = TO ∨ c = i1 ∨ c = i2 := by simpa using hcm
        rcases e' with q | q | q | q | q
        · rw [q]; exact hzl
        · rw [q]; exact Heap.lt_size hTI
        · rw [q]; exact Heap.lt_size hTO
        · rw [q]; obtain ⟨_, e1, _⟩ := h1; exact Heap.lt_size e1
        · rw [q]; obtain ⟨_, e2, _⟩ := h2; exact Heap.lt_size e2
      rw [upd_ne (Nat.ne_of_lt hlt)]
      exact (hf c hcm).1
  done := by
    intro X hP hw hK hc i pins s σ H E I hf st hg
    subst hP hw hK
    obtain ⟨hz, hTI, ⟨x0, y0, hTO⟩, h1, h2⟩ := st
    obtain ⟨xs, ys, hqx, hqy, hend⟩ := hg
    obtain ⟨its, rv, p, _⟩ := I.list hqx
    obtain ⟨its2, rv2, p2, _⟩ := I.list hqy
    have l1 := rv.length
    have l2 := rv2.length
    have he : its.toArray[i]? = none ∨ its2.toArray[i]? = none := by
      rcases hend with q | q
      · exact .inl (by simp; omega)
      · exact .inr (by simp; omega)
    exact wpAny_pyNext_zip_end (I.ok.hd hc) D hz hTI hTO h1 h2 p.isList p2.isList he fun h' hk => ⟨rfl, I.turnedL (t' := s.toks) (ch := [z, TI, TO, i1, i2]) (fun c o hb q =>
      hk c o (fun q' => hb (by simp [q'])) (fun q' => hb (by simp [q'])) (fun q' => hb (by simp [q'])) (fun q' => hb (by simp [q'])) q) hf⟩
  self := fun A i s Q E st h => wpAny_pyIter_zip st.1 h
def iZip (K : PySem.W.Frag) (ta : TA) : TI := fun σ H R => ta σ H fun vs H1 => ∃ a b xs ys, vs = [.ref a, .ref b] ∧ SqL K H1 a xs ∧ SqL K H1 b ys ∧ R (Itz K a b) H1
theorem pi_zip {X : Cx} {e e2 : Expr} {ta : TA} {p pos tpos : Pos} {elts : List Expr} {kk : Nat} (hg : Gl X "zip") (hm : X.mg "zip" = none) (ha : PA X [e, e2] ta)
    (hs : starEach [e, e2] X.env = (false, eval e X.env) :: starEach [e2] X.env := by rfl) (hpl : (backTo pos (starEach [e2] X.env)).any (·.1) = false := by rfl) :
    PI X (.Tuple elts kk tpos) (.Call (.Name "zip" p) [e, e2] [] pos) (iZip X.K ta) := by
  intro pins s σ H R I h
  refine Call_ (ld_blt I hg hm boot_zip5 (PyProof.Rows.callWith_type1 (thn (ha pos pins s σ H _ I h) fun us s1 ⟨vs, H1, I1, r1, q1⟩ => ?_) hs hpl))
  obtain ⟨a, b, xs, ys, ex, hqx, hqy, q⟩ := q1
  subst ex
  cases r1 with
  | cons r rr =>
    cases rr with
    | cons r' rr =>
      cases rr
      cases r
      cases r'
      obtain ⟨its, rv, p1, _⟩ := I1.list hqx
      obtain ⟨its2, rv2, p2, _⟩ := I1.list hqy
      have la : a < s1.heap.objs.size := p1.lt
      have lb : b < s1.heap.objs.size := p2.lt
      refine call_zip_2 p1.isList p2.isList fun h' hz hTI hTO h1 h2 hsz hk => wpAny_pyIter_zip hz ?_
      have I2 : Inv X pins σ H1 { s1 with heap := h' } := I1.kept (t' := s1.toks) hk
      refine ⟨s1.heap.objs.size + 4, [s1.heap.objs.size + 4, s1.heap.objs.size + 2, s1.heap.objs.size + 3, s1.heap.objs.size, s1.heap.objs.size + 1], _, _, H1, rfl, I2, turn_zip (PySem.W.ktu_apart s1.heap.objs.size a b la lb), ⟨hz, hTI, ⟨_, _, hTO⟩, h1, h2⟩, fun c hcm => ?_, q⟩
      have e' : c = s1.heap.objs.size + 4 ∨ c = s1.heap.objs.size + 2 ∨ c = s1.heap.objs.size + 3 ∨ c = s1.heap.objs.size ∨ c = s1.heap.objs.size + 1 := by simpa using hcm
      have hle : s1.heap.objs.size ≤ c := by
        rcases e' with z | z | z | z | z
        · rw [z]; exact Nat.le_add_right _ _
        · rw [z]; exact Nat.le_add_right _ _
        · rw [z]; exact Nat.le_add_right _ _
        · rw [z]; exact Nat.le_refl _
        · rw [z]; exact Nat.le_add_right _ _
      exact I1.fpOk hle (I1.hok.fresh hle)
end L2

section 
namespace Bits
open PySem PyProof.Rows

theorem nat_and_mul_pow (k : Nat) : ∀ a b : Nat, a < 2 ^ k → a &&& (b * 2 ^ k) = 0 := by
  induction k with
  | zero =>
    intro a b h
    have h0 : a = 0 := by
      rw [Nat.pow_zero] at h
      omega
    subst h0
    simp
  | succ k ih =>
    intro a b h
    have hm : (b * 2 ^ (k + 1)) = (b * 2 ^ k) * 2 := by rw [Nat.pow_succ, Nat.mul_assoc]
    have hlt : a / 2 < 2 ^ k := by
      rw [Nat.pow_succ] at h
      generalize 2 ^ k = m at h ⊢
      omega
    have i := ih (a / 2) b hlt
    rw [hm]
    generalize b * 2 ^ k = B at i ⊢
    have e : (a &&& (B * 2)) / 2 = a / 2 &&& (B * 2) / 2 := Nat.and_div_two
    have e2 : (B * 2) / 2 = B := by omega
    have o := @Nat.and_mod_two_eq_one a (B * 2)
    rw [e2, i] at e
    omega

theorem natCast_mul_pow (m k : Nat) : (m : Int) * 2 ^ k = ((m * 2 ^ k : Nat) : Int) := by
  rw [two_pow_cast]
  first
    | exact (Int.natCast_mul _ _).symm
    | simp

/-- low bits a, high part b: (b << k) | a -/
theorem bitOr_join {a b : Int} {k : Nat} (h0 : 0 ≤ a) (h1 : a < 2 ^ k) (hb : 0 ≤ b) : Builtin.bitOr a (b * 2 ^ k) = a + b * 2 ^ k := by
  obtain ⟨n, rfl⟩ := Int.eq_ofNat_of_zero_le h0
  obtain ⟨m, rfl⟩ := Int.eq_ofNat_of_zero_le hb
  have hn : n < 2 ^ k := by
    rw [two_pow_cast] at h1
    omega
  have e : Builtin.bitAnd (n : Int) ((m * 2 ^ k : Nat) : Int) = 0 := by
    rw [bitAnd_pp (by omega) (by omega), Int.toNat_natCast, Int.toNat_natCast, nat_and_mul_pow k n m hn] <;> rfl
  rw [natCast_mul_pow, bitOr_and, e]
  omega
theorem bitOr_join' {a b : Int} {k : Nat} (h0 : 0 ≤ a) (h1 : a < 2 ^ k) (hb : 0 ≤ b) : Builtin.bitOr (b * 2 ^ k) a = a + b * 2 ^ k := by
  rw [bitOr_comm]
  exact bitOr_join h0 h1 hb

/-- x & ((1 << k) - 1) -/
theorem bitAnd_mask {x : Int} (k : Nat) (hx : 0 ≤ x) : Builtin.bitAnd x (2 ^ k - 1) = x % 2 ^ k := by
  obtain ⟨n, rfl⟩ := Int.eq_ofNat_of_zero_le hx
  have hp : 0 < 2 ^ k := Nat.two_pow_pos k
  rw [two_pow_cast]
  have e : ((2 ^ k : Nat) : Int) - 1 = ((2 ^ k - 1 : Nat) : Int) := by
    generalize (2 : Nat) ^ k = m at hp
    omega
  rw [e, bitAnd_pp (by omega) (by omega), Int.toNat_natCast, Int.toNat_natCast, Nat.and_two_pow_sub_one_eq_mod]
  first
    | rfl
    | exact Int.natCast_emod _ _
    | simp

/-- (x >> i) & 1 -/
theorem bit_at {x : Int} (i : Nat) : Builtin.bitAnd (x.fdiv (2 ^ i)) 1 = x / 2 ^ i % 2 := by
  have hp : (0 : Int) ≤ 2 ^ i := by
    rw [two_pow_cast]
    exact Int.natCast_nonneg _
  rw [Int.fdiv_eq_ediv_of_nonneg _ hp, bitAnd_m1]

theorem nat_xor_add_and (m : Nat) : ∀ n : Nat, (m ^^^ n) + 2 * (m &&& n) = m + n := by
  induction m using Nat.strongRecOn with
  | _ m ih =>
    intro n
    by_cases h0 : m = 0
    · subst h0
      simp
    · have ih' := ih (m / 2) (by omega) (n / 2)
      rw [← Nat.xor_div_two, ← Nat.and_div_two] at ih'
      have o1 := @Nat.xor_mod_two_eq_one m n
      have a1 := @Nat.and_mod_two_eq_one m n
      omega

theorem bitXor_pp {x y : Int} (hx : 0 ≤ x) (hy : 0 ≤ y) : Builtin.bitXor x y = ((x.toNat ^^^ y.toNat : Nat) : Int) := by
  have e := nat_xor_add_and x.toNat y.toNat
  rw [bitXor_and, bitAnd_pp hx hy]
  omega
theorem bitOr_pp {x y : Int} (hx : 0 ≤ x) (hy : 0 ≤ y) : Builtin.bitOr x y = ((x.toNat ||| y.toNat : Nat) : Int) := by
  have e := nat_or_add_and x.toNat y.toNat
  rw [bitOr_and, bitAnd_pp hx hy]
  omega
theorem bitXor_nonneg {x y : Int} (hx : 0 ≤ x) (hy : 0 ≤ y) : 0 ≤ Builtin.bitXor x y := by
  rw [bitXor_pp hx hy]
  omega
theorem bitOr_nonneg {x y : Int} (hx : 0 ≤ x) (hy : 0 ≤ y) : 0 ≤ Builtin.bitOr x y := by
  rw [bitOr_pp hx hy]
  omega

end Bits
end 

section 
namespace TL
open PySem PySem.Builtin PySem.Builtin.Str PySem.StrLaws

abbrev tl (x : Str) : List Nat := x.cps.toList
theorem len_tl (x : Str) : x.length = (tl x).length := by simp [tl, Str.length]
theorem ext_tl {x y : Str} (h : tl x = tl y) : x = y := Str.ext' (Array.toList_inj.mp h)
theorem tl_append (x y : Str) : tl (x ++ y) = tl x ++ tl y := by
  show (x ++ y).cps.toList = _
  rw [Str.cps_append, Array.toList_append]
theorem tl_mk (l : List Nat) : tl ⟨l.toArray⟩ = l := rfl
theorem mk_tl (x : Str) : (⟨(tl x).toArray⟩ : Str) = x := ext_tl rfl
theorem map_tl_inj : ∀ {l m : List Str}, l.map tl = m.map tl → l = m
  | [], [], _ => rfl
  | [], _ :: _, h => by simp at h
  | _ :: _, [], h => by simp at h
  | x :: l, y :: m, h => by
    rw [List.map_cons, List.map_cons] at h
    injection h with h1 h2
    rw [ext_tl h1, map_tl_inj h2]
theorem tl_ofString (s : String) : tl (Str.ofString s) = s.toList.map Char.toNat := PyProof.Rows.signs_ofString s

/-! ### the list functions -/
/-- S stands at the head of l -/
def pre (S l : List Nat) : Bool := l.take S.length == S
/-- l cut at each S from the left; k signs are still to be passed over -/
def spl (S : List Nat) : Nat → List Nat → List Nat → List (List Nat)
  | _, acc, [] => [acc]
  | 0, acc, c :: r => if pre S (c :: r) = true then acc :: spl S (S.length - 1) [] r else spl S 0 (acc ++ [c]) r
  | k + 1, acc, _ :: r => spl S k acc r
/-- what stands before the first S, and behind it -/
def par (S : List Nat) : List Nat → List Nat → Option (List Nat × List Nat)
  | _, [] => none
  | acc, c :: r => if pre S (c :: r) = true then some (acc, (c :: r).drop S.length) else par S (acc ++ [c]) r

theorem spl_nil (S : List Nat) (k : Nat) (acc : List Nat) : spl S k acc [] = [acc] := by cases k <;> rfl
theorem spl_hit {S acc r : List Nat} {c : Nat} (h : pre S (c :: r) = true) : spl S 0 acc (c :: r) = acc :: spl S (S.length - 1) [] r := by
  show (if pre S (c :: r) = true then acc :: spl S (S.length - 1) [] r else spl S 0 (acc ++ [c]) r) = _
  rw [if_pos h]
theorem spl_miss {S acc r : List Nat} {c : Nat} (h : pre S (c :: r) = false) : spl S 0 acc (c :: r) = spl S 0 (acc ++ [c]) r := by
  show (if pre S (c :: r) = true then acc :: spl S (S.length - 1) [] r else spl S 0 (acc ++ [c]) r) = _
  rw [if_neg (by rw [h]; exact Bool.false_ne_true)]
theorem spl_pass (S : List Nat) : ∀ (k : Nat) (acc l : List Nat), spl S k acc l = spl S 0 acc (l.drop k)
  | 0, _, _ => by rw [List.drop_zero]
  | k + 1, acc, [] => by rw [List.drop_nil, spl_nil, spl_nil]
  | k + 1, acc, c :: r => by
    show spl S k acc r = spl S 0 acc (r.drop k)
    exact spl_pass S k acc r
theorem par_hit {S acc r : List Nat} {c : Nat} (h : pre S (c :: r) = true) : par S acc (c :: r) = some (acc, (c :: r).drop S.length) := by
  show (if pre S (c :: r) = true then some (acc, (c :: r).drop S.length) else par S (acc ++ [c]) r) = _
  rw [if_pos h]
theorem par_miss {S acc r : List Nat} {c : Nat} (h : pre S (c :: r) = false) : par S acc (c :: r) = par S (acc ++ [c]) r := by
  show (if pre S (c :: r) = true then some (acc, (c :: r).drop S.length) else par S (acc ++ [c]) r) = _
  rw [if_neg (by rw [h]; exact Bool.false_ne_true)]

theorem pre_nil {S : List Nat} (hS : S ≠ []) : pre S [] = false := by
  cases S with
  | nil => exact absurd rfl hS
  | cons s S => rfl
theorem pre_of_head {s c : Nat} (S r : List Nat) (h : c ≠ s) : pre (s :: S) (c :: r) = false := by
  cases hp : pre (s :: S) (c :: r) with
  | false => rfl
  | true =>
    have e : (c :: r).take (s :: S).length = s :: S := eq_of_beq hp
    rw [List.length_cons, List.take_succ_cons] at e
    injection e with e1 e2
    exact absurd e1 h
theorem pre_self (S r : List Nat) : pre S (S ++ r) = true := by
  show ((S ++ r).take S.length == S) = true
  have e : (S ++ r).take S.length = S := List.take_left
  rw [e] <;> exact beq_self_eq_true S

theorem getElem_drop_cons {L : List Nat} {a : Nat} (h : a < L.length) : ∃ c, L.drop a = c :: L.drop (a + 1) := ⟨L[a], List.drop_eq_getElem_cons h⟩
theorem spl_run (S L : List Nat) : ∀ (m a : Nat) (acc : List Nat), a + m ≤ L.length → (∀ k, a ≤ k → k < a + m → pre S (L.drop k) = false) →
    spl S 0 acc (L.drop a) = spl S 0 (acc ++ (L.drop a).take m) (L.drop (a + m))
  | 0, a, acc, _, _ => by rw [List.take_zero, List.append_nil, Nat.add_zero]
  | m + 1, a, acc, h, hn => by
    have hlt : a < L.length := by omega
    obtain ⟨c, e⟩ := getElem_drop_cons hlt
    have h0 := hn a (Nat.le_refl _) (by omega)
    have ih := spl_run S L m (a + 1) (acc ++ [c]) (by omega) (fun k h1 h2 => hn k (by omega) (by omega))
    have e2 : a + 1 + m = a + (m + 1) := by omega
    rw [e2] at ih
    rw [e] at h0
    rw [e, spl_miss h0, ih, List.take_succ_cons, List.append_assoc] <;> rfl
theorem par_run (S L : List Nat) : ∀ (m a : Nat) (acc : List Nat), a + m ≤ L.length → (∀ k, a ≤ k → k < a + m → pre S (L.drop k) = false) →
    par S acc (L.drop a) = par S (acc ++ (L.drop a).take m) (L.drop (a + m))
  | 0, a, acc, _, _ => by rw [List.take_zero, List.append_nil, Nat.add_zero]
  | m + 1, a, acc, h, hn => by
    have hlt : a < L.length := by omega
    obtain ⟨c, e⟩ := getElem_drop_cons hlt
    have h0 := hn a (Nat.le_refl _) (by omega)
    have ih := par_run S L m (a + 1) (acc ++ [c]) (by omega) (fun k h1 h2 => hn k (by omega) (by omega))
    have e2 : a + 1 + m = a + (m + 1) := by omega
    rw [e2] at ih
    rw [e] at h0
    rw [e, par_miss h0, ih, List.take_succ_cons, List.append_assoc] <;> rfl
theorem drop_two (L : List Nat) (a b : Nat) : (L.drop a).drop b = L.drop (a + b) := by
  first
    | rw [List.drop_drop]
    | rw [List.drop_drop, Nat.add_comm]
theorem spl_at {S L : List Nat} (hS : S ≠ []) {c : Nat} {acc : List Nat} (h : pre S (L.drop c) = true) : spl S 0 acc (L.drop c) = acc :: spl S 0 [] (L.drop (c + S.length)) := by
  rw [← drop_two]
  cases e : L.drop c with
  | nil => rw [e, pre_nil hS] at h; cases h
  | cons d r =>
    rw [e] at h
    rw [spl_hit h, spl_pass]
    cases S with
    | nil => exact absurd rfl hS
    | cons s S => rfl
theorem par_at {S L : List Nat} (hS : S ≠ []) {c : Nat} {acc : List Nat} (h : pre S (L.drop c) = true) : par S acc (L.drop c) = some (acc, L.drop (c + S.length)) := by
  rw [← drop_two]
  cases e : L.drop c with
  | nil => rw [e, pre_nil hS] at h; cases h
  | cons d r =>
    rw [e] at h
    rw [par_hit h]

/-! ### the model's split and partition are these -/
theorem at_iff {x y : Str} (hy : tl y ≠ []) (i : Nat) : At x y x.length i ↔ pre (tl y) ((tl x).drop i) = true := by
  have hx := len_tl x
  have hl := len_tl y
  constructor
  · intro h
    have h2 := h.2
    rw [subAt_eq, hl] at h2
    exact h2
  · intro h
    have e : ((tl x).drop i).take (tl y).length = tl y := eq_of_beq h
    have e1 := congrArg List.length e
    rw [List.length_take, List.length_drop] at e1
    have e2 : 0 < (tl y).length := List.length_pos_iff.mpr hy
    refine ⟨by omega, ?_⟩
    rw [subAt_eq, hl]
    exact h
theorem no_at {x y : Str} (hy : tl y ≠ []) {i : Nat} (h : ¬ At x y x.length i) : pre (tl y) ((tl x).drop i) = false := by
  cases hp : pre (tl y) ((tl x).drop i) with
  | false => rfl
  | true => exact absurd ((at_iff hy i).mpr hp) h
theorem len1 {y : Str} (hy : tl y ≠ []) : 1 ≤ y.length := by
  have e2 : 0 < (tl y).length := List.length_pos_iff.mpr hy
  rw [len_tl y]
  exact e2
theorem tl_strSub (x : Str) (i j : Nat) : tl (strSub x i j) = ((tl x).drop i).take (j - i) := strSub_toList x i j
theorem tl_strSub_end (x : Str) (i : Nat) : tl (strSub x i x.length) = (tl x).drop i := by
  rw [tl_strSub, len_tl x]
  exact List.take_of_length_le (by rw [List.length_drop] <;> omega)

theorem parts_spl {x y : Str} (hy : tl y ≠ []) : ∀ (cuts : List Nat) (a f : Nat), a ≤ (tl x).length → ChainG x y x.length a cuts f → (∀ k, f ≤ k → ¬ At x y x.length k) →
    (partsFrom x y.length a cuts).map tl = spl (tl y) 0 [] ((tl x).drop a)
  | [], a, f, ha, h, hn => by
    have e : f = a := h
    subst e
    show [tl (strSub x f x.length)] = _
    have run := spl_run (tl y) (tl x) ((tl x).length - f) f [] (by omega) (fun k h1 _ => no_at hy (hn k h1))
    have e2 : f + ((tl x).length - f) = (tl x).length := by omega
    rw [e2, List.drop_length, spl_nil, List.nil_append, List.take_of_length_le (by rw [List.length_drop] <;> omega)] at run
    rw [run, tl_strSub_end]
  | c :: r, a, f, ha, h, hn => by
    obtain ⟨h1, h2, h3, h4⟩ := h
    have hc : c + y.length ≤ x.length := h2.1
    have hx := len_tl x
    have hl := len_tl y
    have ih := parts_spl hy r (c + y.length) f (by omega) h4 hn
    show tl (strSub x a c) :: (partsFrom x y.length (c + y.length) r).map tl = _
    have run := spl_run (tl y) (tl x) (c - a) a [] (by omega) (fun k k1 k2 => no_at hy (h3 k k1 (by omega)))
    have e2 : a + (c - a) = c := by omega
    rw [e2, List.nil_append, spl_at hy ((at_iff hy c).mp h2)] at run
    rw [run, ih, tl_strSub, hl]

/-- hk: by kind_ok where the separator is plain -/
theorem split_spl (x y : Str) (hy : tl y ≠ []) (hk : ¬ Builtin.Str.strKind x < Builtin.Str.strKind y) : (Txt.split x y).map tl = spl (tl y) 0 [] (tl x) := by
  obtain ⟨f, g, hn⟩ := occ_tight x y (len1 hy)
  have key := parts_spl hy _ 0 f (Nat.zero_le _) g hn
  rw [List.drop_zero] at key
  have none_case : occurrences x y 0 x.length (x.length + 1) = [] → [x].map tl = spl (tl y) 0 [] (tl x) := fun ho => by
    rw [ho] at key
    rw [← key]
    show [tl x] = [tl (strSub x 0 x.length)]
    rw [sub_whole]
  unfold Txt.split
  by_cases h1 : (decide (x.length < y.length) || decide (Builtin.Str.strKind x < Builtin.Str.strKind y)) = true
  · rw [if_pos h1]
    have hlt : x.length < y.length := by
      simp only [Bool.or_eq_true, decide_eq_true_eq] at h1
      rcases h1 with h | h
      · exact h
      · exact absurd h hk
    refine none_case ?_
    cases ho : occurrences x y 0 x.length (x.length + 1) with
    | nil => rfl
    | cons c r =>
      rw [ho] at g
      have hc : c + y.length ≤ x.length := g.2.1.1
      omega
  · rw [if_neg h1]
    by_cases h2 : (occurrences x y 0 x.length (x.length + 1)).isEmpty = true
    · rw [if_pos h2]
      exact none_case (List.isEmpty_iff.mp h2)
    · rw [if_neg h2, partsBetween_eq]
      exact key
theorem kind_ok {x y : Str} (h : y.cps.all (· < 256) = true) : ¬ Builtin.Str.strKind x < Builtin.Str.strKind y := by
  have e : Builtin.Str.strKind y = 1 := by unfold PySem.Builtin.Str.strKind; rw [if_pos h]
  rw [e]
  unfold PySem.Builtin.Str.strKind
  split
  · omega
  · split <;> omega

theorem partition_par (x y : Str) (hy : tl y ≠ []) :
    Txt.partition x y = (match par (tl y) [] (tl x) with | some (a, b) => (⟨a.toArray⟩, y, ⟨b.toArray⟩) | none => (x, Str.empty, Str.empty)) := by
  have hx := len_tl x
  have hl := len_tl y
  rcases PyProof.Rows.partition_whole x y with ⟨e, hn⟩ | ⟨i, e, hi, hn⟩
  · have run := par_run (tl y) (tl x) (tl x).length 0 [] (by omega) (fun k _ _ => no_at hy (hn k))
    rw [List.drop_zero, Nat.zero_add, List.drop_length] at run
    rw [e, run] <;> rfl
  · have hb : i + y.length ≤ x.length := hi.1
    have run := par_run (tl y) (tl x) i 0 [] (by omega) (fun k _ k2 => no_at hy (hn k (by omega)))
    rw [List.drop_zero, Nat.zero_add, List.nil_append, par_at hy ((at_iff hy i).mp hi)] at run
    rw [e, run]
    have e1 : strSub x 0 i = ⟨((tl x).take i).toArray⟩ := ext_tl (by rw [tl_strSub, List.drop_zero, Nat.sub_zero])
    have e2 : strSub x (i + y.length) x.length = ⟨((tl x).drop (i + (tl y).length)).toArray⟩ := ext_tl (by rw [tl_strSub_end, hl])
    rw [e1, e2] <;> rfl

/-! ### computing spl and par -/
/-- a part that the separator does not begin in, then the separator -/
theorem spl_part {S p rest acc : List Nat} (hS : S ≠ []) (h : ∀ i, i < p.length → pre S ((p ++ (S ++ rest)).drop i) = false) :
    spl S 0 acc (p ++ (S ++ rest)) = (acc ++ p) :: spl S 0 [] rest := by
  have run := spl_run S (p ++ (S ++ rest)) p.length 0 acc (by rw [List.length_append]; omega) (fun k _ k2 => h k (by omega))
  have ed : (p ++ (S ++ rest)).drop p.length = S ++ rest := List.drop_left
  rw [List.drop_zero, Nat.zero_add, List.take_left] at run
  rw [run, spl_at hS (by rw [ed]; exact pre_self S rest), ← drop_two, ed, List.drop_left]
theorem spl_last {S p acc : List Nat} (h : ∀ i, i < p.length → pre S (p.drop i) = false) : spl S 0 acc p = [acc ++ p] := by
  have run := spl_run S p p.length 0 acc (by omega) (fun k _ k2 => h k (by omega))
  rw [List.drop_zero, Nat.zero_add, List.drop_length, spl_nil, List.take_length] at run
  exact run
theorem par_part {S p rest acc : List Nat} (hS : S ≠ []) (h : ∀ i, i < p.length → pre S ((p ++ (S ++ rest)).drop i) = false) :
    par S acc (p ++ (S ++ rest)) = some (acc ++ p, rest) := by
  have run := par_run S (p ++ (S ++ rest)) p.length 0 acc (by rw [List.length_append]; omega) (fun k _ k2 => h k (by omega))
  have ed : (p ++ (S ++ rest)).drop p.length = S ++ rest := List.drop_left
  rw [List.drop_zero, Nat.zero_add, List.take_left] at run
  rw [run, par_at hS (by rw [ed]; exact pre_self S rest), ← drop_two, ed, List.drop_left]
theorem par_none {S p acc : List Nat} (h : ∀ i, i < p.length → pre S (p.drop i) = false) : par S acc p = none := by
  have run := par_run S p p.length 0 acc (by omega) (fun k _ k2 => h k (by omega))
  rw [List.drop_zero, Nat.zero_add, List.drop_length] at run
  exact run
/-- the separator's first sign is not in the part -/
theorem free_of {s : Nat} {S p q : List Nat} (h : s ∉ p) : ∀ i, i < p.length → pre (s :: S) ((p ++ q).drop i) = false := fun i hi => by
  have hlt : i < (p ++ q).length := by rw [List.length_append]; omega
  have e : (p ++ q).drop i = (p ++ q)[i] :: (p ++ q).drop (i + 1) := List.drop_eq_getElem_cons hlt
  rw [e]
  refine pre_of_head _ _ fun z => h ?_
  have e1 : (p ++ q)[i] = p[i] := List.getElem_append_left hi
  rw [← z, e1]
  exact List.getElem_mem hi
theorem spl_part1 {s : Nat} {S p rest acc : List Nat} (h : s ∉ p) : spl (s :: S) 0 acc (p ++ (s :: S ++ rest)) = (acc ++ p) :: spl (s :: S) 0 [] rest :=
  spl_part (by simp) (free_of h)
theorem spl_last1 {s : Nat} {S p acc : List Nat} (h : s ∉ p) : spl (s :: S) 0 acc p = [acc ++ p] := spl_last fun i hi => by
  have z := free_of (S := S) (q := []) h i hi
  rw [List.append_nil] at z
  exact z
theorem par_part1 {s : Nat} {S p rest acc : List Nat} (h : s ∉ p) : par (s :: S) acc (p ++ (s :: S ++ rest)) = some (acc ++ p, rest) := par_part (by simp) (free_of h)
theorem par_none1 {s : Nat} {S p acc : List Nat} (h : s ∉ p) : par (s :: S) acc p = none := par_none fun i hi => by
  have z := free_of (S := S) (q := []) h i hi
  rw [List.append_nil] at z
  exact z

/-- joined lists -/
def joinL (S : List Nat) : List (List Nat) → List Nat
  | [] => []
  | [p] => p
  | p :: q :: r => p ++ (S ++ joinL S (q :: r))
theorem tl_join (y : Str) : ∀ parts : List Str, tl (Str.join y parts) = joinL (tl y) (parts.map tl)
  | [] => rfl
  | [_] => rfl
  | x :: z :: r => by
    show tl (x ++ y ++ Str.join y (z :: r)) = tl x ++ (tl y ++ joinL (tl y) ((z :: r).map tl))
    rw [tl_append, tl_append, tl_join y (z :: r), List.append_assoc]
theorem spl_join {s : Nat} {S : List Nat} : ∀ {parts : List (List Nat)}, parts ≠ [] → (∀ p ∈ parts, s ∉ p) → spl (s :: S) 0 [] (joinL (s :: S) parts) = parts
  | [], h, _ => absurd rfl h
  | [p], _, hp => by
    show spl (s :: S) 0 [] p = [p]
    rw [spl_last1 (hp p (List.mem_singleton.mpr rfl)), List.nil_append]
  | p :: q :: r, _, hp => by
    show spl (s :: S) 0 [] (p ++ (s :: S ++ joinL (s :: S) (q :: r))) = p :: q :: r
    rw [spl_part1 (hp p (List.mem_cons_self ..)), List.nil_append, spl_join (by simp) fun z hz => hp z (List.mem_cons_of_mem _ hz)]
theorem join_eq (y : Str) (parts : List Str) : Txt.join y parts = Str.join y parts := glued_eq_join y parts
/-- THE READ-BACK: a joined text, split -/
theorem split_join {y : Str} {s : Nat} {S : List Nat} (ey : tl y = s :: S) (hk : y.cps.all (· < 256) = true) {parts : List Str} (hne : parts ≠ []) (hp : ∀ p ∈ parts, s ∉ tl p) :
    Txt.split (Txt.join y parts) y = parts := by
  refine map_tl_inj ?_
  rw [split_spl _ y (by rw [ey]; simp) (kind_ok hk), join_eq, tl_join, ey]
  refine spl_join (fun e => hne (List.map_eq_nil_iff.mp e)) fun p h => ?_
  obtain ⟨z, hz, rfl⟩ := List.mem_map.mp h
  exact hp z hz
/-- a text cut at its first separator -/
theorem partition_app {y : Str} {s : Nat} {S : List Nat} (ey : tl y = s :: S) {a b : Str} (h : s ∉ tl a) : Txt.partition (a ++ y ++ b) y = (a, y, b) := by
  rw [partition_par _ y (by rw [ey]; simp), tl_append, tl_append, List.append_assoc, ey, par_part1 h]
  show ((⟨([] ++ tl a).toArray⟩ : Str), y, (⟨(tl b).toArray⟩ : Str)) = _
  rw [List.nil_append, mk_tl, mk_tl]
theorem partition_none {y : Str} {s : Nat} {S : List Nat} (ey : tl y = s :: S) {a : Str} (h : s ∉ tl a) : Txt.partition a y = (a, Str.empty, Str.empty) := by
  rw [partition_par _ y (by rw [ey]; simp), ey, par_none1 h]

/-! ### digits -/
/-- the signs of a number -/
def numL (n : Nat) : List Nat := (Nat.toDigits 10 n).map Char.toNat
theorem tl_num (n : Nat) : tl (Str.ofString (toString ((n : Nat) : Int))) = numL n := PySem.W.KIN.signs_num n
theorem digitChar_nat : ∀ d : Nat, d < 10 → (Nat.digitChar d).toNat = 48 + d := by decide
theorem numL_lt {n : Nat} (h : n < 10) : numL n = [48 + n] := by
  unfold numL
  rw [Nat.toDigits_of_lt_base h]
  show [(Nat.digitChar n).toNat] = _
  rw [digitChar_nat n h]
theorem numL_step {n : Nat} (h : 10 ≤ n) : numL n = numL (n / 10) ++ [48 + n % 10] := by
  have hm : n % 10 < 10 := Nat.mod_lt n (by decide)
  have t : Nat.toDigits 10 (n / 10) ++ Nat.toDigits 10 (n % 10) = Nat.toDigits 10 (10 * (n / 10) + n % 10) := Nat.toDigits_append_toDigits (by decide) (by omega) hm
  rw [Nat.div_add_mod] at t
  show (Nat.toDigits 10 n).map Char.toNat = _
  rw [← t, List.map_append, Nat.toDigits_of_lt_base hm]
  show (Nat.toDigits 10 (n / 10)).map Char.toNat ++ [(Nat.digitChar (n % 10)).toNat] = _
  rw [digitChar_nat _ hm] <;> rfl
theorem numL_digits (n : Nat) : NumText.AllDigits (numL n) := by
  induction n using Nat.strongRecOn with
  | _ n ih =>
    by_cases h : n < 10
    · rw [numL_lt h]
      intro c hc
      rw [List.mem_singleton.mp hc]
      omega
    · rw [numL_step (by omega)]
      intro c hc
      rcases List.mem_append.mp hc with hc | hc
      · exact ih (n / 10) (by omega) c hc
      · have hm : n % 10 < 10 := Nat.mod_lt n (by decide)
        rw [List.mem_singleton.mp hc]
        omega
theorem numL_ne (n : Nat) : numL n ≠ [] := by
  by_cases h : n < 10
  · rw [numL_lt h]
    simp
  · rw [numL_step (by omega)]
    simp
theorem numL_free {n s : Nat} (h : s < 48 ∨ 57 < s) : s ∉ numL n := fun hm => by
  have r := numL_digits n s hm
  omega
theorem numL_val (n : Nat) : NumText.digitsVal (numL n) = n := PySem.W.KIN.val_back n
theorem numL_inj {m n : Nat} (h : numL m = numL n) : m = n := by
  have e := congrArg NumText.digitsVal h
  rw [numL_val, numL_val] at e
  exact e
theorem numL_len {n k : Nat} (hk : 0 < k) (h : n < 10 ^ k) : (numL n).length ≤ k := by
  have z := PyProof.Rows.toString_length_le (v := (n : Int)) (by omega) hk (by
    have e : ((10 : Int) ^ k) = ((10 ^ k : Nat) : Int) := by
      first
        | exact (Int.natCast_pow 10 k).symm
        | simp
    rw [e]
    first | exact Int.ofNat_lt.mpr h | omega)
  rw [len_tl, tl_num] at z
  exact z
/-- int(str(n)) -/
theorem int_num {n : Nat} (h : (numL n).length ≤ 4300) : intText? (Str.ofString (toString ((n : Nat) : Int))) = some (n : Int) := by
  have e := intText_digits (x := Str.ofString (toString ((n : Nat) : Int))) (by rw [show (Str.ofString (toString ((n : Nat) : Int))).cps.toList = numL n from tl_num n]; exact numL_digits n)
    (by rw [show (Str.ofString (toString ((n : Nat) : Int))).cps.toList = numL n from tl_num n]; exact numL_ne n) (by rw [len_tl, tl_num]; exact h)
  rw [show (Str.ofString (toString ((n : Nat) : Int))).cps.toList = numL n from tl_num n, numL_val] at e
  exact e
/-- a program's own loop over digits: total = total * 10 + (ord(sign) - ord("0")) -/
theorem fold_digits : ∀ (l : List Nat) (a : Nat), NumText.AllDigits l → l.foldl (fun (t : Int) (c : Nat) => t * 10 + ((c : Int) - 48)) (a : Int) = ((l.foldl (fun acc c => acc * 10 + (c - 48)) a : Nat) : Int)
  | [], _, _ => rfl
  | c :: r, a, h => by
    have hc := h.head
    rw [List.foldl_cons, List.foldl_cons, ← fold_digits r _ h.tail]
    have e : (a : Int) * 10 + ((c : Int) - 48) = ((a * 10 + (c - 48) : Nat) : Int) := by omega
    rw [e]
theorem fold_num (n : Nat) : (numL n).foldl (fun (t : Int) (c : Nat) => t * 10 + ((c : Int) - 48)) 0 = (n : Int) := by
  have e := fold_digits (numL n) 0 (numL_digits n)
  have v := numL_val n
  unfold NumText.digitsVal at v
  rw [v] at e
  exact e

/-! ### words: x.split() -/
def wstep (st : List (List Nat) × List Nat) (c : Nat) : List (List Nat) × List Nat :=
  if Unicode.isSpace c = true then (if st.2 = [] then st else (st.1 ++ [st.2], [])) else (st.1, st.2 ++ [c])
def wfin (st : List (List Nat) × List Nat) : List (List Nat) := if st.2 = [] then st.1 else st.1 ++ [st.2]
theorem len0_tl (x : Str) : x.length = 0 ↔ tl x = [] := by
  rw [len_tl]
  exact List.length_eq_zero_iff
theorem step_tl (ws : List Str) (u : Str) (c : Nat) : ((KWd.step (ws, u) c).1.map tl, tl (KWd.step (ws, u) c).2) = wstep (ws.map tl, tl u) c := by
  by_cases hc : Unicode.isSpace c = true
  · by_cases hu : u.length = 0
    · have a : KWd.step (ws, u) c = (ws, u) := (if_pos hc).trans (if_pos hu)
      have b : wstep (ws.map tl, tl u) c = (ws.map tl, tl u) := (if_pos hc).trans (if_pos ((len0_tl u).mp hu))
      rw [a, b] <;> rfl
    · have a : KWd.step (ws, u) c = (ws ++ [u], Str.empty) := (if_pos hc).trans (if_neg hu)
      have b : wstep (ws.map tl, tl u) c = (ws.map tl ++ [tl u], []) := (if_pos hc).trans (if_neg fun z => hu ((len0_tl u).mpr z))
      rw [a, b]
      show ((ws ++ [u]).map tl, ([] : List Nat)) = _
      rw [List.map_append] <;> rfl
  · have a : KWd.step (ws, u) c = (ws, u ++ ⟨#[c]⟩) := if_neg hc
    have b : wstep (ws.map tl, tl u) c = (ws.map tl, tl u ++ [c]) := if_neg hc
    rw [a, b]
    show (ws.map tl, tl (u ++ ⟨#[c]⟩)) = _
    rw [tl_append] <;> rfl
theorem scan_tl : ∀ (l : List Nat) (st : KWd.St), ((l.foldl KWd.step st).1.map tl, tl (l.foldl KWd.step st).2) = l.foldl wstep (st.1.map tl, tl st.2)
  | [], _ => rfl
  | c :: r, (ws, u) => by
    show ((r.foldl KWd.step (KWd.step (ws, u) c)).1.map tl, tl (r.foldl KWd.step (KWd.step (ws, u) c)).2) = r.foldl wstep (wstep (ws.map tl, tl u) c)
    exact (scan_tl r (KWd.step (ws, u) c)).trans (congrArg (fun z => r.foldl wstep z) (step_tl ws u c))
theorem fin_tl : ∀ q : KWd.St, (KWd.fin q).map tl = wfin (q.1.map tl, tl q.2)
  | (ws, u) => by
    show (if u.length = 0 then ws else ws ++ [u]).map tl = (if tl u = [] then ws.map tl else ws.map tl ++ [tl u])
    by_cases hu : u.length = 0
    · rw [if_pos hu, if_pos ((len0_tl u).mp hu)]
    · rw [if_neg hu, if_neg (fun z => hu ((len0_tl u).mpr z)), List.map_append] <;> rfl
theorem words_tl (x : Str) : (Txt.words x).map tl = wfin ((tl x).foldl wstep ([], [])) := by
  rw [KWd.words_scan]
  exact (fin_tl (KWd.scan x)).trans (congrArg wfin (scan_tl (tl x) ([], Str.empty)))
/-- a run of signs that are no blanks -/
theorem wfold_word : ∀ (p : List Nat) (ws : List (List Nat)) (u : List Nat), (∀ c ∈ p, Unicode.isSpace c = false) → p.foldl wstep (ws, u) = (ws, u ++ p)
  | [], ws, u, _ => by rw [List.append_nil] <;> rfl
  | c :: r, ws, u, h => by
    have hc := h c (List.mem_cons_self ..)
    rw [List.foldl_cons]
    have e : wstep (ws, u) c = (ws, u ++ [c]) := if_neg (by rw [hc]; exact Bool.false_ne_true)
    rw [e, wfold_word r ws (u ++ [c]) fun d hd => h d (List.mem_cons_of_mem _ hd), List.append_assoc] <;> rfl
theorem isSpace_plain {c : Nat} (h1 : 33 ≤ c) (h2 : c ≤ 126) : Unicode.isSpace c = false := PySem.W.KWk.nosp h1 h2
/-- words joined by one blank -/
theorem wfold_join : ∀ (ps : List (List Nat)) (ws : List (List Nat)), ps ≠ [] → (∀ p ∈ ps, p ≠ [] ∧ ∀ c ∈ p, Unicode.isSpace c = false) → wfin ((joinL [32] ps).foldl wstep (ws, [])) = ws ++ ps
  | [], _, h, _ => absurd rfl h
  | [p], ws, _, h => by
    obtain ⟨h1, h2⟩ := h p (List.mem_singleton.mpr rfl)
    show wfin (p.foldl wstep (ws, [])) = _
    rw [wfold_word p ws [] h2, List.nil_append]
    exact if_neg h1
  | p :: q :: r, ws, _, h => by
    obtain ⟨h1, h2⟩ := h p (List.mem_cons_self ..)
    show wfin ((p ++ ([32] ++ joinL [32] (q :: r))).foldl wstep (ws, [])) = _
    rw [List.foldl_append, wfold_word p ws [] h2, List.nil_append, List.foldl_append]
    have e : [32].foldl wstep (ws, p) = (ws ++ [p], []) := by
      have hs : Unicode.isSpace 32 = true := by decide +kernel
      have a : wstep (ws, p) 32 = (if p = [] then (ws, p) else (ws ++ [p], [])) := if_pos hs
      exact a.trans (if_neg h1)
    rw [e, wfold_join (q :: r) (ws ++ [p]) (by simp) fun z hz => h z (List.mem_cons_of_mem _ hz), List.append_assoc] <;> rfl
end TL
end 

namespace L2
open PySem PySem.Spec PyProof.Rows

theorem notLong {n : Nat} (h : n ≤ 16777216) : Builtin.Str.tooLong n = false := by
  have e : (2 : Nat) ^ 24 = 16777216 := by decide
  unfold Builtin.Str.tooLong sizeLine
  exact decide_eq_false (by omega)

/-- a list of texts, of numbered texts -/
theorem vals_strs : ∀ l : List (Str × Tok), Vals ((l.map (·.1)).map V.str) (strValues l)
  | [] => .nil
  | p :: r => .cons ⟨p.2, rfl⟩ (vals_strs r)
theorem strs_of_vals : ∀ {ys : List Str} {us : List Value}, Vals (ys.map V.str) us → StrsAre us ys
  | [], _, .nil => .nil
  | y :: ys, _, .cons r t => by
    obtain ⟨k, rfl⟩ := r
    exact .cons y k (strs_of_vals t)

/-- a new list of texts, tracked -/
def rNewStrs (ys : List Str) : Hp → VK → Prop := fun H Q => ∀ p, H p = none → Q (.ref p) (upd H p (.lst (ys.map V.str)))

section
variable {X : Cx} {pins : List (Addr × Obj)} {σ : St} {H : Hp} {s : Shared} {Q : VK}
theorem laid_strs {l : List (Str × Tok)} {ys : List Str} {k : Nat} (I : Inv X pins σ H s) (e : l.map (·.1) = ys) (hz : ys.length ≤ sizeLine) (h : rNewStrs ys H Q) :
    EP X pins σ Q (.ref s.heap.objs.size) { s with toks := k, heap := s.heap.push { cls := .type "list", data := .seq (strValues l).toArray } } := by
  have hp := I.hok.fresh (Nat.le_refl _)
  refine ⟨.ref s.heap.objs.size, upd H s.heap.objs.size (.lst (ys.map V.str)), I.laid (fun b u q => Heap.get?_push_of_some _ q) (Nat.le_refl _) ⟨by rw [List.length_map]; exact hz, strValues l, _, ?_, Heap.get?_push_size _ rfl⟩, rfl, h _ hp⟩
  rw [← e]
  exact vals_strs l
theorem laid_parts {x y z : Str} {t u v : Tok} {k : Nat} (I : Inv X pins σ H s) (h : ∀ p, H p = none → Q (.ref p) (upd H p (.tup [.str x, .str y, .str z]))) :
    EP X pins σ Q (.ref s.heap.objs.size) { s with toks := k, heap := s.heap.push { cls := .type "tuple", data := .seq [Value.str x t, .str y u, .str z v].toArray } } := by
  have hp := I.hok.fresh (Nat.le_refl _)
  exact ⟨.ref s.heap.objs.size, upd H s.heap.objs.size (.tup [.str x, .str y, .str z]), I.laid (fun b u q => Heap.get?_push_of_some _ q) (Nat.le_refl _)
    ⟨by show 3 ≤ sizeLine; decide, [Value.str x t, .str y u, .str z v], .cons ⟨t, rfl⟩ (.cons ⟨u, rfl⟩ (.cons ⟨v, rfl⟩ .nil)), _, Heap.get?_push_size _ rfl, rfl, _, rfl⟩, rfl, h _ hp⟩
end

section
variable {X : Cx}

/-- x.split(sep) -/
theorem mt_split : MtR X "str.split" (fun x xs H Q => ∃ a b, x = .str a ∧ xs = [.str b] ∧ (b.length == 0) = false ∧ a.length + 2 ≤ sizeLine ∧ rNewStrs (Txt.split a b) H Q) := by
  intro pins s σ H x xs v us Q I rx rs h
  obtain ⟨a, b, rfl, rfl, hb, hz, h⟩ := h
  obtain ⟨t, rfl⟩ := rx
  cases rs with
  | cons r1 rs =>
    cases rs
    obtain ⟨u, rfl⟩ := r1
    have hl : (Txt.split a b).length ≤ sizeLine := Nat.le_trans (PyProof.Rows.split_le a b) hz
    have hn : (Builtin.Str.partsBetween a (Builtin.Str.occurrences a b 0 a.length (a.length + 1)) b.length).length ≤ sizeLine := by
      have e1 := StrLaws.occ_length_le a b 0 a.length (a.length + 1)
      rw [length_partsBetween]; omega
    cases h1 : (decide (a.length < b.length) || decide (Builtin.Str.strKind a < Builtin.Str.strKind b))
    · cases hf : (Builtin.Str.occurrences a b 0 a.length (a.length + 1)).isEmpty
      · refine call_meets F.slot_str_split (typeIs_str _ _ _) F.entry_str_split (F.args_str_split_2 _ _) (meets_str_split_sep a b t u h1 hb hf (by omega) hn) ?_
        show EP X pins σ Q (.ref s.heap.objs.size) { s with toks := _, heap := s.heap.push { cls := .type "list", data := .seq (strsFrom s.toks (Builtin.Str.partsBetween a (Builtin.Str.occurrences a b 0 a.length (a.length + 1)) b.length)).toArray } }
        rw [strsFrom_eq]
        exact laid_strs (ys := Txt.split a b) I ((numbered_texts _ _).trans ((if_neg (ne_true_of_eq_false h1)).trans (if_neg (ne_true_of_eq_false hf))).symm) hl h
      · refine call_meets F.slot_str_split (typeIs_str _ _ _) F.entry_str_split (F.args_str_split_2 _ _) (meets_str_split_not_found a b t u h1 hb hf) ?_
        exact laid_strs (l := [(a, t)]) (ys := Txt.split a b) (k := s.toks) I ((if_neg (ne_true_of_eq_false h1)).trans (if_pos hf)).symm hl h
    · refine call_meets F.slot_str_split (typeIs_str _ _ _) F.entry_str_split (F.args_str_split_2 _ _) (meets_str_split_cannot_occur a b t u h1) ?_
      exact laid_strs (l := [(a, t)]) (ys := Txt.split a b) (k := s.toks) I (if_pos h1).symm hl h

theorem words_le (x : Str) : (Txt.words x).length ≤ x.length + 1 := by
  have e1 := StrLaws.words_weight x
  omega
/-- x.split() -/
theorem mt_words : MtR X "str.split" (fun x xs H Q => ∃ a, x = .str a ∧ xs = [] ∧ a.length + 2 ≤ sizeLine ∧ rNewStrs (Txt.words a) H Q) := by
  intro pins s σ H x xs v us Q I rx rs h
  obtain ⟨a, rfl, rfl, hz, h⟩ := h
  obtain ⟨t, rfl⟩ := rx
  cases rs
  have hl : (Txt.words a).length ≤ sizeLine := Nat.le_trans (words_le a) (by omega)
  have hn : (Builtin.Str.spaceWords a (a.length + 1)).length ≤ sizeLine := by
    have e1 := (StrLaws.sw_weight a).1
    have e2 := StrLaws.len_le_wsum (Builtin.Str.spaceWords a (a.length + 1))
    omega
  refine call_meets F.slot_str_split (typeIs_str _ _ _) F.entry_str_split (F.args_str_split_1 _) (meets_str_split_space a t (by omega) hn) ?_
  cases hw : Builtin.Str.spaceWords a (a.length + 1) == [(0, a.length)]
  · simp only [Bool.false_eq_true, if_false]
    rw [strsFrom_eq]
    exact laid_strs (ys := Txt.words a) I ((numbered_texts _ _).trans (if_neg (ne_true_of_eq_false hw)).symm) hl h
  · simp only [if_true]
    exact laid_strs (l := [(a, t)]) (ys := Txt.words a) (k := s.toks) I (if_pos hw).symm hl h

/-- x.partition(sep) -/
theorem mt_partition : MtR X "str.partition" (fun x xs H Q => ∃ a b, x = .str a ∧ xs = [.str b] ∧ (b.length == 0) = false ∧ a.length ≤ sizeLine ∧
    ∀ p, H p = none → Q (.ref p) (upd H p (.tup [.str (Txt.partition a b).1, .str (Txt.partition a b).2.1, .str (Txt.partition a b).2.2]))) := by
  intro pins s σ H x xs v us Q I rx rs h
  obtain ⟨a, b, rfl, rfl, hb, hz, h⟩ := h
  obtain ⟨t, rfl⟩ := rx
  cases rs with
  | cons r1 rs =>
    cases rs
    obtain ⟨u, rfl⟩ := r1
    refine call_meets F.slot_str_partition (typeIs_str _ _ _) F.entry_str_partition (F.args_str_partition_2 _ _) (meets_str_partition a b t u hb hz) ?_
    unfold Txt.partition at h
    revert h
    cases Builtin.Str.occurrences a b 0 a.length 1 with
    | nil => intro h; exact laid_parts I h
    | cons i r => intro h; exact laid_parts I h

/-- sep.join(a list | a tuple of texts) -/
theorem mt_join : MtR X "str.join" (fun x xs H Q => ∃ a p, ∃ ys : List Str, x = .str a ∧ xs = [.ref p] ∧ (SqL X.K H p (ys.map V.str) ∨ SqT X.K H p (ys.map V.str)) ∧
    (ys.map (·.length)).sum + ys.length * a.length ≤ 16777216 ∧ Q (.str (Txt.join a ys)) H) := by
  intro pins s σ H x xs v us Q I rx rs h
  obtain ⟨a, p, ys, rfl, rfl, hp, hz, h⟩ := h
  obtain ⟨t, rfl⟩ := rx
  cases rs with
  | cons r1 rs =>
    cases rs
    cases r1
    rcases hp with hp | hp
    · obtain ⟨its, r, ⟨o, n, ho, hc, _, hd⟩, _⟩ := I.list hp
      exact PyProof.Rows.join_list (items := its.toArray) ⟨o, ho, hc, n, hd⟩ (by rw [List.toList_toArray]; exact strs_of_vals r) hz fun t' k => ⟨.str _, H, I.tok k, ⟨t', rfl⟩, h⟩
    · obtain ⟨its, r, ht, _⟩ := I.tuple hp
      exact PyProof.Rows.join_tuple (items := its.toArray) ht (by rw [List.toList_toArray]; exact strs_of_vals r) hz fun t' k => ⟨.str _, H, I.tok k, ⟨t', rfl⟩, h⟩

/-! ### of a text alone -/
theorem mt0 {id : String} {C : Str → Prop} {g : Str → V} (rule : ∀ (a : Str) (t : Tok) (s : Shared) (Q : Value → Shared → Prop), C a → (∀ (u : Value) (k : Nat), RelV (g a) u → Q u { s with toks := k }) →
    wpAny (model X.prog X.w) X.A (call (.builtin id) [.str a t]) Q X.xe s) : MtR X id (fun x xs H Q => ∃ a, x = .str a ∧ xs = [] ∧ C a ∧ Q (g a) H) := by
  intro pins s σ H x xs v us Q I rx rs h
  obtain ⟨a, rfl, rfl, hc, h⟩ := h
  obtain ⟨t, rfl⟩ := rx
  cases rs
  exact rule a t s _ hc fun u k r => ⟨g a, H, I.tok k, r, h⟩
theorem mt_strip : MtR X "str.strip" (fun x xs H Q => ∃ a, x = .str a ∧ xs = [] ∧ a.length ≤ sizeLine ∧ Q (.str (Txt.strip a)) H) :=
  mt0 (C := fun a => a.length ≤ sizeLine) (g := fun a => .str (Txt.strip a)) fun _ _ _ _ hc h => PySem.SC.strip (fun t' k => h _ k ⟨t', rfl⟩) hc
theorem mt_lstrip : MtR X "str.lstrip" (fun x xs H Q => ∃ a, x = .str a ∧ xs = [] ∧ a.length ≤ sizeLine ∧ Q (.str (Txt.lstrip a)) H) :=
  mt0 (C := fun a => a.length ≤ sizeLine) (g := fun a => .str (Txt.lstrip a)) fun _ _ _ _ hc h => PySem.SC.lstrip (fun t' k => h _ k ⟨t', rfl⟩) hc
theorem mt_rstrip : MtR X "str.rstrip" (fun x xs H Q => ∃ a, x = .str a ∧ xs = [] ∧ a.length ≤ sizeLine ∧ Q (.str (Txt.rstrip a)) H) :=
  mt0 (C := fun a => a.length ≤ sizeLine) (g := fun a => .str (Txt.rstrip a)) fun _ _ _ _ hc h => PySem.SC.rstrip (fun t' k => h _ k ⟨t', rfl⟩) hc
theorem mt_lower : MtR X "str.lower" (fun x xs H Q => ∃ a, x = .str a ∧ xs = [] ∧ a.length ≤ 5592405 ∧ Q (.str (Txt.lower a)) H) :=
  mt0 (C := fun a => a.length ≤ 5592405) (g := fun a => .str (Txt.lower a)) fun a _ s _ hc h =>
    PySem.SC.lower (notLong (by have h1 : a.length ≤ 5592405 := hc; have := PyProof.Rows.len_lower a; omega)) (h _ (s.toks + 1) ⟨_, rfl⟩)
theorem mt_upper : MtR X "str.upper" (fun x xs H Q => ∃ a, x = .str a ∧ xs = [] ∧ a.length ≤ 5592405 ∧ Q (.str (Txt.upper a)) H) :=
  mt0 (C := fun a => a.length ≤ 5592405) (g := fun a => .str (Txt.upper a)) fun a _ s _ hc h =>
    PySem.SC.upper (notLong (by have h1 : a.length ≤ 5592405 := hc; have := PyProof.Rows.len_upper a; omega)) (h _ (s.toks + 1) ⟨_, rfl⟩)
theorem mt_isdigit : MtR X "str.isdigit" (fun x xs H Q => ∃ a, x = .str a ∧ xs = [] ∧ True ∧ Q (.bl (Txt.isdigit a)) H) :=
  mt0 (C := fun _ => True) (g := fun a => .bl (Txt.isdigit a)) fun _ _ s _ _ h => PySem.SC.isdigit (h _ s.toks rfl)
theorem mt_isalpha : MtR X "str.isalpha" (fun x xs H Q => ∃ a, x = .str a ∧ xs = [] ∧ True ∧ Q (.bl (Txt.isalpha a)) H) :=
  mt0 (C := fun _ => True) (g := fun a => .bl (Txt.isalpha a)) fun _ _ s _ _ h => PySem.SC.isalpha (h _ s.toks rfl)
theorem mt_isalnum : MtR X "str.isalnum" (fun x xs H Q => ∃ a, x = .str a ∧ xs = [] ∧ True ∧ Q (.bl (Txt.isalnum a)) H) :=
  mt0 (C := fun _ => True) (g := fun a => .bl (Txt.isalnum a)) fun _ _ s _ _ h => PySem.SC.isalnum (h _ s.toks rfl)
theorem mt_isspace : MtR X "str.isspace" (fun x xs H Q => ∃ a, x = .str a ∧ xs = [] ∧ True ∧ Q (.bl (Txt.isspace a)) H) :=
  mt0 (C := fun _ => True) (g := fun a => .bl (Txt.isspace a)) fun _ _ s _ _ h => PySem.SC.isspace (h _ s.toks rfl)

/-! ### of a text and a text -/
theorem mt1 {id : String} {g : Str → Str → V} (rule : ∀ (a b : Str) (t u : Tok) (s : Shared) (Q : Value → Shared → Prop), (∀ (v : Value) (k : Nat), RelV (g a b) v → Q v { s with toks := k }) →
    wpAny (model X.prog X.w) X.A (call (.builtin id) [.str a t, .str b u]) Q X.xe s) : MtR X id (fun x xs H Q => ∃ a b, x = .str a ∧ xs = [.str b] ∧ Q (g a b) H) := by
  intro pins s σ H x xs v us Q I rx rs h
  obtain ⟨a, b, rfl, rfl, h⟩ := h
  obtain ⟨t, rfl⟩ := rx
  cases rs with
  | cons r1 rs =>
    cases rs
    obtain ⟨u, rfl⟩ := r1
    exact rule a b t u s _ fun v k r => ⟨g a b, H, I.tok k, r, h⟩
theorem mt_startswith : MtR X "str.startswith" (fun x xs H Q => ∃ a b, x = .str a ∧ xs = [.str b] ∧ Q (.bl (Txt.startswith a b)) H) :=
  mt1 (g := fun a b => .bl (Txt.startswith a b)) fun _ _ _ _ s _ h => PySem.SC.startswith (h _ s.toks rfl)
theorem mt_endswith : MtR X "str.endswith" (fun x xs H Q => ∃ a b, x = .str a ∧ xs = [.str b] ∧ Q (.bl (Txt.endswith a b)) H) :=
  mt1 (g := fun a b => .bl (Txt.endswith a b)) fun _ _ _ _ s _ h => PySem.SC.endswith (h _ s.toks rfl)
theorem mt_find : MtR X "str.find" (fun x xs H Q => ∃ a b, x = .str a ∧ xs = [.str b] ∧ Q (.int (Txt.find a b)) H) :=
  mt1 (g := fun a b => .int (Txt.find a b)) fun _ _ _ _ s _ h => PySem.SC.find (h _ (s.toks + 1) ⟨_, rfl⟩)
theorem mt_count : MtR X "str.count" (fun x xs H Q => ∃ a b, x = .str a ∧ xs = [.str b] ∧ Q (.int (Txt.count a b)) H) :=
  mt1 (g := fun a b => .int (Txt.count a b)) fun _ _ _ _ s _ h => PySem.SC.count (h _ (s.toks + 1) ⟨_, rfl⟩)

/-- int(text) -/
theorem call_int_str : CallR X (.type "int") (fun xs H Q => ∃ a n, xs = [.str a] ∧ PySem.intText? a = some n ∧ a.length ≤ 640 ∧ Q (.int n) H) := by
  intro pins s σ H xs us Q I rs h
  obtain ⟨a, n, rfl, hn, hl, h⟩ := h
  cases rs with
  | cons r1 rs =>
    cases rs
    obtain ⟨t, rfl⟩ := r1
    exact PySem.W.KIN.call_text hn hl ⟨.int n, H, I.tok _, ⟨_, rfl⟩, h⟩
end

section
variable {X : Cx} {o e : Expr} {to te : TE}
def tM0 (r : V → List V → Hp → VK → Prop) (to : TE) : TE := fun σ H Q => to σ H fun x H1 => (∃ a, x = .str a) ∧ r x [] H1 Q
def tM1 (r : V → List V → Hp → VK → Prop) (to te : TE) : TE := fun σ H Q => to σ H fun x H1 => (∃ a, x = .str a) ∧ te σ H1 fun y H2 => r x [y] H2 Q
theorem pe_m0 {id : String} {name : Str} {apos pos : Pos} {r : V → List V → Hp → VK → Prop} (slot : Slot "str" name id) (ty : typeOf (.builtin id) = pure (.type "method_descriptor")) (rule : MtR X id r) (ho : PE X o to)
    (hbase : attributeBase o name X.env (eval o X.env) = eval o X.env := by rfl) (hline : (apos.endLine == pos.line) = true := by rfl) : PE X (.Call (.Attribute o name apos) [] [] pos) (tM0 r to) := by
  intro pins s σ H Q I h
  refine PySem.Call_method0 hbase hline (thn (ho pins s σ H _ I h) fun v s1 ⟨x, H1, I1, r1, q1⟩ => ?_)
  obtain ⟨⟨a, rfl⟩, q1⟩ := q1
  obtain ⟨t, rfl⟩ := _root_.id r1
  exact ⟨"str", _, F.plainAttrs_str, slot, ty, typeIs_str _ _ _, (fun _ e => nomatch e), Calls.callWith_builtin rfl (PySem.evalArgs_none (rule pins s1 σ H1 _ [] _ [] Q I1 r1 .nil q1))⟩
theorem pe_m1 {id : String} {name : Str} {apos pos : Pos} {r : V → List V → Hp → VK → Prop} (slot : Slot "str" name id) (ty : typeOf (.builtin id) = pure (.type "method_descriptor")) (rule : MtR X id r) (ho : PE X o to) (he : PE X e te)
    (hs : starEach [e] X.env = [(false, eval e X.env)] := by rfl) (hbase : attributeBase o name X.env (eval o X.env) = eval o X.env := by rfl) (hline : (apos.endLine == pos.line) = true := by rfl) :
    PE X (.Call (.Attribute o name apos) [e] [] pos) (tM1 r to te) := by
  intro pins s σ H Q I h
  refine PySem.Call_method1 hbase hs hline (thn (ho pins s σ H _ I h) fun v s1 ⟨x, H1, I1, r1, q1⟩ => ?_)
  obtain ⟨⟨a, rfl⟩, q1⟩ := q1
  obtain ⟨t, rfl⟩ := _root_.id r1
  refine ⟨"str", _, F.plainAttrs_str, slot, ty, typeIs_str _ _ _, (fun _ e => nomatch e), Calls.callWith_builtin rfl (Calls.evalArgs_plain (Calls.spliced_cons ?_))⟩
  exact thn (he pins s1 σ H1 _ I1 q1) fun u s2 ⟨y, H2, I2, r2, q2⟩ => Calls.spliced_nil (rule pins s2 σ H2 _ [y] _ [u] Q I2 r1 (.cons r2 .nil) q2)

theorem pe_split {apos pos : Pos} (ho : PE X o to) (he : PE X e te) (hs : starEach [e] X.env = [(false, eval e X.env)] := by rfl) (hbase : attributeBase o "split" X.env (eval o X.env) = eval o X.env := by rfl) (hline : (apos.endLine == pos.line) = true := by rfl) :
    PE X (.Call (.Attribute o "split" apos) [e] [] pos) (tM1 (fun x xs H Q => ∃ a b, x = .str a ∧ xs = [.str b] ∧ (b.length == 0) = false ∧ a.length + 2 ≤ sizeLine ∧ rNewStrs (Txt.split a b) H Q) to te) :=
  pe_m1 F.slot_str_split F.type_str_split mt_split ho he hs hbase hline
theorem pe_words {apos pos : Pos} (ho : PE X o to) (hbase : attributeBase o "split" X.env (eval o X.env) = eval o X.env := by rfl) (hline : (apos.endLine == pos.line) = true := by rfl) :
    PE X (.Call (.Attribute o "split" apos) [] [] pos) (tM0 (fun x xs H Q => ∃ a, x = .str a ∧ xs = [] ∧ a.length + 2 ≤ sizeLine ∧ rNewStrs (Txt.words a) H Q) to) :=
  pe_m0 F.slot_str_split F.type_str_split mt_words ho hbase hline
theorem pe_partition {apos pos : Pos} (ho : PE X o to) (he : PE X e te) (hs : starEach [e] X.env = [(false, eval e X.env)] := by rfl) (hbase : attributeBase o "partition" X.env (eval o X.env) = eval o X.env := by rfl) (hline : (apos.endLine == pos.line) = true := by rfl) :
    PE X (.Call (.Attribute o "partition" apos) [e] [] pos) (tM1 (fun x xs H Q => ∃ a b, x = .str a ∧ xs = [.str b] ∧ (b.length == 0) = false ∧ a.length ≤ sizeLine ∧
      ∀ p, H p = none → Q (.ref p) (upd H p (.tup [.str (Txt.partition a b).1, .str (Txt.partition a b).2.1, .str (Txt.partition a b).2.2]))) to te) :=
  pe_m1 F.slot_str_partition F.type_str_partition mt_partition ho he hs hbase hline
theorem pe_join {apos pos : Pos} (ho : PE X o to) (he : PE X e te) (hs : starEach [e] X.env = [(false, eval e X.env)] := by rfl) (hbase : attributeBase o "join" X.env (eval o X.env) = eval o X.env := by rfl) (hline : (apos.endLine == pos.line) = true := by rfl) :
    PE X (.Call (.Attribute o "join" apos) [e] [] pos) (tM1 (fun x xs H Q => ∃ a p, ∃ ys : List Str, x = .str a ∧ xs = [.ref p] ∧ (SqL X.K H p (ys.map V.str) ∨ SqT X.K H p (ys.map V.str)) ∧
      (ys.map (·.length)).sum + ys.length * a.length ≤ 16777216 ∧ Q (.str (Txt.join a ys)) H) to te) :=
  pe_m1 F.slot_str_join F.type_str_join mt_join ho he hs hbase hline
theorem pe_strip {apos pos : Pos} (ho : PE X o to) (hbase : attributeBase o "strip" X.env (eval o X.env) = eval o X.env := by rfl) (hline : (apos.endLine == pos.line) = true := by rfl) :
    PE X (.Call (.Attribute o "strip" apos) [] [] pos) (tM0 (fun x xs H Q => ∃ a, x = .str a ∧ xs = [] ∧ a.length ≤ sizeLine ∧ Q (.str (Txt.strip a)) H) to) :=
  pe_m0 F.slot_str_strip F.type_str_strip mt_strip ho hbase hline
theorem pe_lower {apos pos : Pos} (ho : PE X o to) (hbase : attributeBase o "lower" X.env (eval o X.env) = eval o X.env := by rfl) (hline : (apos.endLine == pos.line) = true := by rfl) :
    PE X (.Call (.Attribute o "lower" apos) [] [] pos) (tM0 (fun x xs H Q => ∃ a, x = .str a ∧ xs = [] ∧ a.length ≤ 5592405 ∧ Q (.str (Txt.lower a)) H) to) :=
  pe_m0 F.slot_str_lower F.type_str_lower mt_lower ho hbase hline
theorem pe_upper {apos pos : Pos} (ho : PE X o to) (hbase : attributeBase o "upper" X.env (eval o X.env) = eval o X.env := by rfl) (hline : (apos.endLine == pos.line) = true := by rfl) :
    PE X (.Call (.Attribute o "upper" apos) [] [] pos) (tM0 (fun x xs H Q => ∃ a, x = .str a ∧ xs = [] ∧ a.length ≤ 5592405 ∧ Q (.str (Txt.upper a)) H) to) :=
  pe_m0 F.slot_str_upper F.type_str_upper mt_upper ho hbase hline
end
end L2

namespace L2
open PySem PySem.Spec PyProof.Rows

section
variable {X : Cx}
theorem op_le_str : OpR X (compareOp .LtE) (fun x y H Q => ∃ i j, x = .str i ∧ y = .str j ∧ Q (.bl (!decide (j.cps.toList < i.cps.toList))) H) := by
  intro pins s σ H x y v u Q I rx ry h
  obtain ⟨i, j, rfl, rfl, q⟩ := h
  obtain ⟨t, rfl⟩ := rx
  obtain ⟨t', rfl⟩ := ry
  exact PySem.P.le_str (fin_bl I q rfl)
theorem op_gt_str : OpR X (compareOp .Gt) (fun x y H Q => ∃ i j, x = .str i ∧ y = .str j ∧ Q (.bl (decide (j.cps.toList < i.cps.toList))) H) := by
  intro pins s σ H x y v u Q I rx ry h
  obtain ⟨i, j, rfl, rfl, q⟩ := h
  obtain ⟨t, rfl⟩ := rx
  obtain ⟨t', rfl⟩ := ry
  exact PySem.P.gt_str (fin_bl I q rfl)
theorem op_ge_str : OpR X (compareOp .GtE) (fun x y H Q => ∃ i j, x = .str i ∧ y = .str j ∧ Q (.bl (!decide (i.cps.toList < j.cps.toList))) H) := by
  intro pins s σ H x y v u Q I rx ry h
  obtain ⟨i, j, rfl, rfl, q⟩ := h
  obtain ⟨t, rfl⟩ := rx
  obtain ⟨t', rfl⟩ := ry
  exact PySem.P.ge_str (fin_bl I q rfl)
/-- one sign in a text -/
theorem op_in_sign : OpR X (compareOp .In) (fun x y H Q => ∃ (c : Nat) (z : Str), x = .str ⟨#[c]⟩ ∧ y = .str z ∧ Q (.bl (decide (c ∈ z.cps.toList))) H) := by
  intro pins s σ H x y v u Q I rx ry h
  obtain ⟨c, z, rfl, rfl, q⟩ := h
  obtain ⟨t, rfl⟩ := rx
  obtain ⟨t', rfl⟩ := ry
  exact PyProof.Rows.in_str (fin_bl I q (PySem.StrLaws.found_one z c).symm)
theorem op_notIn_sign : OpR X (compareOp .NotIn) (fun x y H Q => ∃ (c : Nat) (z : Str), x = .str ⟨#[c]⟩ ∧ y = .str z ∧ Q (.bl (!decide (c ∈ z.cps.toList))) H) := by
  intro pins s σ H x y v u Q I rx ry h
  obtain ⟨c, z, rfl, rfl, q⟩ := h
  obtain ⟨t, rfl⟩ := rx
  obtain ⟨t', rfl⟩ := ry
  exact PyProof.Rows.notIn_str (fin_bl I q (congrArg Bool.not (PySem.StrLaws.found_one z c).symm))
end

/-! ### slices of a text -/
theorem IsPart.raw {v : Value} {o : Option Int} (p : IsPart v o) : ∃ l : Option (Int × Tok), v = partValue l ∧ l.map (·.1) = o := by
  cases p with
  | none => exact ⟨none, rfl, rfl⟩
  | int i t => exact ⟨some (i, t), rfl, rfl⟩

/-- a part, clipped, as the text's slice reckons it -/
def clipS (n d : Nat) : Option Int → Int
  | none => (d : Int)
  | some i => max 0 (min (if i < 0 then i + (n : Int) else i) (n : Int))
theorem clipS_eq (n d : Nat) (o : Option Int) : clipS n d o = ((HT.sIx n d o : Nat) : Int) := by
  cases o with
  | none => rfl
  | some v =>
    show max (0 : Int) (min (if v < 0 then v + (n : Int) else v) (n : Int)) = (((if v < 0 then (v + (n : Int)).toNat else min v.toNat n) : Nat) : Int)
    by_cases hv : v < 0
    · simp only [if_pos hv]
      omega
    · simp only [if_neg hv]
      omega
theorem sidx_clip (a b : Option Int) (n : Nat) : Builtin.Str.strSliceIndices a b 1 n = sliceRange (clipS n 0 a) (clipS n n b) 1 := by
  have h1 : ((1 : Int) > 0) = True := by simp
  cases a <;> cases b <;> first
    | rfl
    | (simp only [Builtin.Str.strSliceIndices, clipS, h1, if_true]; rfl)
    | simp [Builtin.Str.strSliceIndices, clipS]
theorem sidx (a b : Option Int) (n : Nat) : Builtin.Str.strSliceIndices a b 1 n = (List.range (HT.sIx n n b - HT.sIx n 0 a)).map (fun k => HT.sIx n 0 a + k) := by
  rw [sidx_clip, clipS_eq, clipS_eq]
  generalize HT.sIx n 0 a = p
  generalize HT.sIx n n b = q
  simp only [sliceRange, show ((1 : Int) > 0) = True from by simp, if_true]
  by_cases hlt : (p : Int) < q
  · have e3 : (((q : Int) - p + 1 - 1) / 1).toNat = q - p := by first | omega | (simp; done) | (simp; omega)
    simp only [hlt, if_true, e3]
    refine List.map_congr_left fun k _ => ?_
    omega
  · have : q - p = 0 := by omega
    simp [hlt, this]

/-- z[lo:hi] -/
def cutS (z : Str) (lo hi : Option Int) : Str :=
  ⟨((z.cps.toList.drop (HT.sIx z.length 0 lo)).take (HT.sIx z.length z.length hi - HT.sIx z.length 0 lo)).toArray⟩
theorem sliceText_cut (z : Str) (lo hi : Option Int) : PySem.StrLaws.sliceText z lo hi = cutS z lo hi := by
  have h1 : HT.sIx z.length 0 lo ≤ z.length := HT.sIx_le _ _ (Nat.zero_le _) _
  have h2 : HT.sIx z.length z.length hi ≤ z.length := HT.sIx_le _ _ (Nat.le_refl _) _
  have hp : HT.sIx z.length 0 lo ≤ max (HT.sIx z.length 0 lo) (HT.sIx z.length z.length hi) := Nat.le_max_left _ _
  have hq : max (HT.sIx z.length 0 lo) (HT.sIx z.length z.length hi) ≤ z.length := Nat.max_le.mpr ⟨h1, h2⟩
  have hd : max (HT.sIx z.length 0 lo) (HT.sIx z.length z.length hi) - HT.sIx z.length 0 lo = HT.sIx z.length z.length hi - HT.sIx z.length 0 lo := by omega
  have e : Builtin.Str.strSliceIndices lo hi 1 z.length =
      Builtin.Str.strSliceIndices (some ((HT.sIx z.length 0 lo : Nat) : Int)) (some ((max (HT.sIx z.length 0 lo) (HT.sIx z.length z.length hi) : Nat) : Int)) 1 z.length := by
    rw [PySem.StrLaws.strSliceIndices_plain hp hq, hd, sidx]
  have e2 : PySem.StrLaws.sliceText z lo hi =
      PySem.StrLaws.sliceText z (some ((HT.sIx z.length 0 lo : Nat) : Int)) (some ((max (HT.sIx z.length 0 lo) (HT.sIx z.length z.length hi) : Nat) : Int)) := by
    unfold PySem.StrLaws.sliceText
    rw [e]
  rw [e2, PySem.StrLaws.sliceText_nat z hp hq, hd]
  rfl
theorem cutS_length (z : Str) (lo hi : Option Int) : (cutS z lo hi).length ≤ z.length := by
  show (((z.cps.toList.drop (HT.sIx z.length 0 lo)).take (HT.sIx z.length z.length hi - HT.sIx z.length 0 lo)).toArray).size ≤ z.cps.size
  rw [List.size_toArray, List.length_take, List.length_drop, Array.length_toList]
  omega
def rSlS : V → Option Int → Option Int → Hp → VK → Prop := fun x lo hi H Q => ∃ z, x = .str z ∧ z.length ≤ sizeLine ∧ Q (.str (cutS z lo hi)) H
theorem sl_str {X : Cx} : SlR X rSlS := by
  intro pins s σ H x v vl vu lo hi sl Q I rx hs pl pu h
  obtain ⟨z, rfl, hz, q⟩ := h
  obtain ⟨t, rfl⟩ := rx
  obtain ⟨os, hos, hcs, hds⟩ := hs
  obtain ⟨l, rfl, rfl⟩ := IsPart.raw pl
  obtain ⟨u, rfl, rfl⟩ := IsPart.raw pu
  refine ⟨"str", _, F.slot_str_getitem.lookup, typeIs_str _ _ _, ?_⟩
  refine wpAny_getItem_str_slice (l := l) (u := u) (st := none) ⟨os, hos, hcs, hds⟩ rfl ?_
  have hl : (PySem.StrLaws.sliceText z (l.map (·.1)) (u.map (·.1))).length ≤ sizeLine := by
    rw [sliceText_cut]
    exact Nat.le_trans (cutS_length z _ _) hz
  rw [← sliceText_cut] at q
  unfold PySem.StrLaws.sliceText at q hl
  show Made.post (if ((1 : Int) == 1 && (Builtin.Str.strSliceIndices (l.map (·.1)) (u.map (·.1)) 1 z.length).length == z.length) = true then Made.val (.str z t)
    else Made.str ⟨((Builtin.Str.strSliceIndices (l.map (·.1)) (u.map (·.1)) 1 z.length).filterMap (z.cps[·]?)).toArray⟩) (EP X pins σ Q) s
  by_cases c : ((1 : Int) == 1 && (Builtin.Str.strSliceIndices (l.map (·.1)) (u.map (·.1)) 1 z.length).length == z.length) = true
  · rw [if_pos c] at q ⊢
    exact ⟨.str z, H, I, ⟨t, rfl⟩, q⟩
  · rw [if_neg c] at q hl ⊢
    exact ⟨hl, .str _, H, I.tok _, ⟨_, rfl⟩, q⟩
end L2

namespace Att
open PySem PySem.W PySem.Calls PyProof.Rows

/-! ### the script -/
theorem ints_of_wellAll {P : Params} {h : Heap} : ∀ (ns : List Int) (vs : List Value), WellAll P h vs (ns.map WData.int) → IntsAre vs ns := by
  intro ns
  induction ns with
  | nil =>
    intro vs w
    rw [List.map_nil] at w
    cases w
    exact .nil
  | cons n ns ih =>
    intro vs w
    rw [List.map_cons] at w
    cases w with
    | cons a b =>
      cases a
      exact .cons _ _ (ih _ b)

theorem script_of {l : OpenLaw} {n : Nat} (hn : l.most = some n) {P : Params} {h : Heap} {args : List WData} {vals : List Value}
    (hpre : l.row.toRowW.claim.pre args = true) (hwl : WellAll P h vals args) :
    ∃ a vs ns, vals = [Value.ref a] ∧ args = [WData.list (ns.map WData.int)] ∧ h.get? a = some { cls := .type "list", data := .seq vs.toArray } ∧ IntsAre vs ns ∧ ns.length ≤ n := by
  have hsh : WShape.hasAll [] args [.list .int] = true := (pre_splitW hpre).1
  have hc : l.pre.holds [] { args := args } = true := (pre_splitW hpre).2
  obtain ⟨d, r, rfl, h1, h2⟩ := hasAllW_cons hsh
  obtain rfl := hasAllW_nil h2
  obtain ⟨xs, rfl, h3⟩ := hasW_list h1
  obtain ⟨ns, rfl⟩ := items_int h3
  have hlen : ns.length ≤ n := by
    unfold OpenLaw.pre at hc
    have h4 : (WTm.not (.lt (.lit (.int (n : Int))) (.len (.arg 0)))).holds [] { args := [.list (ns.map .int)] } = true := by
      have h4 := (holds_andW hc).1
      rw [hn] at h4
      exact h4
    have h5 := condW_of h4 (w_not (w_lt w_lit (w_len_list (w_arg rfl))))
    rw [List.length_map] at h5
    refine Nat.le_of_not_lt fun q => ?_
    have q' : (n : Int) < ((ns.length : Nat) : Int) := by omega
    first
      | (rw [decide_eq_true q'] at h5; exact absurd h5 (by decide))
      | (simp at h5; omega)
  cases hwl with
  | cons w1 w2 =>
    cases w2
    cases w1 with
    | list ho hall => exact ⟨_, _, ns, rfl, rfl, ho, ints_of_wellAll ns _ hall, hlen⟩

theorem post_true (l : OpenLaw) (args : List WData) : l.row.toRowW.claim.post args (.bool true) args = true :=
  postW_of (r := l.row.toRowW) (X := (true == true))
    (show WShape.has [] (.bool true) .bool = true by first | rfl | decide | simp [WShape.has, WShape.arms, WShape.armsAll])
    (show (WTm.eq .res (.lit (.bool true))).value [] { args := args, res := some (.bool true), after := args } = some (.bool (true == true)) from w_eq_bool (w_res rfl) w_lit) rfl

/-! ### the attachment: holds_open's last premise (the goal 'hc' behind k_head) from a wpAny of the law's body -/
theorem attach {l : OpenLaw} {n : Nat} {q : Program} {loose : List Str} {XP : (Str → Option Value) → Heap → Prop} {YP : World → Heap → Prop} {d : DefRec} {x : Str}
    (hn : l.most = some n) (hdf : d.params.defaults = [])
    (hbind : ∀ pm cd doc v : Value, bindArgs (docDef d.name d.params d.body d.scope pm cd doc) ⟨[v], []⟩ = pure [(x, v)])
    (hx : d.scope.names.lookup x = some .local ∨ d.scope.names.lookup x = some .cell)
    (hk : d.scope.kind = .function) (hco : d.scope.isCoroutine = false) (hgen : d.scope.isGenerator = false)
    (body : ∀ (w : World) (s₀ s₁ s : Shared) (mg mb : Str → Option Value) (fa : Addr) (o : Obj) (pm cd doc : Value) (a : Addr) (vs : List Value) (ns : List Int),
      Ground q loose [] XP w s₀ mg mb s₁.heap → YP w s₁.heap →
      s₁.heap.get? fa = some o → o.data = .func (docDef d.name d.params d.body d.scope pm cd doc) → s₁.heap.CodeRec cd d.name → mg d.name = some (.ref fa) →
      s₁.heap.get? a = some { cls := .type "list", data := .seq vs.toArray } → IntsAre vs ns → ns.length ≤ n →
      s.gens = #[] → s.os = s₁.os →
      Fr s₁.heap s₁.heap.objs.size s.heap (bindL (envOfC d.name d.scope s₁.heap.objs.size fa cd).kindOf [(x, .ref a)] fun _ => none) →
      Cl s₁.heap.objs.size (cellsFrom (s₁.heap.objs.size + 1) d.scope.names []) s.heap (bindC (envOfC d.name d.scope s₁.heap.objs.size fa cd).kindOf [(x, .ref a)] fun _ => none) →
      wpAny (model l.prog w) (callerA.deeper (envOfC d.name d.scope s₁.heap.objs.size fa cd)) (execs d.body (envOfC d.name d.scope s₁.heap.objs.size fa cd))
        (fun f s' => f = .ret (.bool true) ∧ OldK s₁.heap s'.heap ∧ s'.os = s₁.os ∧ AllBare s'.gens) (fun _ _ => False) s) :
    WalkO q loose XP YP l.row.toRowW d [] (fun f vs => PySem.call f vs) := by
  intro w s₀ s₁ mg mb G Y fa o pm cd doc dV kV ho hd hcd hD hmg hg args vals as hpre hlay hrd hwl hlo
  obtain rfl : dV = .none := Dflts.none hD hdf
  obtain rfl : kV = .none := Dflts.noKw hD
  obtain ⟨a, vs, ns, rfl, rfl, hobj, hints, hlen⟩ := script_of hn hpre hwl
  refine enter_call ?_
  refine call_cells_ret (o := o) (by rw [depth_caller]; decide) ho (fd_plain hd) G.T.nolimit hcd (hbind pm cd doc (.ref a)) (fun y hy => ?_) (fun h₁ tk F X => ?_) hco hgen hk
  · obtain rfl : y = (x, Value.ref a) := List.mem_singleton.mp hy
    rcases hx with e | e
    · exact .inl e
    · exact .inr ⟨e, cellsFrom_some _ _ _ (.inl e)⟩
  · refine wpAny_mono (body w s₀ s₁ { s₁ with heap := h₁, toks := tk } mg mb fa o pm cd doc a vs ns G Y ho (fd_plain hd) hcd hmg hobj hints hlen hg rfl F X) (fun f s' hq => ?_) (fun _ _ hq => hq)
    obtain ⟨rfl, h2, h3, h4⟩ := hq
    exact ⟨.inl ⟨.bool true, .bool true, [], rfl, fun _ => rfl, .bool true, post_true l _, fun _ => ⟨List.Pairwise.nil, fun _ hm => (nomatch hm)⟩⟩, h2, h3, h4⟩

/-- the same from a codeAny of the CALL (for a layer whose function contracts speak of calls) -/
theorem attach_call {l : OpenLaw} {n : Nat} {q : Program} {loose : List Str} {XP : (Str → Option Value) → Heap → Prop} {YP : World → Heap → Prop} {d : DefRec}
    (hn : l.most = some n) (hdf : d.params.defaults = [])
    (call : ∀ (w : World) (s₀ s₁ : Shared) (mg mb : Str → Option Value) (fa : Addr) (o : Obj) (pm cd doc : Value) (a : Addr) (vs : List Value) (ns : List Int),
      Ground q loose [] XP w s₀ mg mb s₁.heap → YP w s₁.heap →
      s₁.heap.get? fa = some o → o.data = .func (docDef d.name d.params d.body d.scope pm cd doc) → s₁.heap.CodeRec cd d.name → mg d.name = some (.ref fa) →
      s₁.heap.get? a = some { cls := .type "list", data := .seq vs.toArray } → IntsAre vs ns → ns.length ≤ n → s₁.gens = #[] →
      codeAny (model l.prog w) callerA (.call (.ref fa) ⟨[.ref a], []⟩) (fun r s' => r = .ok (.ret (.bool true)) ∧ OldK s₁.heap s'.heap ∧ s'.os = s₁.os ∧ AllBare s'.gens) s₁) :
    WalkO q loose XP YP l.row.toRowW d [] (fun f vs => PySem.call f vs) := by
  intro w s₀ s₁ mg mb G Y fa o pm cd doc dV kV ho hd hcd hD hmg hg args vals as hpre hlay hrd hwl hlo
  obtain rfl : dV = .none := Dflts.none hD hdf
  obtain rfl : kV = .none := Dflts.noKw hD
  obtain ⟨a, vs, ns, rfl, rfl, hobj, hints, hlen⟩ := script_of hn hpre hwl
  refine enter_call (codeAny_mono (call w s₀ s₁ mg mb fa o pm cd doc a vs ns G Y ho (fd_plain hd) hcd hmg hobj hints hlen hg) fun r s' hq => ?_)
  obtain ⟨rfl, h2, h3, h4⟩ := hq
  exact ⟨.inl ⟨.bool true, .bool true, [], rfl, fun _ => rfl, .bool true, post_true l _, fun _ => ⟨List.Pairwise.nil, fun _ hm => (nomatch hm)⟩⟩, h2, h3, h4⟩

/-- the same where the top left finished generators (o_head chose holds_openN): nothing may have changed at all and no generator may be left -/
theorem attachN {l : OpenLaw} {n : Nat} {q : Program} {loose : List Str} {XP : (Str → Option Value) → Heap → Prop} {YP : World → Heap → Prop} {d : DefRec} {x : Str}
    (hn : l.most = some n) (hdf : d.params.defaults = [])
    (hbind : ∀ pm cd doc v : Value, bindArgs (docDef d.name d.params d.body d.scope pm cd doc) ⟨[v], []⟩ = pure [(x, v)])
    (hx : d.scope.names.lookup x = some .local ∨ d.scope.names.lookup x = some .cell)
    (hk : d.scope.kind = .function) (hco : d.scope.isCoroutine = false) (hgen : d.scope.isGenerator = false)
    (body : ∀ (w : World) (s₀ s₁ s : Shared) (mg mb : Str → Option Value) (fa : Addr) (o : Obj) (pm cd doc : Value) (a : Addr) (vs : List Value) (ns : List Int),
      Ground q loose [] XP w s₀ mg mb s₁.heap → YP w s₁.heap →
      s₁.heap.get? fa = some o → o.data = .func (docDef d.name d.params d.body d.scope pm cd doc) → s₁.heap.CodeRec cd d.name → mg d.name = some (.ref fa) →
      s₁.heap.get? a = some { cls := .type "list", data := .seq vs.toArray } → IntsAre vs ns → ns.length ≤ n →
      s.gens = #[] → s.os = s₁.os →
      Fr s₁.heap s₁.heap.objs.size s.heap (bindL (envOfC d.name d.scope s₁.heap.objs.size fa cd).kindOf [(x, .ref a)] fun _ => none) →
      Cl s₁.heap.objs.size (cellsFrom (s₁.heap.objs.size + 1) d.scope.names []) s.heap (bindC (envOfC d.name d.scope s₁.heap.objs.size fa cd).kindOf [(x, .ref a)] fun _ => none) →
      wpAny (model l.prog w) (callerA.deeper (envOfC d.name d.scope s₁.heap.objs.size fa cd)) (execs d.body (envOfC d.name d.scope s₁.heap.objs.size fa cd))
        (fun f s' => f = .ret (.bool true) ∧ (∀ b o, s₁.heap.get? b = some o → s'.heap.get? b = some o) ∧ s'.os = s₁.os ∧ s'.gens = #[]) (fun _ _ => False) s) :
    WalkN q loose XP YP l.row.toRowW d [] (fun f vs => PySem.call f vs) := by
  intro w s₀ s₁ mg mb G Y fa o pm cd doc dV kV ho hd hcd hD hmg hg args vals as hpre hlay hrd hwl hlo
  obtain rfl : dV = .none := Dflts.none hD hdf
  obtain rfl : kV = .none := Dflts.noKw hD
  obtain ⟨a, vs, ns, rfl, rfl, hobj, hints, hlen⟩ := script_of hn hpre hwl
  refine enter_callW ?_
  refine call_cells_ret (o := o) (by rw [depth_caller]; decide) ho (fd_plain hd) G.T.nolimit hcd (hbind pm cd doc (.ref a)) (fun y hy => ?_) (fun h₁ tk F X => ?_) hco hgen hk
  · obtain rfl : y = (x, Value.ref a) := List.mem_singleton.mp hy
    rcases hx with e | e
    · exact .inl e
    · exact .inr ⟨e, cellsFrom_some _ _ _ (.inl e)⟩
  · refine wpAny_mono (body w s₀ s₁ { s₁ with heap := h₁, toks := tk } mg mb fa o pm cd doc a vs ns G Y ho (fd_plain hd) hcd hmg hobj hints hlen hg rfl F X) (fun f s' hq => ?_) (fun _ _ hq => hq)
    obtain ⟨rfl, h2, h3, h4⟩ := hq
    exact ⟨.inl ⟨.bool true, .bool true, [], rfl, fun _ => rfl, .bool true, post_true l _, fun _ => ⟨List.Pairwise.nil, fun _ hm => (nomatch hm)⟩⟩, h2, h3, h4⟩

/-! ### rules over ANY heap (no ledger) from facts about the written part K: the library's own take a ledger (News) for what they write -/
section
variable {prog : Program} {w : World} {A : Around} {E : Value → Shared → Prop} {s : Shared} {K : Frag}

/-- a def of the module, or a method (qual 'C.m'), entered: the frame is the next address; cells behind it -/
theorem call_fn {R : Result → Shared → Prop} {name qual : Str} {params : Arguments} {body : List Stmt} {scope : Scope} {dV kV doc pm cdv ct oc : Value} {an od : Option Addr} {osl : Array (Option Value)} {f : Addr} {args : Args} {binds : List (Str × Value)}
    (X : K.In s.heap) (hlim : s.heap.NoLimit) (ho : K.lookup f = some ⟨oc, od, .func (fnOf name qual params body scope dV kV doc pm an cdv ct), osl⟩) (hcd : codeIn K cdv qual = true) (hroom : A.depth < recursionLimit)
    (hbind : BindsTo s (fnOf name qual params body scope dV kV doc pm an cdv ct) args binds)
    (hkind : (binds.all fun y => scope.names.lookup y.1 == some .local || scope.names.lookup y.1 == some .cell) = true)
    (h : ∀ s₁, InCallC s s.heap.objs.size (bindL (envOfC qual scope s.heap.objs.size f cdv).kindOf binds fun _ => none) (cellsFrom (s.heap.objs.size + 1) scope.names [])
        (bindC (envOfC qual scope s.heap.objs.size f cdv).kindOf binds fun _ => none) s₁ →
      wpAny (model prog w) (A.deeper (envOfC qual scope s.heap.objs.size f cdv)) (execs body (envOfC qual scope s.heap.objs.size f cdv))
        (fun fl s' => R (.ok (.ret (match fl with | .ret v => v | _ => .none))) s')
        (fun e s' => wpAny (model prog w) (A.deeper (envOfC qual scope s.heap.objs.size f cdv)) (leaving (envOfC qual scope s.heap.objs.size f cdv) e) (fun _ s'' => R (.error e) s'') (fun e' s'' => R (.error e') s'') s') s₁)
    (hco : scope.isCoroutine = false) (hgen : scope.isGenerator = false) (hk : scope.kind = .function) : codeAny (model prog w) A (.call (.ref f) args) R s := by
  refine codeAny_call_function hroom (X _ _ ho) rfl hco hgen rfl (codeRec_of X hcd) (hbind _ _ _ _ ?_)
  refine wpAny_newFunctionEnv_cells hk (kindsX hkind _) fun env he s₁ x => ?_
  subst he
  exact ⟨hlim.keeps x.toInCall.keep, codeAny_func (h s₁ x)⟩

/-- C(..): dict at size, instance at size + 1, then __init__ -/
theorem make_obj {R : Result → Shared → Prop} {C fI : Addr} {rest : List Value} {kw : List (Str × Value)}
    (X : K.In s.heap) (hm : makesIn K C = true) (hi : findIn K (.ref C) "__init__" = some (some (.ref fI))) (hf : isFn K (.ref fI) = true)
    (h : codeAny (model prog w) (A.under (.builtin "type.__call__" ⟨.ref C :: rest, kw⟩)) (.call (.ref fI) ⟨.ref (s.heap.objs.size + 1) :: rest, kw⟩) (InitBack (s.heap.objs.size + 1) R)
      { s with heap := (s.heap.push emptyDict).push (instObj C s.heap.objs.size) }) : codeAny (model prog w) A (.call (.ref C) ⟨rest, kw⟩) R s := by
  obtain ⟨hh, g, d, t, os⟩ := s
  exact make_core (makes_of X hm) (looks_findIn X hi) (fun self => bind_fn X self (beq_iff_eq.mp hf)) (.inl rfl) h

/-- x.name where the instance's dict holds the name and the class does not -/
theorem get_field {x C : Addr} {ox : Obj} {es : List DictEntry} {n : Nat} {name : Str} {expr : Bool} {v : Value} {Q : Value → Shared → Prop}
    (X : K.In s.heap) (I : PySem.W.InstAt s.heap x ox C (some (dictOf es n))) (hg : plainGet K C name = true) (hh : hasDictIn K C = true) (ha : findIn K (.ref C) name = some none)
    (hl : getL name es = some (some v)) (hv : handedIn v = true) (h : Q v { s with toks := s.toks + 1 }) : wpAny (model prog w) A (getAttr (.ref x) name expr) Q E s :=
  get_value X I (plainGet_of hg).1 (findObj_own hh ha rfl hl) hv h

/-- x.m(..): the method found in the class -/
theorem get_method {x C f : Addr} {ox : Obj} {es : List DictEntry} {n : Nat} {name : Str} {pl : Sem Bool} {Q : Value × List Value → Shared → Prop}
    (X : K.In s.heap) (I : PySem.W.InstAt s.heap x ox C (some (dictOf es n))) (hg : plainGet K C name = true) (hf : findIn K (.ref C) name = some (some (.ref f))) (ht : isFn K (.ref f) = true)
    (hl : getL name es = some none) (h : Q (.ref f, [.ref x]) s) : wpAny (model prog w) A (getMethod (.ref x) name pl) Q E s :=
  method_fn X I (plainGet_of hg).1 (plainGet_of hg).2 hf (beq_iff_eq.mp ht) (by show (lookIn name (dictOf es n)).map _ = _; rw [lookIn_dict, hl]; rfl) h

/-! the whole heap as the ledger: makes every rule that writes through a ledger a rule over any heap -/
def noObjs (h : Heap) : Heap := { h with objs := #[] }
theorem noObjs_get (h : Heap) (b : Addr) : (noObjs h).get? b = none := by
  cases e : (noObjs h).get? b with
  | none => rfl
  | some o => exact absurd (Heap.lt_size e) (Nat.not_lt_zero _)
def ledger (h : Heap) (L d : Addr) : List (Addr × Obj) := (List.range h.objs.size).filterMap fun a => if a = L ∨ a = d then none else (h.get? a).map fun o => (a, o)
theorem mem_ledger {h : Heap} {L d a : Addr} {o : Obj} : (a, o) ∈ ledger h L d ↔ a ≠ L ∧ a ≠ d ∧ h.get? a = some o := by
  unfold ledger
  rw [List.mem_filterMap]
  constructor
  · rintro ⟨b, _, e⟩
    split at e
    · cases e
    · rename_i hb
      obtain ⟨o', ho, e'⟩ := Option.map_eq_some_iff.mp e
      cases e'
      exact ⟨fun q => hb (.inl q), fun q => hb (.inr q), ho⟩
  · rintro ⟨n1, n2, ho⟩
    refine ⟨a, List.mem_range.mpr (Heap.lt_size ho), ?_⟩
    rw [if_neg (show ¬ (a = L ∨ a = d) from fun q => q.elim n1 n2), ho] <;> rfl
theorem news_ledger {h : Heap} {L d : Addr} {od : Obj} (hne : d ≠ L) (ho : h.get? d = some od) : News (noObjs h) L h ([] ++ (d, od) :: ledger h L d) := by
  rintro ⟨a, o⟩ hp
  rcases List.mem_cons.mp hp with e | hp
  · cases e
    exact ⟨ho, hne, noObjs_get _ _⟩
  · obtain ⟨n1, n2, e⟩ := mem_ledger.mp hp
    exact ⟨e, n1, noObjs_get _ _⟩
theorem fr_all {h : Heap} {L : Addr} {m : Str → Option Value} (n : h.Ns L m) : Fr (noObjs h) L h m :=
  ⟨n, fun b o e => (by rw [noObjs_get] at e; cases e), Nat.zero_le _⟩
/-- Upd of the head entry (for append_K, setItem_K ..) -/
theorem upd_ledger {h : Heap} {L d : Addr} {o o' : Obj} : Upd d o o' ((d, o) :: ledger h L d) ((d, o') :: ledger h L d) :=
  .head fun ⟨_, _⟩ hp => (mem_ledger.mp hp).2.1

/-- x.name = v over any heap: L is any namespace of the heap (the frame's, say): its map stays, its object is not told; all else but the dict stays -/
theorem set_field {x C dx L : Addr} {ox : Obj} {m : Str → Option Value} {es es' : List DictEntry} {n n' : Nat} {name : Str} {v : Value} {Q : Unit → Shared → Prop}
    (X : K.In s.heap) (I : PySem.W.InstAt s.heap x ox C (some (dictOf es n))) (hd : ox.dict = some dx) (hL : s.heap.Ns L m) (hne : dx ≠ L)
    (hs : findIn K (.ref C) "__setattr__" = some (some (.builtin "object.__setattr__"))) (hp : plainOver K C = true) (ht : takerIn K C name = some none) (hh : hasDictIn K C = true) (hl : (getL name es).isSome = true)
    (e : (putL name (PyData.keyHash w.params name) (.str name (s.toks + 1)) v es, putN name es n) = (es', n')) (hz : es'.length ≤ 1000)
    (h : ∀ h' : Heap, h'.Ns L m → h'.get? dx = some (dictOf es' n') → (∀ b o, b ≠ dx → b ≠ L → s.heap.get? b = some o → h'.get? b = some o) → Q () { s with heap := h', toks := s.toks + 2 }) :
    wpAny (model prog w) A (setAttr (.ref x) name v) Q E s := by
  obtain ⟨e1, e2⟩ := Prod.mk.inj e
  have hdx : s.heap.get? dx = some (dictOf es n) := by
    have := I.dict
    rw [hd] at this
    exact this
  refine set_plain X I hs (osa_dict (s := { s with toks := s.toks + 1 }) (h₀ := noObjs s.heap) (L := L) (m := m) (od := dictOf es n) (od' := dictOf es' n') (es := es') (n := n') (pre := []) (post := ledger s.heap L dx)
    (fr_all hL) (news_ledger hne hdx) X I hd hp ht hh hl (fun _ q => nomatch q) (fun ⟨_, _⟩ q => (mem_ledger.mp q).2.1) (by rw [putName_dict, e1, e2]) rfl hz fun h' F' N' => ?_)
  exact h h' F'.ns (N'.get (List.Mem.head _)) fun b o n1 n2 ho => N'.get (List.Mem.tail _ (mem_ledger.mpr ⟨n2, n1, ho⟩))
end
end Att

namespace L2
open PySem PySem.Spec PyProof.Rows

theorem vals_ints : ∀ {vs : List Value} {ns : List Int}, IntsAre vs ns → Vals (ns.map V.int) vs
  | _, _, .nil => .nil
  | _, _, .cons n t h => .cons ⟨t, rfl⟩ (vals_ints h)

/-- nothing is tracked but the script, known to the object (or it is an object of the module) -/
def Only (H : Hp) : Prop := ∀ b, H b = none ∨ ∃ o xs, H b = some (.frz o (.lst xs))

/-- THE HEAD: the law's promise, at the heap behind the top. F, the promise of the law's def, may use that base is part of the heap (so K.In base, base.Ns mainGlobals mg stand in Mod) -/
theorem law_call {P : Program} {w : World} {K : PySem.W.Frag} {mg mb : Str → Option Value} {CX : CXT} {k : Nat} {fa a : Addr} {fd : FuncData} {x : Str} {sp : Sp} {s₁ : Shared} {vs : List Value} {ns : List Int}
    (KX : K.In s₁.heap) (hns : s₁.heap.Ns mainGlobals mg) (hb : s₁.heap.Ns builtinsNs mb) (hbb : ∀ x : Str, x ≠ "__name__" → mb x = bootBuiltins x) (hlim : s₁.heap.NoLimit) (hg : s₁.gens = #[])
    (ha : s₁.heap.get? a = some { cls := .type "list", data := .seq vs.toArray }) (hi : IntsAre vs ns) (hl : ns.length ≤ sizeLine) (hr : Room k callerA)
    (F : ∀ base : Heap, K.In base → base.Ns mainGlobals mg → FnOk P w K mg base CX k fa fd [x] sp) (hbind : ∀ (s : Shared) (u : Value), BindsTo s fd ⟨[u], []⟩ [(x, u)])
    (hsp : ∀ H : Hp, Only H → SqL K H a (ns.map V.int) → sp [.ref a] H (fun v _ => v = .bl true) fun _ _ _ => False)
    (hCX : ∀ H e s', CX [] H s₁ (fun _ _ _ => False) e s' → False) :
    codeAny (model P w) callerA (.call (.ref fa) ⟨[.ref a], []⟩) (fun r s' => r = .ok (.ret (.bool true)) ∧ OldK s₁.heap s'.heap ∧ s'.os = s₁.os ∧ AllBare s'.gens) s₁ := by
  have rv := vals_ints hi
  have lenV := hi.length
  -- from an abstract heap in which nothing but the script may be tracked
  have core : ∀ H : Hp, Only H → SqL K H a (ns.map V.int) → HOk P w H s₁.heap → (∀ b, H b ≠ none → b = a) → (H a ≠ none → K.lookup a = none) →
      codeAny (model P w) callerA (.call (.ref fa) ⟨[.ref a], []⟩) (fun r s' => r = .ok (.ret (.bool true)) ∧ OldK s₁.heap s'.heap ∧ s'.os = s₁.os ∧ AllBare s'.gens) s₁ := by
    intro H hO hS hok hA hK
    have base_of : ∀ {b : Addr} {o : Obj}, s₁.heap.get? b = some o → H b = none → (hidT s₁.heap H).get? b = some o := fun e n => hidT_get e n
    have noA : ∀ {b : Addr} {o : Obj} {es : Array DictEntry} {ep : Nat}, s₁.heap.get? b = some o → o.data = .dict es ep → H b = none := fun {b o es ep} e d => by
      cases q : H b with
      | none => rfl
      | some u =>
        have e' : b = a := hA b (by rw [q]; simp)
        subst e'
        rw [ha] at e; cases e
        have d' : Data.seq vs.toArray _ = Data.dict es ep := d
        cases d'
    have nsK : ∀ {b : Addr} {m : Str → Option Value}, s₁.heap.Ns b m → (hidT s₁.heap H).Ns b m := fun {b m} ⟨o, es, ep, e, d, r⟩ => ⟨o, es, ep, base_of e (noA e d), d, r⟩
    have hKb : K.In (hidT s₁.heap H) := fun b o e => base_of (KX b o e) (by
      cases q : H b with
      | none => rfl
      | some u =>
        have e' : b = a := hA b (by rw [q]; simp)
        subst e'
        rw [hK (by rw [q]; simp)] at e; cases e)
    have hM : Mod K mg (hidT s₁.heap H) := ⟨hKb, nsK hns, ⟨mb, nsK hb, hbb⟩, let ⟨mc, h1, h2⟩ := hlim; ⟨mc, nsK h1, h2⟩⟩
    have e0 : Env0 P w K mg (hidT s₁.heap H) callerA [] s₁ H := ⟨rfl, hM, fun b o e => of_hidT e, Nat.le_of_eq (hidT_size _ _), trivial, fun b hb => absurd (show b ∈ ([] : List Addr) from hb) (by simp), hok, .of_eq hg⟩
    refine codeAny_mono ((F _ hKb (nsK hns)).run callerA [] s₁ H ⟨[.ref a], []⟩ [.ref a] [.ref a] _ _ hr e0 (hbind s₁ (.ref a)) (.cons rfl .nil) (hsp H hO hS)) fun r s' h => ?_
    cases r with
    | error e => exact (hCX H e s' h).elim
    | ok fl =>
      cases fl with
      | next => exact False.elim h
      | brk => exact False.elim h
      | cont => exact False.elim h
      | ret u =>
        obtain ⟨v, H', os, bare, un, hok', r', q⟩ := h
        have q' : v = .bl true := q
        subst q'
        obtain rfl : u = Value.bool true := r'
        refine ⟨rfl, OldK.of_keep fun b o e => ?_, os, bare⟩
        cases q : H b with
        | none => exact un.keep b o e q (by intro z; exact absurd (show b ∈ ([] : List Addr) from z) (by simp)) (by simp)
        | some u =>
          rcases hO b with z | ⟨ob, xs, z⟩
          · rw [q] at z; cases z
          · have z2 := un.frzs b ob _ z
            obtain ⟨e1, _⟩ := hok b _ z
            obtain ⟨e2, _⟩ := hok' b _ z2
            rw [e] at e1; cases e1
            exact e2
  cases hk : K.lookup a with
  | some o =>
    -- the script is one of the module's own objects
    have e := KX a o hk
    rw [ha] at e
    cases e
    refine core (fun _ => none) (fun _ => .inl rfl) (.inr ⟨_, vs.toArray, _, hk, rfl, rfl, rfl, by rw [List.size_toArray, lenV]; exact hl, by simpa using rv⟩) (fun b u z => by have z' : (none : Option HO) = some u := z; cases z') (fun b z => absurd rfl z) fun z => absurd rfl z
  | none =>
    refine core (fun b => if b = a then some (.frz { cls := .type "list", data := .seq vs.toArray } (.lst (ns.map V.int))) else none) (fun b => ?_) (.inl (.inr ⟨{ cls := .type "list", data := .seq vs.toArray }, if_pos rfl⟩)) (fun b u z => ?_) (fun b z => ?_) fun _ => hk
    · by_cases hb : b = a
      · exact .inr ⟨_, _, if_pos hb⟩
      · exact .inl (if_neg hb)
    · by_cases hb : b = a
      · have z' := (if_pos hb).symm.trans z
        cases z'
        subst hb
        exact ⟨ha, by rw [List.length_map]; exact hl, vs, _, rv, ha⟩
      · have z' := (if_neg hb).symm.trans z
        cases z'
    · by_cases hb : b = a
      · exact hb
      · exact absurd (if_neg hb) z
end L2

namespace L2
open PySem PySem.Spec PyProof.Rows

abbrev KOf {K : PySem.W.Frag} {h : Heap} (_ : K.In h) : PySem.W.Frag := K

/-- the goal that k_head leaves (case hc), from the law's promise. F gives the function object fd (K's own) once, then the promise over every base -/
theorem walk_of {l : PySem.W.OpenLaw} {n k : Nat} {q : Program} {loose : List Str} {XP : (Str → Option Value) → Heap → Prop} {YP : World → Heap → Prop} {d : DefRec} {K : Params → PySem.W.Frag} {CX : World → CXT} {sp : World → Sp} {x : Str}
    (hn : l.most = some n) (hn2 : n ≤ sizeLine) (hdf : d.params.defaults = []) (hr : Room k callerA)
    (hY : ∀ (w : World) (h : Heap), YP w h → (K w.params).In h)
    (F : ∀ (w : World) (mg : Str → Option Value) (fa : Addr) (h : Heap), (K w.params).In h → h.Ns mainGlobals mg → mg d.name = some (.ref fa) →
      ∃ fd : FuncData, (∀ (s : Shared) (u : Value), BindsTo s fd ⟨[u], []⟩ [(x, u)]) ∧
        ∀ base : Heap, (K w.params).In base → base.Ns mainGlobals mg → FnOk l.prog w (K w.params) mg base (CX w) k fa fd [x] (sp w))
    (hsp : ∀ (w : World) (H : Hp) (a : Addr) (ns : List Int), ns.length ≤ n → Only H → SqL (K w.params) H a (ns.map V.int) → sp w [.ref a] H (fun v _ => v = .bl true) fun _ _ _ => False)
    (hCX : ∀ (w : World) (H : Hp) (s : Shared) (e : Value) (s' : Shared), CX w [] H s (fun _ _ _ => False) e s' → False) :
    PySem.W.WalkO q loose XP YP l.row.toRowW d [] (fun f vs => PySem.call f vs) := by
  refine Att.attach_call hn hdf fun w s₀ s₁ mg mb fa o pm cd doc a vs ns G Y ho hd hcd hmg hobj hints hlen hg => ?_
  have KX := hY w _ Y
  obtain ⟨fd, hb, hF⟩ := F w mg fa _ KX G.T.g hmg
  exact law_call KX G.T.g G.T.b G.T.builtins G.T.nolimit hg hobj hints (Nat.le_trans hlen hn2) hr hF hb (fun H hO hS => hsp w H a ns hlen hO hS) fun H e s' => hCX w H s₁ e s'
/-- the same where the promise hangs on the written part alone: (sp := My.sp_law), no hole under a binder -/
theorem walk_ofK {l : PySem.W.OpenLaw} {n k : Nat} {q : Program} {loose : List Str} {XP : (Str → Option Value) → Heap → Prop} {YP : World → Heap → Prop} {d : DefRec} {K : Params → PySem.W.Frag} {CX : CXT} {sp : PySem.W.Frag → Sp} {x : Str}
    (hn : l.most = some n) (hn2 : n ≤ sizeLine) (hdf : d.params.defaults = []) (hr : Room k callerA)
    (hY : ∀ (w : World) (h : Heap), YP w h → (K w.params).In h)
    (F : ∀ (w : World) (mg : Str → Option Value) (fa : Addr) (h : Heap), (K w.params).In h → h.Ns mainGlobals mg → mg d.name = some (.ref fa) →
      ∃ fd : FuncData, (∀ (s : Shared) (u : Value), BindsTo s fd ⟨[u], []⟩ [(x, u)]) ∧
        ∀ base : Heap, (K w.params).In base → base.Ns mainGlobals mg → FnOk l.prog w (K w.params) mg base CX k fa fd [x] (sp (K w.params)))
    (hsp : ∀ (K : PySem.W.Frag) (H : Hp) (a : Addr) (ns : List Int), ns.length ≤ n → Only H → SqL K H a (ns.map V.int) → sp K [.ref a] H (fun v _ => v = .bl true) fun _ _ _ => False)
    (hCX : ∀ (H : Hp) (s : Shared) (e : Value) (s' : Shared), CX [] H s (fun _ _ _ => False) e s' → False) :
    PySem.W.WalkO q loose XP YP l.row.toRowW d [] (fun f vs => PySem.call f vs) :=
  walk_of (K := K) (CX := fun _ => CX) (sp := fun w => sp (K w.params)) hn hn2 hdf hr hY F (fun w H a ns h1 h2 h3 => hsp (K w.params) H a ns h1 h2 h3) fun _ H s e s' => hCX H s e s'
end L2

/- THE LAST THEOREM (shape; LID, My.* are yours):
   My.Adr: a structure of the addresses that your layer names (classes, functions); My.Txt K t: a structure (Prop) of the equations over K;
   My.txt_mk : {K} {implicit addresses ..} (e1 : nsIn K mainGlobals "law" = some (some (.ref f))) (e2 : K.lookup f = some ⟨oc, od, .func (fnOf "law" "law" params body scope dV kV doc pm an cdv ct), sl⟩) (e3 : codeIn K cdv "law" = true) .. : ∃ t, My.Txt K t

set_option maxRecDepth 100000 in
set_option maxHeartbeats 0 in
theorem PySem.Challenge.cw_LID_holds : PySem.Challenge.rw_LID.Holds := by
  w_on; o_law; k_head; (case hw => w_witness2)
  k_fill
  refine L2.walk_of (l := PySem.Challenge.rw_LID) (n := 63) (k := 40) (x := "script") (CX := fun w => ..) (sp := fun _ => My.sp_law) rfl (by decide) rfl ⟨rfl, by decide, by decide⟩ (fun w h Y => PySem.W.kIn_of Y) ?F ?S ?C
  case F =>
    intro w mg fa h KX G hmg
    have T : ∃ t, My.Txt (L2.KOf KX) t := by
      dsimp only [L2.KOf]                          -- K must stand as «<heap const> w.params» for k_is
      refine' My.txt_mk ?e1 ?e2 ?e3 ..
      (case e1 => PySem.W.k_is)                    -- in the order: a name -> its address -> its object -> its parts
      (case e2 => PySem.W.k_is)
      ..
    obtain ⟨t, T⟩ := T
    have e0 := hmg.symm.trans (PySem.W.mg_of KX G T.law)
    cases e0                                       -- fa is the law's own address
    exact ⟨_, fun s u => .of_eq rfl, fun base kb nb => My.law_fn T kb nb⟩     -- if «.of_eq rfl» comes too early: refine' ⟨_, ?b, fun base kb nb => My.law_fn T kb nb⟩; exact fun s u => .of_eq rfl
  case S => exact fun w H a ns hl hO hS => ..
  case C => exact ..
(the tactic k_is has no namespace: write k_is) -/

/-! SHORT WORDS over the layer: a def of the text, its body, what a loop and a test want. -/
namespace L2
open PySem PySem.Spec PyProof.Rows

/-! ### the text by places -/
/-- the j-th statement of a class's body -/
def inClass (s : Stmt) (j : Nat) : Stmt := match s with
  | .ClassDef _ _ _ body _ _ _ _ _ _ _ => body.getD j (.Pass ⟨0, 0, 0, 0⟩)
  | _ => .Pass ⟨0, 0, 0, 0⟩
def defArgs (s : Stmt) : Arguments := match s with
  | .FunctionDef _ a _ _ _ _ _ _ _ _ => a
  | _ => { posonlyargs := [], args := [], vararg := none, kwonlyargs := [], kw_defaults := [], kwarg := none, defaults := [] }
def defBody (s : Stmt) : List Stmt := match s with
  | .FunctionDef _ _ b _ _ _ _ _ _ _ => b
  | _ => []
def defScope (s : Stmt) : Scope := match s with
  | .FunctionDef _ _ _ _ _ _ sc _ _ _ => sc
  | _ => { kind := .function, names := [], isGenerator := false, isCoroutine := false }

/-! ### no exception leaves a def -/
abbrev CX0 : CXT := fun _ _ _ _ _ _ => False
abbrev E0 : XK := fun _ _ _ => False
theorem pass0 {X : Cx} : Passes CX0 X E0 := fun _ _ _ _ _ _ _ h => h.elim

/-! ### a def (or method) of the text as it stands behind the top -/
structure Fun (K : PySem.W.Frag) (x qual : Str) (st : Stmt) (f : Addr) (fd : FuncData) : Prop where
  ex : ∃ (oc : Value) (od : Option Addr) (kV doc pm : Value) (an : Option Addr) (cdv ct : Value) (osl : Array (Option Value)),
    fd = PySem.W.fnOf x qual (defArgs st) (defBody st) (defScope st) .none kV doc pm an cdv ct ∧ K.lookup f = some ⟨oc, od, .func fd, osl⟩ ∧ PySem.W.codeIn K cdv qual = true
  kp : PySem.W.keepIn K (.ref f) = true
section
variable {P : Program} {w : World} {K : PySem.W.Frag} {mg : Str → Option Value} {base : Heap}
/-- THE RULE for a def: its body as a term of rules, and the reading of that term -/
theorem Fun.ok {x qual : Str} {st : Stmt} {f : Addr} {fd : FuncData} {N ps : List Str} {k : Nat} {sp : Sp} (F : Fun K x qual st f fd) (S : FnScope N ps (defScope st)) (len : ∀ vs H Q E, sp vs H Q E → vs.length = ps.length)
    (hbody : ∀ (cdv : Value) (A : Around) (outer : List Env) (s : Shared) (H : Hp) (vs : List V) (Q : VK) (E : XK), Room k (A.deeper (envOfC qual (defScope st) s.heap.objs.size f cdv)) → sp vs H Q E →
      ∃ t, PSs (cxOf CX0 P w K mg base N qual (defScope st) f cdv A outer s H E).nox (defBody st) t ∧ t { nx := fun _ H' => Q .non H', rt := Q } (start N vs) H) : FnOk P w K mg base CX0 (k + 1) f fd ps sp := by
  obtain ⟨oc, od, kV, doc, pm, an, cdv, ct, osl, rfl, lk, hcd⟩ := F.ex
  refine fn_of lk hcd S len fun A outer s H vs Q E hr hsp => ?_
  obtain ⟨t, h, q⟩ := hbody cdv A outer s H vs Q E hr hsp
  exact ⟨t, h.nox, q⟩
/-- how its arguments bind (no defaults): h is «fun _ _ _ _ _ _ us hl => match us, hl with | [_, _], _ => rfl», one _ a parameter -/
theorem Fun.binds {x qual : Str} {st : Stmt} {f : Addr} {fd : FuncData} {ps : List Str} (F : Fun K x qual st f fd)
    (h : ∀ (kV doc pm : Value) (an : Option Addr) (cdv ct : Value) (us : List Value), us.length = ps.length → bindArgs (PySem.W.fnOf x qual (defArgs st) (defBody st) (defScope st) .none kV doc pm an cdv ct) ⟨us, []⟩ = pure (ps.zip us)) : Binds K fd ps [] := by
  obtain ⟨oc, od, kV, doc, pm, an, cdv, ct, osl, rfl, lk, hcd⟩ := F.ex
  exact .all (h kV doc pm an cdv ct)
theorem fun_mk {x qual : Str} {st : Stmt} {f : Addr} {oc : Value} {od an : Option Addr} {osl : Array (Option Value)} {kV doc pm cdv ct : Value} (l : K.lookup f = some ⟨oc, od, .func (PySem.W.fnOf x qual (defArgs st) (defBody st) (defScope st) .none kV doc pm an cdv ct), osl⟩)
    (c : PySem.W.codeIn K cdv qual = true) (k : PySem.W.keepIn K (.ref f) = true) : Fun K x qual st f (PySem.W.fnOf x qual (defArgs st) (defBody st) (defScope st) .none kV doc pm an cdv ct) := ⟨⟨oc, od, kV, doc, pm, an, cdv, ct, osl, rfl, l, c⟩, k⟩
end
theorem hu_of {A : Around} {k : Nat} (hr : Room k A) : A.units + 1 < cLine := Nat.lt_of_le_of_lt (Nat.add_le_add_left (by decide : 1 ≤ 64) _) hr.units
theorem small1000 {n : Nat} (h : n ≤ 1000) : n < sizeLine := Nat.lt_of_le_of_lt h (by decide)

/-! ### expressions in short: the name that stands in the i-th slot -/
section
variable {X : Cx}
theorem pv (i : Nat) {x : Str} {pos : Pos} (hN : X.N[i]? = some x := by rfl) (hv : Vis X.env.scope x := by first | exact Or.inl rfl | exact Or.inr (Or.inl rfl) | exact Or.inr (Or.inr rfl)) (hd : (x == ("__debug__" : Str)) = false := by decide)
    (hcd : (x == ("__classdict__" : Str)) = false := by decide) : PE X (.Name x pos) (tVar i) := pe_var hN hv hd hcd
/-- len of a dict -/
theorem call_lenD : CallR X (.builtin "len") (fun xs H Q => ∃ a kvs, xs = [V.ref a] ∧ H a = some (.dK kvs) ∧ Q (.int kvs.length) H) := by
  intro pins s σ H xs us Q I r h
  obtain ⟨a, kvs, rfl, ha, q⟩ := h
  obtain ⟨u, rfl, ru⟩ := vals1 r
  cases ru
  exact d_len I (.inl ha) fun t s' I' => ⟨.int kvs.length, H, I', ⟨t, rfl⟩, q⟩
end

/-! ### tests -/
theorem iteF {A B : Prop} (h : B) : if false = true then A else B := by
  rw [if_neg Bool.false_ne_true]
  exact h
theorem iteT {A B : Prop} (h : A) : if true = true then A else B := by
  rw [if_pos rfl]
  exact h
theorem ite2 {c A B : Prop} [Decidable c] (h1 : c → A) (h2 : ¬ c → B) : if c then A else B := by
  by_cases h : c
  · rw [if_pos h]
    exact h1 h
  · rw [if_neg h]
    exact h2 h
theorem iteNS {c A B : Prop} [Decidable c] (hc : c) (h : B) : if (!decide c) = true then A else B := by
  rw [decide_eq_true hc]
  exact iteF h

/-! ### heaps -/
/-- all that was tracked is as it was -/
def Same (H H' : Hp) : Prop := ∀ b o, H b = some o → H' b = some o
theorem Same.refl (H : Hp) : Same H H := fun _ _ h => h
theorem Same.trans {H H1 H2 : Hp} (a : Same H H1) (b : Same H1 H2) : Same H H2 := fun c o h => b c o (a c o h)
theorem Same.free {H H' : Hp} (e : Same H H') {l : Addr} (h : H' l = Option.none) : H l = Option.none := by
  cases q : H l with
  | none => rfl
  | some o =>
    rw [e l o q] at h
    cases h
theorem Same.seq {K : PySem.W.Frag} {H H' : Hp} {a : Addr} {xs : List V} (e : Same H H') (h : SqL K H a xs) : SqL K H' a xs := by
  rcases h with (h | ⟨o, h⟩) | h
  · exact .inl (.inl (e _ _ h))
  · exact .inl (.inr ⟨o, e _ _ h⟩)
  · exact .inr h

/-! ### a dict's pairs: keys that differ -/
section
variable {κ : Type} [DecidableEq κ]
theorem valV_not {kvs : List (κ × V)} {k : κ} (h : valV kvs k = none) : ¬ k ∈ kvs.map (·.1) := by
  intro m
  obtain ⟨p, hp, e⟩ := List.mem_map.mp m
  have q : (kvs.any fun kv => decide (kv.1 = k)) = true := List.any_eq_true.mpr ⟨p, hp, decide_eq_true e⟩
  rw [valV_any, h] at q
  exact absurd q (by simp)
theorem valV_in {kvs : List (κ × V)} {k : κ} {v : V} (h : valV kvs k = some v) : k ∈ kvs.map (·.1) := by
  have q : (kvs.any fun kv => decide (kv.1 = k)) = true := by
    rw [valV_any, h]
    all_goals rfl
  obtain ⟨p, hp, e⟩ := List.any_eq_true.mp q
  exact List.mem_map.mpr ⟨p, hp, of_decide_eq_true e⟩
theorem nd_snoc : ∀ {l : List κ} {k : κ}, l.Nodup → ¬ k ∈ l → (l ++ [k]).Nodup
  | [], k, _, _ => by simp
  | a :: r, k, h, hk => by
    obtain ⟨h1, h2⟩ := List.nodup_cons.mp h
    show (a :: (r ++ [k])).Nodup
    refine List.nodup_cons.mpr ⟨fun m => ?_, nd_snoc h2 fun m => hk (List.mem_cons.mpr (Or.inr m))⟩
    rcases List.mem_append.mp m with q | q
    · exact h1 q
    · exact hk (List.mem_cons.mpr (Or.inl (List.mem_singleton.mp q).symm))
theorem nd_putK {kvs : List (κ × V)} {k : κ} (v : V) (hn : (kvs.map (·.1)).Nodup) (h : valV kvs k = none) : ((putK kvs k v).map (·.1)).Nodup := by
  rw [putK_new v h, List.map_append]
  exact nd_snoc hn (valV_not h)
theorem dropK_pos {p : κ × V} {r : List (κ × V)} {k : κ} (e : p.1 = k) : dropK (p :: r) k = dropK r k := by
  unfold dropK
  rw [List.filter_cons, if_neg (by simp [e])]
theorem dropK_neg {p : κ × V} {r : List (κ × V)} {k : κ} (e : ¬ p.1 = k) : dropK (p :: r) k = p :: dropK r k := by
  unfold dropK
  rw [List.filter_cons, if_pos (by simp [e])]
theorem dropK_no : ∀ {kvs : List (κ × V)} {k : κ}, ¬ k ∈ kvs.map (·.1) → dropK kvs k = kvs
  | [], _, _ => rfl
  | p :: r, k, h => by
    have h' : ¬ k ∈ r.map (·.1) := fun m => by
      obtain ⟨q, hq, e⟩ := List.mem_map.mp m
      exact h (List.mem_map.mpr ⟨q, List.mem_cons.mpr (Or.inr hq), e⟩)
    rw [dropK_neg fun e => h (List.mem_map.mpr ⟨p, List.mem_cons.mpr (Or.inl rfl), e⟩), dropK_no h']
theorem dropK_mem {kvs : List (κ × V)} {k : κ} {p : κ × V} (h : p ∈ dropK kvs k) : p ∈ kvs := (List.mem_filter.mp h).1
theorem nd_dropK : ∀ {kvs : List (κ × V)} {k : κ}, (kvs.map (·.1)).Nodup → ((dropK kvs k).map (·.1)).Nodup
  | [], _, _ => List.nodup_nil
  | p :: r, k, h => by
    have h : (p.1 :: r.map (·.1)).Nodup := h
    obtain ⟨h1, h2⟩ := List.nodup_cons.mp h
    by_cases e : p.1 = k
    · rw [dropK_pos e]
      exact nd_dropK h2
    · rw [dropK_neg e]
      show (p.1 :: (dropK r k).map (·.1)).Nodup
      refine List.nodup_cons.mpr ⟨fun m => h1 ?_, nd_dropK h2⟩
      obtain ⟨q, hq, eq⟩ := List.mem_map.mp m
      exact List.mem_map.mpr ⟨q, dropK_mem hq, eq⟩
theorem dropK_len : ∀ {kvs : List (κ × V)} {k : κ}, (kvs.map (·.1)).Nodup → k ∈ kvs.map (·.1) → (dropK kvs k).length + 1 = kvs.length
  | [], _, _, m => by simp at m
  | p :: r, k, h, m => by
    have h : (p.1 :: r.map (·.1)).Nodup := h
    have m : k = p.1 ∨ k ∈ r.map (·.1) := List.mem_cons.mp m
    obtain ⟨h1, h2⟩ := List.nodup_cons.mp h
    by_cases e : p.1 = k
    · subst e
      rw [dropK_pos rfl, dropK_no h1]
      all_goals rfl
    · have m' : k ∈ r.map (·.1) := m.resolve_left fun z => e z.symm
      have q := dropK_len h2 m'
      rw [dropK_neg e, List.length_cons, List.length_cons]
      omega
end
/-! ### lists -/
theorem at_of {xs : List V} {z : Int} {j : Nat} {v : V} (e : z = (j : Int)) (h : xs[j]? = some v) : atI xs z = some v := by
  rw [e]
  exact atI_nat h
theorem nd_ix {α : Type} {l : List α} (hN : l.Nodup) {i j : Nat} {x : α} (a : l[i]? = some x) (b : l[j]? = some x) : i = j := by
  obtain ⟨h1, e1⟩ := List.getElem?_eq_some_iff.mp a
  obtain ⟨h2, e2⟩ := List.getElem?_eq_some_iff.mp b
  exact (List.getElem_inj hN).mp (e1.trans e2.symm)
theorem sum_set : ∀ {l : List Int} {j : Nat} {z y : Int}, l[j]? = some z → (l.set j y).sum = l.sum - z + y
  | [], j, z, y, h => by simp at h
  | a :: r, 0, z, y, h => by
    have e : a = z := Option.some.inj h
    subst e
    show (y :: r).sum = (a :: r).sum - a + y
    rw [List.sum_cons, List.sum_cons]
    omega
  | a :: r, j + 1, z, y, h => by
    have ih := sum_set (l := r) (j := j) (z := z) (y := y) h
    show (a :: r.set j y).sum = (a :: r).sum - z + y
    rw [List.sum_cons, List.sum_cons, ih]
    omega
theorem sum_take : ∀ {l : List Int} {i : Nat} {z : Int}, l[i]? = some z → (l.take (i + 1)).sum = (l.take i).sum + z
  | [], i, z, h => by simp at h
  | a :: r, 0, z, h => by
    have e : a = z := Option.some.inj h
    subst e
    show ([a] : List Int).sum = ([] : List Int).sum + a
    rw [List.sum_cons]
    exact Int.add_comm _ _
  | a :: r, i + 1, z, h => by
    have ih := sum_take (l := r) (i := i) (z := z) h
    show (a :: r.take (i + 1)).sum = (a :: r.take i).sum + z
    rw [List.sum_cons, List.sum_cons, ih]
    omega
/-- a new instance and its __init__ leave all that was tracked as it was -/
theorem Same.made {H H1 : Hp} {x dx C : Addr} (nx : H x = Option.none) (nd : H dx = Option.none) (k : ∀ b o, (upd (upd H dx (.own x)) x (.ins C dx [])) b = some o → b ≠ x → H1 b = some o) : Same H H1 := fun b o e =>
  k b o (by rw [upd_ne (ne_of_none e nx), upd_ne (ne_of_none e nd)]; exact e) (ne_of_none e nx)
end L2

namespace Ev
open PySem PySem.Spec PySem.W PySem.Builtin PySem.Builtin.ObjectAttr PySem.Builtin.Getset_descriptor
/-- an exception's object: of the class at C, with no dict of its own -/
structure ExcAt (h : Heap) (x C : Addr) : Prop where
  ex : ∃ ox, h.get? x = some ox ∧ ox.cls = .ref C ∧ notCls ox = true
theorem ExcAt.type {h : Heap} {x C : Addr} {M : Model} (I : ExcAt h x C) : Looks M h (typeOf (.ref x)) (.ref C) := by
  obtain ⟨ox, h1, h2, _⟩ := I.ex
  exact h2 ▸ (Looks.ld h1).andThen .now
section
variable {prog : Program} {w : World} {A : Around} {E : Value → Shared → Prop} {s : Shared} {K : Frag} {x C : Addr}
/-- what the module's classes of exceptions are -/
def excOk (K : Frag) (C : Addr) : Bool :=
  findIn K (.ref C) "__getattribute__" == some (some (.builtin "BaseException.__getattribute__")) && findIn K (.ref C) "__getattr__" == some none
  && findIn K (.ref C) "__class__" == some (some (.builtin "object.__class__")) && mroIn K C (.type "object") == some true && mroIn K C (.type "BaseException") == some true && (clsIn K C).isSome
/-- what has the class C, and C is below object: its __class__ is C -/
theorem exc_get {R : Result → Shared → Prop} {tp : Value} (ty : Looks (model prog w) s.heap (typeOf (.ref x)) (.ref C)) (sub : Looks (model prog w) s.heap (isSubtype (.ref C) (.type "object")) true) (h : R (.ok (.ret (.ref C))) s) :
    codeAny (model prog w) A (.call (.builtin "getset_descriptor.__get__") ⟨[.builtin "object.__class__", .ref x, tp], []⟩) R s := by
  cases s
  refine codeAny_call_builtin F.slot_gs_get.plain F.entry_gs_get (F.slot_gs_get.check _ _ _ _ _ _ _ _ F.typeOf_object_class (F.args_gs_get _ _ _) ?_)
  have own : isSubtype (.ref C) (.type (".".intercalate ("object.__class__".cutAt '.').dropLast)) = isSubtype (.ref C) (.type "object") := by rw [F.owner_object_class]
  repeat (any_goals (first | with_reducible refine ty.at ?_ | (rw [own]; with_reducible refine sub.at ?_) | wp_step))
  all_goals first
    | exact ⟨Code.quiet_builtin _ (by decide +kernel), codeAny_builtin F.entry_object_class (by
        unfold Builtin.«object.__class__» shownTypeOf
        repeat (any_goals (first | exact h | with_reducible refine ty.at ?_ | wp_step)))⟩
    | exact h
/-- what is looked up of an exception on the way to its class -/
structure ExcLooks (M : Model) (h : Heap) (x C : Addr) : Prop where
  ty : Looks M h (typeOf (.ref x)) (.ref C)
  ga : Looks M h (typeLookup (.ref C) "__getattribute__") (some (.builtin "BaseException.__getattribute__"))
  no : Looks M h (typeLookup (.ref C) "__getattr__") none
  cl : Looks M h (typeLookup (.ref C) "__class__") (some (.builtin "object.__class__"))
  ob : Looks M h (isSubtype (.ref C) (.type "object")) true
  be : Looks M h (isSubtype (.ref C) (.type "BaseException")) true
theorem excLooks {M : Model} {h : Heap} (ho : excOk K C = true) (X : K.In h) (I : ExcAt h x C) : ExcLooks M h x C := by
  unfold excOk at ho
  simp only [Bool.and_eq_true, beq_iff_eq] at ho
  exact ⟨I.type, looks_findIn X ho.1.1.1.1.1, looks_findIn X ho.1.1.1.1.2, looks_findIn X ho.1.1.1.2, looks_mroIn X ho.1.1.2, looks_mroIn X ho.1.2⟩
/-- the slot takes it -/
theorem ExcLooks.takes {nm : Value} {Q : Unit → Shared → Prop} (L : ExcLooks (model prog w) s.heap x C) (h : Q () s) : wpAny (model prog w) A (checkBuiltinCall "BaseException.__getattribute__" ⟨[.ref x, nm], []⟩) Q E s := by
  cases s
  have ok := F.args_bexc_ga (.ref x) nm
  simp only [checkBuiltinCall, show builtinKind "BaseException.__getattribute__" = some .slot by decide +kernel, show splitId "BaseException.__getattribute__" = some ("BaseException", "__getattribute__") by decide +kernel]
  unfold isInstance
  repeat (any_goals (first | exact ok | exact h | with_reducible refine L.ty.at ?_ | with_reducible refine L.be.at ?_ | wp_step))
/-- .. and answers the class -/
theorem ExcLooks.says {tk : Tok} {R : Result → Shared → Prop} (L : ExcLooks (model prog w) s.heap x C) (h : R (.ok (.ret (.ref C))) s) : codeAny (model prog w) A (.call (.builtin "BaseException.__getattribute__") ⟨[.ref x, .str "__class__" tk], []⟩) R s := by
  refine codeAny_call_builtin F.attr_ValueError.ga.plain F.entry_bexc_ga (L.takes ?_)
  cases s
  have d1 := F.typeOf_object_class
  have d2 := F.slot_gs_get.lookup
  have d3 := F.slot_gs_set.lookup
  repeat (any_goals (first | exact d1 | exact d2 | exact d3 | exact h | with_reducible refine L.ty.at ?_ | with_reducible refine L.cl.at ?_ | with_reducible refine exc_get L.ty L.ob ?_ | wp_step))
theorem exc_class {Q : Option Value → Shared → Prop} (ho : excOk K C = true) (X : K.In s.heap) (I : ExcAt s.heap x C) (h : Q (some (.ref C)) { s with toks := s.toks + 1 }) : wpAny (model prog w) A (getAttr? (.ref x) "__class__") Q E s := by
  have L : ExcLooks (model prog w) s.heap x C := excLooks ho X I
  have bd := F.attr_ValueError.ga.bind (.ref x)
  have other : (onTheHeap (Value.ref C) && Value.builtin "BaseException.__getattribute__" == Value.builtin "object.__getattribute__") = false := by
    rw [show (Value.builtin "BaseException.__getattribute__" == Value.builtin "object.__getattribute__") = false by decide +kernel, Bool.and_false]
  cases s
  unfold getAttr? getAttrBy? getAttrBy
  refine wpAny_bind (wpAny_mkText (wpAny_bind (wpAny_attempt (wpAny_holding (wpAny_bind (L.ty.at (wpAny_bind (L.ga.at (by
    show wpAny _ _ (if (onTheHeap (Value.ref C) && Value.builtin "BaseException.__getattribute__" == Value.builtin "object.__getattribute__") = true then _ else _) _ _ _
    rw [other, if_neg Bool.false_ne_true]
    unfold getAttrByItsOwn
    repeat (any_goals (first | exact bd | exact h | with_reducible refine L.ty.at ?_ | with_reducible refine L.no.at ?_ | wp_step))
    refine ExcLooks.says L ?_
    repeat (any_goals (first | exact h | wp_step)))))))))))
/-- the class lies in the module as a class -/
theorem excOk.obj (ho : excOk K C = true) : ∃ o cd, K.lookup C = some o ∧ o.data = .cls cd := by
  unfold excOk at ho
  rw [Bool.and_eq_true] at ho
  have is := ho.2
  unfold clsIn at is
  split at is
  · exact ⟨_, _, ‹_›, rfl⟩
  · exact Bool.noConfusion is
theorem kitx_exc (ho : excOk K C = true) : KitX K (.ref x) (.ref C) (fun h => ExcAt h x C) where
  ty := fun _ _ _ I => I.type
  it := fun M h X _ A' Q' E' s' k q => by
    obtain ⟨o, cd, e, d⟩ := excOk.obj ho
    cases s'
    exact ks_wpAny_isType_cls (k _ _ (X _ _ e)) d q
  ne := fun h tp dd its n sl X htp => by
    obtain ⟨o, cd, e, d⟩ := excOk.obj ho
    cases hb : (Value.ref C == Value.ref tp) with
    | false => rfl
    | true =>
      cases beq_iff_eq.mp hb
      rw [X _ _ e] at htp
      cases htp
      cases d
  ca := fun X I k => exc_class ho X I k
end
end Ev

namespace Ev
open PySem PySem.Spec L2 PyProof.Rows
/-- the program's classes of exceptions -/
def xname : Nat → Str
  | 0 => "ShellError" | 1 => "NoRatio" | 2 => "NoGrid" | 3 => "NoPlace" | 4 => "TooFar" | 5 => "TooMany" | 6 => "NotTogether" | 7 => "NoText" | 8 => "NoLine" | 9 => "NoBack" | _ => ""
def cA (K : PySem.W.Frag) (c : Nat) : Addr := match PySem.W.nsIn K mainGlobals (xname c) with
  | some (some (.ref C)) => C
  | _ => 0
/-- the classes of exceptions that the module has -/
def xcs (K : PySem.W.Frag) : List Nat := (List.range 10).filter fun c => match PySem.W.nsIn K mainGlobals (xname c) with
  | some (some (.ref _)) => true
  | _ => false
/-- an exception in flight -/
structure Fly (P : Program) (w : World) (K : PySem.W.Frag) (outer : List Env) (H : Hp) (s : Shared) (c : Nat) (a t : Addr) (H' : Hp) (B h : Heap) : Prop where
  fl : Heap.FlyingW B outer a (.ref (cA K c)) (.ref t) h
  un : Un (frs outer) [] H H' s.heap h
  hok : HOk P w H' B
  keep : ∀ b o, s.heap.get? b = some o → H b = none → b ∉ frs outer → B.get? b = some o
  there : ∀ b o, s.heap.get? b = some o → b ∉ frs outer → ∃ o', B.get? b = some o'
  new : s.heap.get? a = none
  frm : ∀ b ∈ frs outer, ∃ o, s.heap.get? b = some o ∧ ∀ vs, o.data ≠ .fields vs
  frH : ∀ b ∈ frs outer, H b = none
  kn : c ∈ xcs K
def CXE (P : Program) (w : World) (K : PySem.W.Frag) : CXT := fun outer H s E e s' => ∃ (a t : Addr) (c : Nat) (H' : Hp) (B : Heap), e = .ref a ∧ s'.os = s.os ∧ AllBare s'.gens ∧ Fly P w K outer H s c a t H' B s'.heap ∧ E .none (some c) H'
section
variable {P : Program} {w : World} {K : PySem.W.Frag} {outer : List Env} {H H' : Hp} {s : Shared} {c : Nat} {a t : Addr} {B h h2 : Heap}
/-- what a flight to another heap keeps -/
theorem Fly.move (F : Fly P w K outer H s c a t H' B h) (f : Heap.FlyingW B outer a (.ref (cA K c)) (.ref t) h2) (u : h.UpToSlots h2) : Fly P w K outer H s c a t H' B h2 := by
  refine ⟨f, ⟨fun b o e n hb _ => f.1 b o (F.keep b o e n hb), fun b o e n hb hx => ?_, F.un.free, fun b o e _ => ?_, F.un.tups, F.un.frzs, F.un.tbls⟩, F.hok, F.keep, F.there, F.new, F.frm, F.frH, F.kn⟩
  · obtain ⟨sl, e1⟩ := F.un.slot b o e n hb hx
    obtain ⟨o', e', hn⟩ := F.frm b hb
    rw [e] at e'; cases e'
    obtain ⟨sl', e2⟩ := u b _ e1 hn
    exact ⟨sl', e2⟩
  · by_cases hb : b ∈ frs outer
    · obtain ⟨_, o2, h3, _⟩ := f.2.2.1.mem hb
      exact ⟨o2, h3⟩
    · obtain ⟨o', e'⟩ := F.there b o e hb
      exact ⟨o', f.1 b o' e'⟩
theorem Fly.hok2 (F : Fly P w K outer H s c a t H' B h) : HOk P w H' h := F.hok.kept F.fl.1
theorem Fly.free (F : Fly P w K outer H s c a t H' B h) : H' a = none := by
  cases q : H' a with
  | none => rfl
  | some o =>
    have : B.get? a ≠ none := fun z => by
      have hlt : ∃ ob, B.get? a = some ob := by
        have := F.hok a o q
        cases o with
        | lst xs => obtain ⟨_, _, _, _, e⟩ := this; exact ⟨_, e⟩
        | tup xs => obtain ⟨_, _, _, ob, e, _⟩ := this; exact ⟨_, e⟩
        | dK kvs => obtain ⟨_, _, _, _, ob, _, _, e, _⟩ := this; exact ⟨_, e⟩
        | dT kvs => obtain ⟨_, _, _, _, ob, _, _, e, _⟩ := this; exact ⟨_, e⟩
        | set S n => obtain ⟨ob, _, _, _, e, _⟩ := this; exact ⟨_, e⟩
        | ins C dx fs => obtain ⟨_, _, _, e, _⟩ := this; exact ⟨_, e⟩
        | own y => exact this
        | xd fs => obtain ⟨_, ⟨_, _, _, e, _⟩, _⟩ := this; exact ⟨_, e⟩
        | rng lo hi => obtain ⟨_, _, _, e⟩ := this; exact ⟨_, e⟩
        | frz ob u => obtain ⟨e, _⟩ := this; exact ⟨_, e⟩
        | tbl ps => exact ⟨_, (show B.get? a = some _ from this)⟩
        | met f y => exact ⟨_, (show B.get? a = some _ from this)⟩
        | ext φ => exact this.2.1
      obtain ⟨ob, e⟩ := hlt
      rw [z] at e; cases e
    exact absurd F.fl.2.1 this
theorem Fly.exc (F : Fly P w K outer H s c a t H' B h) : ExcAt h a (cA K c) := by
  obtain ⟨oe, vs, h1, h2, h3, _⟩ := F.fl.first
  exact ⟨oe, h1, h2, by unfold PySem.W.notCls; rw [h3]⟩
end
section
variable {X : Cx} {pins : List (Addr × Obj)} {σ : L2.St} {H H' : Hp} {s s' : Shared} {c : Nat} {a t : Addr} {B h : Heap}
/-- a flight that came out of a call lies at this body -/
theorem Fly.inv (F : Fly X.prog X.w X.K X.stack H s c a t H' B s'.heap) (I : Inv X pins σ H s) (ho : s'.os = s.os) (hg : AllBare s'.gens) : Inv X pins σ H' s' :=
  I.call' (ch := []) ho F.un F.hok2 hg fun b hb => absurd hb (by simp)
theorem frs_cons {env : Env} {l : List Env} {L : Addr} (hf : env.frame = some L) : frs (env :: l) = L :: frs l := by
  unfold frs; rw [List.filterMap_cons, hf]
/-- .. and leaves it -/
theorem Fly.out (F : Fly X.prog X.w X.K X.stack H s c a t H' B h) (I : Inv X pins σ H s) (hx : X.ex = []) (hs : X.stack = X.env :: X.outer) (hf : X.env.frame = some X.env.locals) (f : Heap.FlyingW B X.outer a (.ref (cA X.K c)) (.ref t) h2) (u : h.UpToSlots h2) :
    Fly X.prog X.w X.K X.outer X.H_0 X.s_0 c a t H' B h2 := by
  have hfs : frs X.stack = X.env.locals :: X.fs := by rw [hs]; exact frs_cons hf
  have ne : ∀ b o, X.s_0.heap.get? b = some o → b ≠ X.env.locals := fun b o e => Nat.ne_of_lt (Nat.lt_of_lt_of_le (Heap.lt_size e) I.ok.above)
  have noex : ∀ b, b ∉ X.ex := fun b => by rw [hx]; simp
  have notin : ∀ b o, X.s_0.heap.get? b = some o → b ∉ X.fs → b ∉ frs X.stack := fun b o e hb z => by
    rw [hfs] at z
    rcases List.mem_cons.mp z with z | z
    · exact ne b o e z
    · exact hb z
  have keepB : ∀ b o, X.s_0.heap.get? b = some o → X.H_0 b = none → b ∉ X.fs → B.get? b = some o := fun b o e n hb =>
    F.keep b o (I.base.keep b o e n hb (noex b)) (I.base.free b o e n (noex b)) (notin b o e hb)
  have thereB : ∀ b o, X.s_0.heap.get? b = some o → b ∉ X.fs → ∃ o', B.get? b = some o' := fun b o e hb => by
    obtain ⟨o1, e1⟩ := I.base.there b o e (noex b)
    exact F.there b o1 e1 (notin b o e hb)
  refine ⟨f, ⟨fun b o e n hb _ => f.1 b o (keepB b o e n hb), fun b o e n hb _ => ?_, fun b o e n _ => ?_, fun b o e _ => ?_, fun b xs e => F.un.tups b xs (I.base.tups b xs e), fun b o xs e => F.un.frzs b o xs (I.base.frzs b o xs e), fun b ps e => ?_⟩, F.hok, keepB, thereB, ?_, fun b hb => ?_, I.ok.frf, F.kn⟩
  · obtain ⟨sl, e1⟩ := I.base.slot b o e n hb (noex b)
    have hb2 : b ∈ frs X.stack := by rw [hfs]; exact List.mem_cons_of_mem _ hb
    obtain ⟨sl2, e2⟩ := F.un.slot b _ e1 (I.base.free b o e n (noex b)) hb2 (by simp)
    obtain ⟨_, o', e', hn⟩ := I.ok.funs.mem hb
    rw [e] at e'; cases e'
    obtain ⟨sl3, e3⟩ := u b _ e2 hn
    exact ⟨sl3, e3⟩
  · obtain ⟨o1, e1⟩ := I.base.there b o e (noex b)
    exact F.un.free b o1 e1 (I.base.free b o e n (noex b)) (by simp)
  · by_cases hb : b ∈ X.fs
    · obtain ⟨_, o2, h3, _⟩ := f.2.2.1.mem hb
      exact ⟨o2, h3⟩
    · obtain ⟨o', e'⟩ := thereB b o e hb
      exact ⟨o', f.1 b o' e'⟩
  · obtain ⟨m1, e1⟩ := I.base.tbls b ps e
    obtain ⟨m2, e2⟩ := F.un.tbls b _ e1
    exact ⟨m1 ++ m2, by rw [e2, Array.append_assoc]⟩
  · cases q : X.s_0.heap.get? a with
    | none => rfl
    | some o =>
      obtain ⟨o1, e1⟩ := I.base.there a o q (noex a)
      rw [F.new] at e1; cases e1
  · obtain ⟨_, o, e, hn⟩ := I.ok.funs.mem hb
    exact ⟨o, e, hn⟩
/-- an exception that was just made here leaves this body -/
theorem made_out {vs : List Value} {h' h2 : Heap} (kn : c ∈ xcs X.K) (I : Inv X pins σ H s) (hx : X.ex = []) (hs : X.stack = X.env :: X.outer) (hf : X.env.frame = some X.env.locals) (M : Heap.MadeExcOf s.heap h' a (.ref (cA X.K c)) vs)
    (f : Heap.FlyingW (PySem.W.hideAll s.heap (frs X.stack)) X.outer a (.ref (cA X.K c)) (.ref t) h2) (u : h'.UpToSlots h2) : Fly X.prog X.w X.K X.outer X.H_0 X.s_0 c a t H (PySem.W.hideAll s.heap (frs X.stack)) h2 := by
  have hfs : frs X.stack = X.env.locals :: X.fs := by rw [hs]; exact frs_cons hf
  have ne : ∀ b o, X.s_0.heap.get? b = some o → b ≠ X.env.locals := fun b o e => Nat.ne_of_lt (Nat.lt_of_lt_of_le (Heap.lt_size e) I.ok.above)
  have noex : ∀ b, b ∉ X.ex := fun b => by rw [hx]; simp
  have notin : ∀ b o, X.s_0.heap.get? b = some o → b ∉ X.fs → b ∉ frs X.stack := fun b o e hb z => by
    rw [hfs] at z
    rcases List.mem_cons.mp z with z | z
    · exact ne b o e z
    · exact hb z
  have keepB : ∀ b o, X.s_0.heap.get? b = some o → X.H_0 b = none → b ∉ X.fs → (PySem.W.hideAll s.heap (frs X.stack)).get? b = some o := fun b o e n hb =>
    PySem.W.hideAll_get _ (I.base.keep b o e n hb (noex b)) (notin b o e hb)
  have thereB : ∀ b o, X.s_0.heap.get? b = some o → b ∉ X.fs → ∃ o', (PySem.W.hideAll s.heap (frs X.stack)).get? b = some o' := fun b o e hb => by
    obtain ⟨o1, e1⟩ := I.base.there b o e (noex b)
    exact ⟨o1, PySem.W.hideAll_get _ e1 (notin b o e hb)⟩
  refine ⟨f, ⟨fun b o e n hb _ => f.1 b o (keepB b o e n hb), fun b o e n hb _ => ?_, fun b o e n _ => I.base.free b o e n (noex b), fun b o e _ => ?_, I.base.tups, I.base.frzs, I.base.tbls⟩, fun b o e => ?_, keepB, thereB, ?_, fun b hb => ?_, I.ok.frf, kn⟩
  · obtain ⟨sl, e1⟩ := I.base.slot b o e n hb (noex b)
    obtain ⟨_, o', e', hn⟩ := I.ok.funs.mem hb
    rw [e] at e'; cases e'
    obtain ⟨sl3, e3⟩ := u b _ (M.keeps _ _ e1) hn
    exact ⟨sl3, e3⟩
  · by_cases hb : b ∈ X.fs
    · obtain ⟨_, o2, h3, _⟩ := f.2.2.1.mem hb
      exact ⟨o2, h3⟩
    · obtain ⟨o', e'⟩ := thereB b o e hb
      exact ⟨o', f.1 b o' e'⟩
  · refine (I.hok b o e).stay (fun d v hc q => PySem.W.hideAll_get _ q fun z => ?_) (fun _ q => q) fun _ _ q => q
    have hn := I.stkFree d z
    rcases hc with rfl | hc
    · rw [hn] at e; cases e
    · rw [hn] at hc; cases hc
  · cases q : X.s_0.heap.get? a with
    | none => rfl
    | some o =>
      obtain ⟨o1, e1⟩ := I.base.there a o q (noex a)
      rw [M.new] at e1; cases e1
  · obtain ⟨_, o, e, hn⟩ := I.ok.funs.mem hb
    exact ⟨o, e, hn⟩
end
end Ev

namespace Ev
open PySem PySem.Spec L2 PyProof.Rows
section
variable {P : Program} {w : World} {K : PySem.W.Frag} {mg : Str → Option Value} {base : Heap} {N : List Str} {qual : Str} {scope : Scope} {f : Addr} {cd : Value} {A : Around} {outer : List Env} {s : Shared} {H : Hp} {E : XK}
theorem passes_fn : Passes (CXE P w K) (cxOf (CXE P w K) P w K mg base N qual scope f cd A outer s H E) E := by
  intro pins σ H1 s1 e s' I h
  obtain ⟨a, t, c, H', B, rfl, ho, hg, F, q⟩ := h
  refine wpAny_leaves_onW (base := B) (cls := .ref (cA K c)) (a0 := .ref t) I.ok.frames rfl F.fl fun h' f u => ?_
  exact ⟨a, t, c, H', B, rfl, ho.trans I.os, hg, F.out I rfl rfl rfl f u, q⟩
theorem raised_fn {pins : List (Addr × Obj)} {σ : L2.St} {H1 : Hp} {s1 : Shared} {c : Nat} {vs : List Value} {h' : Heap} {e : Addr} (kn : c ∈ xcs K) (I : Inv (cxOf (CXE P w K) P w K mg base N qual scope f cd A outer s H E) pins σ H1 s1) (M : Heap.MadeExcOf s1.heap h' e (.ref (cA K c)) vs) (q : E .none (some c) H1) :
    (cxOf (CXE P w K) P w K mg base N qual scope f cd A outer s H E).xe (.ref e) { s1 with heap := h' } := by
  refine wpAny_leaves_madeW (s := { s1 with heap := h' }) (base := PySem.W.hideAll s1.heap (frs (cxOf (CXE P w K) P w K mg base N qual scope f cd A outer s H E).stack)) (h := s1.heap) I.ok.frames rfl (fun b o q => PySem.W.of_hideAll _ q) (PySem.W.funFrames_hide I.stack fun env he b hb => List.mem_filterMap.mpr ⟨env, he, hb⟩) M fun h2 t x1 x2 x3 x4 => ?_
  exact ⟨e, t, c, H1, _, rfl, I.os, I.bare, made_out kn I rfl rfl rfl M x1 x4, q⟩
end
/-- a namespace holds no more names than its entries -/
theorem Ns_free {h : Heap} {a : Addr} {m : Str → Option Value} (n : h.Ns a m) : ∃ names : List Str, ∀ x, x ∉ names → m x = none := by
  obtain ⟨_, es, _, _, _, _, look⟩ := n
  refine ⟨es.toList.filterMap fun e => match e.key with | .str y _ => some y | _ => none, fun x hx => ?_⟩
  cases q : m x with
  | none => rfl
  | some v =>
    rw [← look x] at q
    unfold nsFind findBy at q
    obtain ⟨e, he, _⟩ := Option.map_eq_some_iff.mp q
    have yes := Array.find?_some he
    refine absurd (List.mem_filterMap.mpr ⟨e, Array.mem_toList_iff.mpr (Array.mem_of_find?_eq_some he), ?_⟩) hx
    cases hk : e.key with
    | str y t =>
      rw [hk] at yes
      have : y = x := by simpa [Value.isStr] using yes
      rw [this]
    | _ => rw [hk] at yes; cases yes
/-- the object of a class of exceptions, as the library tells of it -/
theorem exc_cls {K : PySem.W.Frag} {mg : Str → Option Value} {base : Heap} {x : Str} {C : Addr} {bmB : List Value} {newId : String} (M : Mod K mg base) (e : PySem.W.nsIn K mainGlobals x = some (some (.ref C))) (q : PySem.W.excIn K C bmB newId = true) : OwnCls x C bmB newId mg base := by
  obtain ⟨mb, hb, hbb⟩ := M.blt
  obtain ⟨names, free⟩ := Ns_free M.glob
  exact PySem.W.own_of_in (p := default) (loose := names) M.kin ⟨M.glob, hb, M.nolimit, hbb, fun y _ hy _ _ _ => free y hy⟩ e q
abbrev bmV : List Value := [.type "ValueError", .type "Exception", .type "BaseException", .type "object"]
/-- what a context does with an exception of the wish E -/
structure XP (X : Cx) (E : XK) : Prop where
  ps : Passes (CXE X.prog X.w X.K) X E
  rs : ∀ (pins : List (Addr × Obj)) (σ : L2.St) (H1 : Hp) (s1 : Shared) (c : Nat) (vs : List Value) (h' : Heap) (e : Addr), c ∈ xcs X.K → Inv X pins σ H1 s1 → Heap.MadeExcOf s1.heap h' e (.ref (cA X.K c)) vs → E .none (some c) H1 → X.xe (.ref e) { s1 with heap := h' }
theorem XP.none {X : Cx} : XP X E0 := ⟨fun _ _ _ _ _ _ _ h => by obtain ⟨_, _, _, _, _, _, _, _, _, q⟩ := h; exact q.elim, fun _ _ _ _ _ _ _ _ _ _ _ q => q.elim⟩
section
variable {X : Cx} {E : XK}
/-- raise C(..) -/
def tRaise (E : XK) (c : Nat) (t : TA) : TS := fun _ σ H => t σ H fun vs H1 => vs.length ≤ sizeLine ∧ E .none (some c) H1
theorem ps_raise {c : Nat} {x : Str} {np cpos pos : Pos} {e : Expr} {es : List Expr} {t : TA} (xp : XP X E) (hc : X.calm = true) (hg : Gl X x) (hm : X.mg x = some (.ref (cA X.K c))) (kn : c ∈ xcs X.K) {y : Str} (hy : PySem.W.nsIn X.K mainGlobals y = some (some (.ref (cA X.K c)))) (hq : PySem.W.excIn X.K (cA X.K c) bmV "ValueError.__new__" = true)
    (ha : PA X (e :: es) t) (hdb : (x == ("__debug__" : Str)) = false) (he : starEach (e :: es) X.env = (false, eval e X.env) :: starEach es X.env) (hpl : (backTo cpos (starEach es X.env)).any (·.1) = false) :
    PS X (.Raise (some (.Call (.Name x np) (e :: es) [] cpos)) none pos) (tRaise E c t) := by
  intro pins s σ H D I h
  obtain ⟨tl, N, nm, q, bs, hdct, sn, sub, ab, col, dd, k0, k1, k2, k3, k5, mN, hC, hN, hni, TL⟩ := (exc_cls I.ok.mod hy hq).obj
  refine wpAny_Raise_call_subT (C := cA X.K c) (nm := nm) (q := q) (N := N) (bs := bs) (bm := tl) (hdct := hdct) (sn := sn) (sub := sub) (ab := ab) (col := col) (dd := dd) (k0 := k0) (k1 := k1) (k2 := k2) (k3 := k3) (k5 := k5)
    F.excBase_ValueError (mN := mN) (TL.hasType F.excBase_ValueError.hasBase) (I.ok.hd hc) (by rw [he]; show (false || (backTo cpos (starEach es X.env)).any (·.1)) = false; rw [hpl]; rfl) hni (ld_glob I hg hm ⟨rfl, ?_⟩ hdb)
  have ha' := ha cpos pins s σ H _ I h
  rw [he] at ha' ⊢
  refine Calls.evalArgs_plain (wpAny_mono ha' (fun us s2 h2 => ?_) fun _ _ y => y)
  obtain ⟨vs, H1, I1, rv, hl, q1⟩ := h2
  exact ⟨rfl, by rw [← rv.length]; exact hl, I1.bk _ _ hC, hN.keeps I1.bk, TL.keeps I1.bk, fun h' e M => xp.rs pins σ H1 s2 c us h' e kn I1 M q1⟩
end
/-! ### the name of an except clause goes -/
section
variable {M : Model} {A : Around} {E : Value → Shared → Prop} {s : Shared} {env : Env}
theorem nameGoesK {n : Str} {pos : Pos} {m : Str → Option Value} {Q : Unit → Shared → Prop} (hl : env.kindOf n = some .local) (hn : s.heap.Ns env.locals m)
    (hp : (env.scope.kind == .class || (env.scope.kind == .module && env.locals != env.globals)) = false)
    (h : ∀ h' m', h'.Ns env.locals m' → (∀ x, x ≠ n → m' x = m x) → Heap.SameBut env.locals s.heap h' → Q () { s with heap := h', toks := s.toks + 1 }) :
    wpAny M A (do bindName env n .none; unbindBehindTheSuite env n pos) Q E s :=
  wpAny_nameGoes_keeps hl hn hp fun h' v hn' hs => h h' _ hn' (fun _ hx => if_neg hx) hs
end
end Ev

namespace Ev
open PySem PySem.Spec L2 PyProof.Rows
section
variable {X : Cx} {pins : List (Addr × Obj)} {σ : L2.St} {H : Hp} {s : Shared}
theorem goes_ok {M : Model} {A : Around} {E : Value → Shared → Prop} {i : Nat} {x : Str} {pos : Pos} {Q : Unit → Shared → Prop} (I : Inv X pins σ H s) (hN : X.N.Nodup) (hi : X.N[i]? = some x) (hk : X.env.kindOf x = some .local)
    (h : ∀ s', Inv X pins (σ.set i none) H s' → Q () s') : wpAny M A (do bindName X.env x .none; unbindBehindTheSuite X.env x pos) Q E s := by
  obtain ⟨m, hn, hl⟩ := id I.loc
  have hcls : (X.env.scope.kind == .class || (X.env.scope.kind == .module && X.env.locals != X.env.globals)) = false := by rw [I.ok.kind]; rfl
  have hiσ : i < σ.length := by rw [I.len]; exact (List.getElem?_eq_some_iff.mp hi).1
  have cne := I.cne
  refine nameGoesK hk hn hcls fun h' m' hn' hm' hs => ?_
  obtain ⟨oL, _, _, hoL, _⟩ := id hn
  refine h _ ⟨I.ok, I.os, I.bare, ⟨fun b o e n hb hx => ?_, fun b o e n hb hx => ?_, I.base.free, fun b o e hx => ?_, I.base.tups, I.base.frzs, I.base.tbls⟩, ⟨_, hn', fun j y v' e1 e2 e3 => ?_⟩, fun y c e => ?_, I.free, I.freeC, fun p hp => ?_, fun b ob e => ?_, by simpa using I.len⟩
  · exact (hs.2 b (Nat.ne_of_lt (Nat.lt_of_lt_of_le (Heap.lt_size e) I.ok.above))).trans (I.base.keep b o e n hb hx)
  · obtain ⟨sl, e1⟩ := I.base.slot b o e n hb hx
    exact ⟨sl, (hs.2 b (Nat.ne_of_lt (Nat.lt_of_lt_of_le (Heap.lt_size e) I.ok.above))).trans e1⟩
  · obtain ⟨o', e1⟩ := I.base.there b o e hx
    exact ⟨o', (hs.2 b (Nat.ne_of_lt (Nat.lt_of_lt_of_le (Heap.lt_size e) I.ok.above))).trans e1⟩
  · by_cases hj : j = i
    · subst hj
      rw [List.getElem?_set_self hiσ] at e2
      cases e2
    · rw [List.getElem?_set_ne (Ne.symm hj)] at e2
      obtain ⟨u', r', q⟩ := hl j y v' e1 e2 e3
      refine ⟨u', r', ?_⟩
      rcases q with ⟨k, e⟩ | ⟨k, c, e, z⟩
      · refine .inl ⟨k, ?_⟩
        have : y ≠ x := fun e => hj (nodup_ix hN e1 (e ▸ hi))
        rw [hm' y this]; exact e
      · exact .inr ⟨k, c, e, z.sameBut hs (cne y c e)⟩
  · obtain ⟨w', z⟩ := I.cell y c e
    exact ⟨w', z.sameBut hs (cne y c e)⟩
  · obtain ⟨e, n, ne, nf, d⟩ := I.pin p hp
    exact ⟨(hs.2 p.1 ne).trans e, n, ne, nf, d⟩
  · refine (I.hok b ob e).stay (fun c w' hc q => (hs.2 c ?_).trans q) (fun _ q => q) fun _ _ q => q
    rintro rfl
    have hfree := I.free
    rcases hc with rfl | hc
    · rw [hfree] at e; cases e
    · rw [hfree] at hc; cases hc
/-- within an except suite -/
abbrev _root_.L2.Cx.mrk (X : Cx) (v : Value) : Cx := { X with A := X.A.mark (some v), calm := false, xe := fun _ _ => False }
theorem Inv.mrk (I : Inv X pins σ H s) (v : Value) : Inv (X.mrk v) pins σ H s :=
  ⟨⟨I.ok.mod, I.ok.kind, I.ok.glob, I.ok.blt, I.ok.above, I.ok.inj, I.ok.has, I.ok.cab, (fun z => by cases z), I.ok.frames, I.ok.stk, I.ok.exf, I.ok.bs, I.ok.bsz, I.ok.noex, I.ok.exfs, I.ok.funs, I.ok.frf⟩, I.os, I.bare, I.base, I.loc, I.cell, I.free, I.freeC, I.pin, I.hok, I.len⟩
theorem Inv.unmrk {v : Value} (hd : X.calm = true → X.A.handled = none) (I : Inv (X.mrk v) pins σ H s) : Inv X pins σ H s :=
  ⟨⟨I.ok.mod, I.ok.kind, I.ok.glob, I.ok.blt, I.ok.above, I.ok.inj, I.ok.has, I.ok.cab, hd, I.ok.frames, I.ok.stk, I.ok.exf, I.ok.bs, I.ok.bsz, I.ok.noex, I.ok.exfs, I.ok.funs, I.ok.frf⟩, I.os, I.bare, I.base, I.loc, I.cell, I.free, I.freeC, I.pin, I.hok, I.len⟩
end
/-- what the module has of a class of exceptions -/
structure ClsOk (K : PySem.W.Frag) (c : Nat) : Prop where
  ok : excOk K (cA K c) = true
  ty : PySem.W.typeIn K (.ref (cA K c)) = some (.type "type")
theorem exc_match {prog : Program} {w : World} {A : Around} {E : Value → Shared → Prop} {K : PySem.W.Frag} {s : Shared} {a C : Addr} {cx : Nat} {Q : Bool → Shared → Prop} (X : K.In s.heap) (I : ExcAt s.heap a C) (k : ClsOk K cx) (hm : PySem.W.mroIn K C (.ref (cA K cx)) = some true)
    (h : Q true s) : wpAny (model prog w) A (excMatches (.ref a) (.ref (cA K cx))) Q E s := by
  have ho := k.ok
  unfold excOk at ho
  simp only [Bool.and_eq_true, beq_iff_eq] at ho
  obtain ⟨⟨⟨⟨⟨h1, h2⟩, h3⟩, h4⟩, h5⟩, h6⟩ := ho
  obtain ⟨cdD, hcD⟩ := Option.isSome_iff_exists.mp h6
  obtain ⟨hh, g, d, t, os⟩ := s
  have L0 := I.type (M := model prog w)
  have L1 := PySem.W.looks_typeIn (M := model prog w) X k.ty
  have L2 := PySem.W.looks_mroIn (M := model prog w) X h5
  have L3 := PySem.W.looks_mroIn (M := model prog w) X hm
  have L4 : PySem.W.Looks (model prog w) hh (isType (.ref (cA K cx))) true := fun A' Q' E' s' up q => by
    obtain ⟨o, cd, e, d⟩ := excOk.obj k.ok
    cases s'
    exact ks_wpAny_isType_cls (up _ _ (X _ _ e)) d q
  have f := tc_notTuple
  unfold excMatches isInstance isExcClass
  repeat (any_goals (first | assumption | with_reducible refine L0.at ?_ | with_reducible refine L1.at ?_ | with_reducible refine L2.at ?_ | with_reducible refine L3.at ?_ | with_reducible refine L4.at ?_ | wp_step))

def IsX (K : PySem.W.Frag) (c : Nat) (a : Addr) : HO := .ext fun h => ExcAt h a (cA K c)
theorem isX_stay {K : PySem.W.Frag} {c : Nat} {a : Addr} {h1 h2 : Heap} (I : ExcAt h1 a (cA K c)) (k : ∀ o, h1.get? a = some o → h2.get? a = some o) : ExcAt h2 a (cA K c) := by
  obtain ⟨ox, e, q⟩ := I.ex
  exact ⟨ox, k ox e, q⟩
section
variable {X : Cx} {pins : List (Addr × Obj)} {σ : L2.St} {H H' : Hp} {s s' : Shared} {c : Nat} {a t : Addr} {B : Heap}
/-- an exception that has landed is a thing like others -/
theorem Fly.land (F : Fly X.prog X.w X.K X.stack H s c a t H' B s'.heap) (I : Inv X pins σ H s) (ho : s'.os = s.os) (hg : AllBare s'.gens) : Inv X pins σ (upd H' a (IsX X.K c a)) s' := by
  have hn := F.free
  obtain ⟨ox, hx, _⟩ := F.exc.ex
  refine I.call' (ch := []) ho ⟨F.un.keep, F.un.slot, fun b o e n hx => ?_, F.un.there, fun b xs e => ?_, fun b o u e => ?_, fun b ps e => ?_⟩ (fun b o e => ?_) hg fun b hb => absurd hb (by simp)
  · have : b ≠ a := fun z => by rw [z, F.new] at e; cases e
    rw [upd_ne this]; exact F.un.free b o e n hx
  · have q := F.un.tups b xs e
    rw [upd_ne (ne_of_none q hn)]; exact q
  · have q := F.un.frzs b o u e
    rw [upd_ne (ne_of_none q hn)]; exact q
  · obtain ⟨more, q⟩ := F.un.tbls b ps e
    exact ⟨more, by rw [upd_ne (ne_of_none q hn)]; exact q⟩
  · by_cases hb : b = a
    · subst hb
      rw [upd_same] at e; cases e
      exact ⟨F.exc, ⟨ox, hx⟩, fun h1 h2 q k => isX_stay q k⟩
    · rw [upd_ne hb] at e
      exact (F.hok2 b o e).stay (fun _ _ _ q => q) (fun d q => by rw [upd_ne (ne_of_none q hn)]; exact q) fun d xs q => by rw [upd_ne (ne_of_none q hn)]; exact q
end
section
variable {X : Cx}
/-- a call, at one state, with a wish of its own about exceptions -/
theorem call_at {pins : List (Addr × Obj)} {s : Shared} {σ : L2.St} {H : Hp} {Q : VK} {CX : CXT} {k : Nat} {f : Addr} {fd : FuncData} {ps : List Str} {sp : Sp} {E : XK} {E' : Value → Shared → Prop} {x : Str} {p pos : Pos} {e : Expr} {es : List Expr} {t : TA}
    (F : FnOk X.prog X.w X.K X.mg X.base CX k f fd ps sp) (hr : Room k X.A) (hg : Gl X x) (hm : X.mg x = some (.ref f)) (hk : PySem.W.keepIn X.K (.ref f) = true) (hb : Binds X.K fd ps [])
    (ha : PA X.nox (e :: es) t) (I : Inv X pins σ H s) (h : t σ H fun vs H1 => sp vs H1 Q E) (hx : ∀ H1 s1 e s', Inv X pins σ H1 s1 → CX X.stack H1 s1 E e s' → E' e s')
    (hdb : (x == ("__debug__" : Str)) = false) (he : starEach (e :: es) X.env = (false, eval e X.env) :: starEach es X.env) (hpl : (backTo pos (starEach es X.env)).any (·.1) = false) :
    wpAny (model X.prog X.w) X.A (eval (.Call (.Name x p) (e :: es) [] pos) X.env) (EP X pins σ Q) E' s := by
  refine wpAny_Call_Name_kw (ld_glob I hg hm ?_ hdb)
  refine PySem.W.callWith_K (h₀ := X.base) I.ok.mod.kin hk (wpAny_mono (ha pos pins s σ H _ (I.wish _) h) (fun us s1 ⟨vs, H1, I1, r, q⟩ => ⟨I1.kIn, ?_⟩) fun _ _ z => False.elim z) he hpl
  have I1 := I1.unwish
  have hl : us.length = ps.length := by rw [← r.length]; exact F.len _ _ _ _ q
  have hb' := hb s1 us I1.kIn (by rw [List.append_nil]; exact hl)
  rw [List.append_nil] at hb'
  refine wpAny_call (codeAny_mono (F.run X.A X.stack s1 H1 ⟨us, []⟩ us vs Q E hr I1.env0 hb' r q) fun r s' hq => ?_)
  cases r with
  | error e => exact hx H1 s1 e s' I1 hq
  | ok fl =>
    cases fl with
    | ret u => exact I1.after hq
    | next => exact False.elim hq
    | brk => exact False.elim hq
    | cont => exact False.elim hq
/-- try: f(..) except C as n: v = n -/
def tTry (K : PySem.W.Frag) (sp : Sp) (t : TA) (can : Nat → Prop) (i j : Nat) : TS := fun D σ H => t σ H fun vs H1 => sp vs H1 (fun _ H2 => D.nx σ H2) (fun _ oc H2 => ∃ c, oc = some c ∧ can c ∧ ∀ a, c ∈ xcs K → H2 a = none → D.nx (((σ.set i (some (.ref a))).set j (some (.ref a))).set i none) (upd H2 a (IsX K c a)))
theorem ps_try {k : Nat} {f : Addr} {fd : FuncData} {ps : List Str} {sp : Sp} {x xc n v : Str} {p pos pe px pv p1 pa ph pt : Pos} {e : Expr} {es : List Expr} {t : TA} {cx i j : Nat} {can : Nat → Prop}
    (F : FnOk X.prog X.w X.K X.mg X.base (CXE X.prog X.w X.K) k f fd ps sp) (hr : Room k X.A) (hg : Gl X x) (hm : X.mg x = some (.ref f)) (hk : PySem.W.keepIn X.K (.ref f) = true) (hb : Binds X.K fd ps [])
    (ha : PA X.nox (e :: es) t) (hdb : (x == ("__debug__" : Str)) = false) (he : starEach (e :: es) X.env = (false, eval e X.env) :: starEach es X.env) (hpl : (backTo pos (starEach es X.env)).any (·.1) = false)
    (hsw : swapsWith (.Call (.Name x p) (e :: es) [] pos) none pe.line X.env = pure false)
    (hst : X.stack = X.env :: X.outer) (hfr : X.env.frame = some X.env.locals) (hcalm : X.calm = true)
    (hgc : Gl X xc) (hmc : X.mg xc = some (.ref (cA X.K cx))) (hdc : (xc == ("__debug__" : Str)) = false) (kc : ClsOk X.K cx) (hcan : ∀ c, c ∈ xcs X.K → can c → PySem.W.mroIn X.K (cA X.K c) (.ref (cA X.K cx)) = some true)
    (hN : X.N.Nodup) (hi : X.N[i]? = some n) (hj : X.N[j]? = some v) (hni : X.env.scope.names.lookup n = some .local) (hvj : X.env.scope.names.lookup v = some .local) (hdn : (n == ("__debug__" : Str)) = false) (hcn : (n == ("__classdict__" : Str)) = false) :
    PS X (.Try [.Expr (.Call (.Name x p) (e :: es) [] pos) pe] [.ExceptHandler (some (.Name xc px)) (some n) [.Assign [.Name v pv] (.Name n p1) pa] ph] [] [] pt) (tTry X.K sp t can i j) := by
  intro pins s σ H D I h
  refine wpAny_Try_except ?_
  have hil : i < σ.length := by rw [I.len]; exact (List.getElem?_eq_some_iff.mp hi).1
  refine wpAny_execs_cons ?_
  refine wpAny_Expr_any (wpAny_mono (call_at F hr hg hm hk hb ha I h (E' := fun e s₁ => wpAny (model X.prog X.w) X.A (noteFrame e X.env) (fun _ s₂ => wpAny (model X.prog X.w) X.A (setFlight e none) (fun _ s₃ => wpAny (model X.prog X.w) X.A (handleBy e X.env [.ExceptHandler (some (.Name xc px)) (some n) [.Assign [.Name v pv] (.Name n p1) pa] ph]) (SP X pins D) X.xe s₃) X.xe s₂) X.xe s₁) (fun H1 s1 ev s' I1 hx => ?_) hdb he hpl) (fun u s1 hq => ?_) fun _ _ z => z) I.quiet hsw
  · obtain ⟨a, t', c, H', B, rfl, ho, hgb, Fl, c', ec, hc', q⟩ := hx
    cases ec
    have Fl0 := Fl.fl
    rw [hst] at Fl0
    refine wpAny_looks_onW (I1.ok.frames.trans (by rw [hst])) hfr Fl0 fun h4 hheld4 hsm4 => ?_
    refine wpAny_landsW hheld4 fun h5 hfl5 hsm5 => ?_
    rw [← hst] at hfl5
    have F5 := Fl.move hfl5 (hsm4.trans hsm5)
    have I5 : Inv X pins σ H' { s' with heap := h5 } := F5.inv (s' := { s' with heap := h5 }) I1 ho hgb
    refine wpAny_handleBy_cons (codeAny_handlers_test (ld_glob (Inv.mrk I5 (.ref a)) hgc hmc ?_ hdc)) (by intro q; cases q)
    refine exc_match I5.kIn F5.exc kc (hcan c Fl.kn hc') (codeAny_handlers_suite_as ?_)
    refine lands_againW F5.fl fun h6 hfl6 hsm6 => ?_
    have F6 := F5.move hfl6 hsm6
    have I6 : Inv X pins σ (upd H' a (IsX X.K c a)) { s' with heap := h6 } := F6.land (s' := { s' with heap := h6 }) I1 ho hgb
    refine store_ok I6 hN hi (.inl hni) (v := .ref a) rfl (fun s7 I7 => ?_) (.inr hni)
    have body : PSs (X.mrk (.ref a)) [.Assign [.Name v pv] (.Name n p1) pa] _ := pss_cons (ps_set (i := j) hN hj (.inl hvj) (pe_var (i := i) hi (.inl hni) hdn hcn) (by rfl) (.inr hvj)) pss_nil
    refine wpAny_mono (body pins s7 _ _ { nx := fun σ' H' => σ' = (σ.set i (some (.ref a))).set j (some (.ref a)) ∧ H' = _, rt := fun _ _ => False } (Inv.mrk I7 (.ref a)) ⟨.ref a, by rw [List.getElem?_set_self hil], rfl, rfl⟩) (fun fl s8 hq => ?_) fun _ _ z => False.elim z
    cases fl with
    | next =>
      obtain ⟨σ', H2, I8, rfl, rfl⟩ := hq
      exact goes_ok (Inv.unmrk I6.ok.hd I8) hN hi hni fun s9 I9 => ⟨_, _, I9, q a Fl.kn F6.free⟩
    | brk => obtain ⟨_, _, _, z⟩ := hq; exact False.elim z
    | cont => obtain ⟨_, _, _, z⟩ := hq; exact False.elim z
    | ret u => obtain ⟨_, _, _, _, _, z⟩ := hq; exact False.elim z
  · obtain ⟨v1, H2, I2, _, q2⟩ := hq
    exact wpAny_execs_nil (wpAny_execs_nil ⟨σ, H2, I2, q2⟩)
end

end Ev

/-! A small language for the defs of a text, its evaluator over plain values, and (Ev2) the proof that the model does what the evaluator says. -/
namespace Ev
open PySem L2

/-- a value: tuples as trees; a list, a dict by its number in the store; an exception by its class's number -/
inductive T where
  | non | bl (b : Bool) | int (i : Int) | str (x : Str) | tup (xs : List T) | ref (n : Nat) | exc (c : Nat)
  deriving Inhabited
/-- what stands in the store: a list; a list that is only read; a dict with ints and texts as keys -/
inductive O where
  | lst (xs : List T) | fz (xs : List T) | dk (kvs : List (Key × T))
  deriving Inhabited
abbrev Sto := List O
abbrev Lo := List (Option T)
inductive Out (α : Type) where
  | ok (a : α) (st : Sto) | ex (c : Nat) (st : Sto)
abbrev Re (α : Type) := Option (Out α)
def bnd {α β : Type} (r : Re α) (f : α → Sto → Re β) : Re β := match r with
  | none => none
  | some (.ok a st) => f a st
  | some (.ex c st) => some (.ex c st)
theorem bnd_ok {α β : Type} (a : α) (st : Sto) (f : α → Sto → Re β) : bnd (some (.ok a st)) f = f a st := rfl
theorem bnd_ex {α β : Type} (c : Nat) (st : Sto) (f : α → Sto → Re β) : bnd (some (.ex c st) : Re α) f = some (.ex c st) := rfl
theorem bnd_none {α β : Type} (f : α → Sto → Re β) : bnd (none : Re α) f = none := rfl
def ok {α : Type} (a : α) (st : Sto) : Re α := some (.ok a st)

/-! ### operations on values -/
def smallI (i : Int) : Bool := decide (i.natAbs < 2 ^ 64)
def midI (i : Int) : Bool := decide (i.natAbs < 2 ^ 4000)
def mulOk (i j : Int) : Bool := smallI i || smallI j || (midI i && midI j)

/-- the plain data of a value -/
def dats (f : T → Option PyData) : List T → Option (List PyData)
  | [] => some []
  | x :: r => match f x, dats f r with
    | some d, some ds => some (d :: ds)
    | _, _ => none
def dat (st : Sto) : Nat → T → Option PyData
  | 0, _ => none
  | k + 1, t => match t with
    | .non => some .none
    | .bl b => some (.bool b)
    | .int i => some (.int i)
    | .str x => some (.str x)
    | .tup xs => (dats (dat st k) xs).map .tuple
    | .ref n => match st[n]? with
      | some (.lst xs) => (dats (dat st k) xs).map .list
      | some (.fz xs) => (dats (dat st k) xs).map .list
      | _ => none
    | .exc _ => none
/-- ==: none where it isn't told -/
def eqF (x y : T) (st : Sto) : Option Bool := match x, y with
  | .int a, .int b => some (decide (a = b))
  | .bl a, .bl b => some (decide (a = b))
  | .str a, .str b => some (decide (a = b))
  | .non, .non => some true
  | x, y => match dat st 12 x, dat st 12 y with
    | some d, some e => if SeqAt.shaped d = true ∧ SeqAt.shaped e = true then some (PyData.eqv d e) else none
    | _, _ => none

def ints? : List T → Option (List Int)
  | [] => some []
  | .int i :: r => (ints? r).map (i :: ·)
  | _ :: _ => none

/-- the reading of a list or a tuple -/
def seq? (t : T) (st : Sto) : Option (List T) := match t with
  | .tup xs => some xs
  | .ref n => match st[n]? with
    | some (.lst xs) => some xs
    | some (.fz xs) => some xs
    | _ => none
  | _ => none

def opF (op : Operator) (x y : T) (st : Sto) : Re T := match op, x, y with
  | .Add, .int i, .int j => ok (.int (i + j)) st
  | .Sub, .int i, .int j => ok (.int (i - j)) st
  | .Mult, .int i, .int j => if mulOk i j then ok (.int (i * j)) st else none
  | .FloorDiv, .int i, .int j => if j ≠ 0 ∧ midI j = true then ok (.int (i.fdiv j)) st else none
  | .Mod, .int i, .int j => if j ≠ 0 then ok (.int (i.fmod j)) st else none
  | .Pow, .int i, .int j => if 0 ≤ j ∧ j ≤ 1000000 ∧ smallI i = true then ok (.int (i ^ j.toNat)) st else none
  | .Add, .ref a, .ref b => match st[a]?, st[b]? with
    | some (.lst xs), some (.lst ys) => if xs.length + ys.length ≤ sizeLine then ok (.ref st.length) (st ++ [.lst (xs ++ ys)]) else none
    | _, _ => none
  | .Add, .tup xs, .tup ys => if xs ≠ [] ∧ xs.length + ys.length ≤ sizeLine then ok (.tup (xs ++ ys)) st else none
  | .Mult, .ref a, .int k => match st[a]? with
    | some (.lst xs) => if -(2 ^ 63) ≤ k ∧ k < 2 ^ 63 ∧ xs.length * k.toNat ≤ sizeLine then ok (.ref st.length) (st ++ [.lst ((List.replicate k.toNat xs).flatten)]) else none
    | _ => none
  | _, _, _ => none
def unF (op : UnaryOp) (x : T) (st : Sto) : Re T := match op, x with
  | .USub, .int i => ok (.int (-i)) st
  | _, _ => none
def cmpF (op : CmpOp) (x y : T) (st : Sto) : Re T := match op, x, y with
  | .Lt, .int i, .int j => ok (.bl (decide (i < j))) st
  | .LtE, .int i, .int j => ok (.bl (decide (i ≤ j))) st
  | .Gt, .int i, .int j => ok (.bl (decide (j < i))) st
  | .GtE, .int i, .int j => ok (.bl (decide (j ≤ i))) st
  | .Lt, .tup xs, .tup ys => match ints? xs, ints? ys with
    | some ns, some ms => ok (.bl (HT.lexLt ns ms)) st
    | _, _ => none
  | .Eq, x, y => match eqF x y st with
    | some b => ok (.bl b) st
    | none => none
  | .NotEq, x, y => match eqF x y st with
    | some b => ok (.bl (!b)) st
    | none => none
  | .Is, .bl a, .bl b => ok (.bl (a == b)) st
  | .IsNot, .bl a, .bl b => ok (.bl (a != b)) st
  | .Is, .non, .non => ok (.bl true) st
  | .Is, _, .non => ok (.bl false) st
  | .IsNot, .non, .non => ok (.bl false) st
  | .IsNot, _, .non => ok (.bl true) st
  | _, _, _ => none
def ixF (x y : T) (st : Sto) : Re T := match x, y with
  | .str _, _ => none
  | x, .int i => match seq? x st with
    | some xs => match atI xs i with
      | some t => ok t st
      | none => none
    | none => none
  | _, _ => none
def cutT (xs : List T) (lo hi : Option Int) : List T := (xs.drop (HT.sIx xs.length 0 lo)).take (HT.sIx xs.length xs.length hi - HT.sIx xs.length 0 lo)
def slF (x : T) (lo hi : Option Int) (st : Sto) : Re T := match x with
  | .tup xs => if HT.sIx xs.length 0 lo = 0 ∧ HT.sIx xs.length xs.length hi = xs.length then none else ok (.tup (cutT xs lo hi)) st
  | .ref n => match st[n]? with
    | some (.lst xs) => ok (.ref st.length) (st ++ [.lst (cutT xs lo hi)])
    | some (.fz xs) => ok (.ref st.length) (st ++ [.lst (cutT xs lo hi)])
    | _ => none
  | _ => none
def truF (x : T) (st : Sto) : Re Bool := match x with
  | .bl b => ok b st
  | .non => ok false st
  | .int i => ok (i != 0) st
  | _ => none

/-- the built-in types that isinstance asks for -/
inductive Ty where
  | int | bool | tuple | list | str | dict
  deriving DecidableEq
def Ty.name : Ty → String
  | .int => "int" | .bool => "bool" | .tuple => "tuple" | .list => "list" | .str => "str" | .dict => "dict"
/-- the type of a value -/
def tyOf (t : T) (st : Sto) : Option String := match t with
  | .non => some "NoneType"
  | .bl _ => some "bool"
  | .int _ => some "int"
  | .str _ => some "str"
  | .tup _ => some "tuple"
  | .ref n => match st[n]? with
    | some (.lst _) => some "list"
    | some (.fz _) => some "list"
    | some (.dk _) => some "dict"
    | none => none
  | .exc _ => none
def isTy (have_ : String) (want : Ty) : Bool := have_ == want.name || (have_ == "bool" && want == .int)

/-- a class of exceptions below another -/
def subX (c d : Nat) : Bool := c == d || d == 0
/-- isinstance of a thing and some of the program's classes of exceptions -/
def isxF (cs : List Nat) (t : T) (st : Sto) : Re T := match t with
  | .exc c => ok (.bl (cs.any (subX c))) st
  | t => match tyOf t st with
    | some _ => ok (.bl false) st
    | none => none
/-- isinstance of a thing and ValueError -/
def isvF (t : T) (st : Sto) : Re T := match t with
  | .exc _ => ok (.bl true) st
  | t => match tyOf t st with
    | some _ => ok (.bl false) st
    | none => none

inductive Bi where
  | len | abs | str | int | isi (ty : Ty) | list | tuple | all | any
def bools? : List T → Option (List Bool)
  | [] => some []
  | .bl b :: r => (bools? r).map (b :: ·)
  | _ :: _ => none
def lbools (n : Nat) (st : Sto) : Option (List Bool) := match seq? (.ref n) st with
  | some xs => bools? xs
  | none => none
def biF (b : Bi) (xs : List T) (st : Sto) : Re T := match b, xs with
  | .len, [x] => match x with
    | .str z => if z.length ≤ sizeLine then ok (.int z.length) st else none
    | x => match seq? x st with
      | some ys => ok (.int ys.length) st
      | none => none
  | .abs, [.int i] => ok (.int (if i < 0 then -i else i)) st
  | .str, [.int i] => if i.natAbs.log2 < 1920 then ok (.str (toString i)) st else none
  | .int, [.int i] => ok (.int i) st
  | .int, [.bl k] => ok (.int (if k then 1 else 0)) st
  | .isi ty, [x] => match tyOf x st with
    | some h => ok (.bl (isTy h ty)) st
    | none => none
  | .list, [x] => match seq? x st with
    | some ys => ok (.ref st.length) (st ++ [.lst ys])
    | none => none
  | .all, [.ref n] => match lbools n st with
    | some bs => ok (.bl (bs.all id)) st
    | none => none
  | .any, [.ref n] => match lbools n st with
    | some bs => ok (.bl (bs.any id)) st
    | none => none
  | .tuple, [.tup ys] => ok (.tup ys) st
  | .tuple, [.ref n] => match st[n]? with
    | some (.lst ys) => ok (.tup ys) st
    | some (.fz ys) => ok (.tup ys) st
    | _ => none
  | _, _ => none

/-- a target: a name, or a tuple of names -/
inductive Tg where
  | nm (i : Nat) (x : Str) (p : Pos)
  | tp (xs : List (Nat × Str × Pos)) (k : Nat) (p : Pos)
def Tg.e : Tg → Expr
  | .nm _ x p => .Name x p
  | .tp xs k p => .Tuple (xs.map fun q => .Name q.2.1 q.2.2) k p
def setMany : List (Nat × Str × Pos) → List T → Lo → Option Lo
  | [], [], ρ => some ρ
  | q :: r, t :: ts, ρ => setMany r ts (ρ.set q.1 (some t))
  | _, _, _ => none
def Tg.set (g : Tg) (t : T) (ρ : Lo) : Option Lo := match g with
  | .nm i _ _ => some (ρ.set i (some t))
  | .tp xs _ _ => match t with
    | .tup ts => setMany xs ts ρ
    | _ => none

def rngT (i : Int) : Nat → List T
  | 0 => []
  | n + 1 => .int i :: rngT (i + 1) n
def rngOk (i : Int) : Bool := decide (-(2 ^ 62) ≤ i ∧ i < 2 ^ 62)
mutual
def eqL : T → T → Bool
  | .non, .non => true
  | .bl a, .bl b => a == b
  | .int a, .int b => decide (a = b)
  | .str a, .str b => decide (a = b)
  | .tup xs, .tup ys => eqLs xs ys
  | .ref a, .ref b => a == b
  | .exc a, .exc b => a == b
  | _, _ => false
def eqLs : List T → List T → Bool
  | [], [] => true
  | x :: xs, y :: ys => eqL x y && eqLs xs ys
  | _, _ => false
end
def sameAt (n : Nat) (xs : List T) (st : Sto) : Bool := match st[n]? with
  | some (.lst ys) => eqLs xs ys
  | some (.fz ys) => eqLs xs ys
  | _ => false
/-- what a comprehension walks -/
inductive IK where
  | lst | tup | rng1 | rng2
def itv (k : IK) (fa fb : Sto → Re T) (st : Sto) : Re (List T × (Sto → Bool)) := match k with
  | .lst => bnd (fa st) fun x st => match x with
    | .ref n => (match seq? (.ref n) st with
      | some xs => ok (xs, sameAt n xs) st
      | none => none)
    | _ => none
  | .tup => bnd (fa st) fun x st => match x with
    | .tup xs => ok (xs, fun _ => true) st
    | _ => none
  | .rng1 => bnd (fa st) fun x st => match x with
    | .int j => if rngOk j = true then ok (rngT 0 j.toNat, fun _ => true) st else none
    | _ => none
  | .rng2 => bnd (fa st) fun x st => bnd (fb st) fun y st => match x, y with
    | .int i, .int j => if (rngOk i && rngOk j) = true then ok (rngT i (j - i).toNat, fun _ => true) st else none
    | _, _ => none
def wipeL (ρ : Lo) : List Nat → Lo
  | [] => ρ
  | v :: vs => (wipeL ρ vs).set v none
/-- no exception goes out of a comprehension's block -/
def noXr (r : Re T) : Re T := match r with
  | some (.ex _ _) => none
  | r => r
/-- the turns of a list comprehension; D: the new list's number -/
def lcF (src : Sto → Bool) (g : Tg) (f : Lo → Sto → Re T) (D : Nat) (ρ0 : Lo) : List T → Sto → Re T
  | [], st => if src st = true then ok (.ref D) st else none
  | t :: ts, st => if src st = true then (match g.set t ρ0 with
      | none => none
      | some ρ1 => bnd (f ρ1 st) fun y st => match st[D]? with
        | some (.lst acc) => if acc.length < sizeLine then lcF src g f D ρ0 ts (st.set D (.lst (acc ++ [y]))) else none
        | _ => none) else none

/-! ### expressions -/
inductive Ex where
  | var (i : Nat) (x : Str) (p : Pos)
  | int (i : Int) (k : Nat) (p : Pos)
  | bl (b : Bool) (k : Nat) (p : Pos)
  | non (k : Nat) (p : Pos)
  | str (x : Str) (k : Nat) (p : Pos)
  | glo (i : Int) (x : Str) (p : Pos)
  | bin (op : Operator) (a b : Ex) (p : Pos)
  | neg (a : Ex) (p : Pos)
  | cmp (op : CmpOp) (a b : Ex) (p : Pos)
  | no (a : Ex) (p : Pos)
  | and (a b : Ex) (p : Pos)
  | or (a b : Ex) (p : Pos)
  | and3 (a b c : Ex) (p : Pos)
  | or3 (a b c : Ex) (p : Pos)
  | or4 (a b c d : Ex) (p : Pos)
  | and4 (a b c d : Ex) (p : Pos)
  | ifx (op : CmpOp) (c d : Ex) (pc : Pos) (a b : Ex) (p : Pos)
  | tup (xs : List Ex) (k : Nat) (p : Pos)
  | lst (xs : List Ex) (p : Pos)
  | ix (a b : Ex) (p : Pos)
  | slLo (a lo : Ex) (p2 p : Pos)
  | slHi (a hi : Ex) (p2 p : Pos)
  | slLH (a lo hi : Ex) (p2 p : Pos)
  | call (f : Nat) (x : Str) (pn : Pos) (a : Ex) (xs : List Ex) (p : Pos)
  | bi (b : Bi) (pn : Pos) (a : Ex) (p : Pos)
  | isi (ty : Ty) (pn pt : Pos) (a : Ex) (p : Pos)
  | isx (cx : Nat) (pn pt : Pos) (a : Ex) (p : Pos)
  | isxs (cs : List (Nat × Pos)) (k : Nat) (pt pn : Pos) (a : Ex) (p : Pos)
  | isv (pn pt : Pos) (a : Ex) (p : Pos)
  | app (o : Ex) (ap : Pos) (a : Ex) (p : Pos)
  | mm (mx : Bool) (pn : Pos) (a b : Ex) (p : Pos)
  | lc (elt : Ex) (g : Tg) (k : IK) (a b : Ex) (pn pr : Pos) (sc : Scope) (own : List (Str × Nat)) (p : Pos)
  | dct0 (p : Pos)
  | dct1 (k v : Ex) (p : Pos)

def Bi.nm : Bi → Str
  | .len => "len" | .abs => "abs" | .str => "str" | .int => "int" | .isi _ => "isinstance" | .list => "list" | .tuple => "tuple" | .all => "all" | .any => "any"
def Ty.nm : Ty → Str
  | .int => "int" | .bool => "bool" | .tuple => "tuple" | .list => "list" | .str => "str" | .dict => "dict"

mutual
def Ex.e : Ex → Expr
  | .var _ x p => .Name x p
  | .int i k p => .Constant (.int i) k p
  | .bl b k p => .Constant (.bool b) k p
  | .non k p => .Constant .none k p
  | .str x k p => .Constant (.str x) k p
  | .glo _ x p => .Name x p
  | .bin op a b p => .BinOp a.e op b.e p
  | .neg a p => .UnaryOp .USub a.e p
  | .cmp op a b p => .Compare a.e [op] [b.e] p
  | .no a p => .UnaryOp .Not a.e p
  | .and a b p => .BoolOp .And [a.e, b.e] p
  | .or a b p => .BoolOp .Or [a.e, b.e] p
  | .and3 a b c p => .BoolOp .And [a.e, b.e, c.e] p
  | .or3 a b c p => .BoolOp .Or [a.e, b.e, c.e] p
  | .or4 a b c d p => .BoolOp .Or [a.e, b.e, c.e, d.e] p
  | .and4 a b c d p => .BoolOp .And [a.e, b.e, c.e, d.e] p
  | .ifx op c d pc a b p => .IfExp (.Compare c.e [op] [d.e] pc) a.e b.e p
  | .tup xs k p => .Tuple (Ex.es xs) k p
  | .lst xs p => .List (Ex.es xs) p
  | .ix a b p => .Subscript a.e b.e p
  | .slLo a lo p2 p => .Subscript a.e (.Slice (some lo.e) none none p2) p
  | .slHi a hi p2 p => .Subscript a.e (.Slice none (some hi.e) none p2) p
  | .slLH a lo hi p2 p => .Subscript a.e (.Slice (some lo.e) (some hi.e) none p2) p
  | .call _ x pn a xs p => .Call (.Name x pn) (a.e :: Ex.es xs) [] p
  | .bi b pn a p => .Call (.Name b.nm pn) [a.e] [] p
  | .isi ty pn pt a p => .Call (.Name "isinstance" pn) [a.e, .Name ty.nm pt] [] p
  | .isx cx pn pt a p => .Call (.Name "isinstance" pn) [a.e, .Name (xname cx) pt] [] p
  | .isxs cs k pt pn a p => .Call (.Name "isinstance" pn) [a.e, .Tuple (cs.map fun q => .Name (xname q.1) q.2) k pt] [] p
  | .isv pn pt a p => .Call (.Name "isinstance" pn) [a.e, .Name "ValueError" pt] [] p
  | .app o ap a p => .Call (.Attribute o.e "append" ap) [a.e] [] p
  | .mm mx pn a b p => .Call (.Name (if mx then "max" else "min") pn) [a.e, b.e] [] p
  | .lc elt g k a b pn pr sc _ p => .ListComp elt.e [⟨g.e, (match k with | .lst => a.e | .tup => a.e | .rng1 => .Call (.Name "range" pn) [a.e] [] pr | .rng2 => .Call (.Name "range" pn) [a.e, b.e] [] pr), [], 0⟩] sc p
  | .dct0 p => .Dict [] [] p
  | .dct1 k v p => .Dict [some k.e] [v.e] p
def Ex.es : List Ex → List Expr
  | [] => []
  | x :: r => x.e :: Ex.es r
end

abbrev Fns := Nat → List T → Sto → Re T
def keyOf : T → Option Key
  | .int i => some (.inl i)
  | .str x => some (.inr x)
  | _ => none
def putT (kvs : List (Key × T)) (k : Key) (t : T) : List (Key × T) := match kvs with
  | [] => [(k, t)]
  | (k', t') :: r => if k' = k then (k', t) :: r else (k', t') :: putT r k t

mutual
def ev (Γ : Fns) : Ex → Lo → Sto → Re T
  | .var i _ _, ρ, st => match ρ[i]? with
    | some (some t) => ok t st
    | _ => none
  | .int i _ _, _, st => ok (.int i) st
  | .bl b _ _, _, st => ok (.bl b) st
  | .non _ _, _, st => ok .non st
  | .str x _ _, _, st => ok (.str x) st
  | .glo i _ _, _, st => ok (.int i) st
  | .bin op a b _, ρ, st => bnd (ev Γ a ρ st) fun x st => bnd (ev Γ b ρ st) fun y st => opF op x y st
  | .neg a _, ρ, st => bnd (ev Γ a ρ st) fun x st => unF .USub x st
  | .cmp op a b _, ρ, st => bnd (ev Γ a ρ st) fun x st => bnd (ev Γ b ρ st) fun y st => cmpF op x y st
  | .no a _, ρ, st => bnd (ev Γ a ρ st) fun x st => match x with
    | .bl b => ok (.bl (!b)) st
    | _ => none
  | .and a b _, ρ, st => bnd (ev Γ a ρ st) fun x st => match x with
    | .bl true => ev Γ b ρ st
    | .bl false => ok (.bl false) st
    | _ => none
  | .or a b _, ρ, st => bnd (ev Γ a ρ st) fun x st => match x with
    | .bl true => ok (.bl true) st
    | .bl false => ev Γ b ρ st
    | _ => none
  | .and3 a b c _, ρ, st => bnd (ev Γ a ρ st) fun x st => match x with
    | .bl true => bnd (ev Γ b ρ st) fun y st => match y with
      | .bl true => ev Γ c ρ st
      | .bl false => ok (.bl false) st
      | _ => none
    | .bl false => ok (.bl false) st
    | _ => none
  | .or3 a b c _, ρ, st => bnd (ev Γ a ρ st) fun x st => match x with
    | .bl false => bnd (ev Γ b ρ st) fun y st => match y with
      | .bl false => ev Γ c ρ st
      | .bl true => ok (.bl true) st
      | _ => none
    | .bl true => ok (.bl true) st
    | _ => none
  | .or4 _ _ _ _ _, _, _ => none
  | .and4 _ _ _ _ _, _, _ => none
  | .ifx op c d _ a b _, ρ, st => bnd (ev Γ c ρ st) fun x st => bnd (ev Γ d ρ st) fun y st => bnd (cmpF op x y st) fun k st => match k with
    | .bl true => ev Γ a ρ st
    | .bl false => ev Γ b ρ st
    | _ => none
  | .tup xs _ _, ρ, st => bnd (evs Γ xs ρ st) fun ts st => if ts.length ≤ sizeLine then ok (.tup ts) st else none
  | .lst xs _, ρ, st => bnd (evs Γ xs ρ st) fun ts st => if ts.length ≤ sizeLine then ok (.ref st.length) (st ++ [.lst ts]) else none
  | .ix a b _, ρ, st => bnd (ev Γ a ρ st) fun x st => bnd (ev Γ b ρ st) fun y st => ixF x y st
  | .slLo a lo _ _, ρ, st => bnd (ev Γ a ρ st) fun x st => bnd (ev Γ lo ρ st) fun l st => match l with
    | .int i => slF x (some i) none st
    | _ => none
  | .slHi a hi _ _, ρ, st => bnd (ev Γ a ρ st) fun x st => bnd (ev Γ hi ρ st) fun l st => match l with
    | .int i => slF x none (some i) st
    | _ => none
  | .slLH a lo hi _ _, ρ, st => bnd (ev Γ a ρ st) fun x st => bnd (ev Γ lo ρ st) fun l st => match l with
    | .int i => bnd (ev Γ hi ρ st) fun u st => match u with
      | .int j => slF x (some i) (some j) st
      | _ => none
    | _ => none
  | .call f _ _ a xs _, ρ, st => bnd (ev Γ a ρ st) fun t st => bnd (evs Γ xs ρ st) fun ts st => Γ f (t :: ts) st
  | .bi b _ a _, ρ, st => bnd (ev Γ a ρ st) fun t st => biF b [t] st
  | .isi ty _ _ a _, ρ, st => bnd (ev Γ a ρ st) fun t st => biF (.isi ty) [t] st
  | .isx cx _ _ a _, ρ, st => bnd (ev Γ a ρ st) fun t st => isxF [cx] t st
  | .isxs cs _ _ _ a _, ρ, st => bnd (ev Γ a ρ st) fun t st => if cs.length ≤ 1000 then isxF (cs.map (·.1)) t st else none
  | .isv _ _ a _, ρ, st => bnd (ev Γ a ρ st) fun t st => isvF t st
  | .app o _ a _, ρ, st => bnd (ev Γ o ρ st) fun x st => match x with
    | .ref n => match st[n]? with
      | some (.lst _) => bnd (ev Γ a ρ st) fun t st => match st[n]? with
        | some (.lst xs) => if xs.length < sizeLine then ok .non (st.set n (.lst (xs ++ [t]))) else none
        | _ => none
      | _ => none
    | _ => none
  | .mm mx _ a b _, ρ, st => bnd (ev Γ a ρ st) fun x st => bnd (ev Γ b ρ st) fun y st => match x, y with
    | .int i, .int j => ok (.int (if mx then (if j > i then j else i) else (if j < i then j else i))) st
    | _, _ => none
  | .lc elt g k a b _ _ _ own _, ρ, st => bnd (itv k (fun st => ev Γ a ρ st) (fun st => ev Γ b ρ st) st) fun q st => noXr (lcF q.2 g (fun ρ st => ev Γ elt ρ st) st.length (wipeL ρ (own.map (·.2))) q.1 (st ++ [.lst []]))
  | .dct0 _, _, st => ok (.ref st.length) (st ++ [.dk []])
  | .dct1 k v _, ρ, st0 => bnd (ev Γ k ρ (st0 ++ [.dk []])) fun tk st => bnd (ev Γ v ρ st) fun t st => match keyOf tk, st[st0.length]? with
    | some key, some (.dk []) => ok (.ref st0.length) (st.set st0.length (.dk [(key, t)]))
    | _, _ => none
def evs (Γ : Fns) : List Ex → Lo → Sto → Re (List T)
  | [], _, st => ok [] st
  | x :: r, ρ, st => bnd (ev Γ x ρ st) fun t st => bnd (evs Γ r ρ st) fun ts st => ok (t :: ts) st
end

/-! ### statements -/
inductive Fl where
  | nx (ρ : Lo) (st : Sto) | rt (t : T) (st : Sto) | bk (ρ : Lo) (st : Sto) | ct (ρ : Lo) (st : Sto) | ex (c : Nat) (st : Sto)
/-- what a for walks -/
inductive It where
  | lst (a : Ex) | tup (a : Ex) | rng1 (a : Ex) (pn p : Pos) | rng2 (a b : Ex) (pn p : Pos)
def It.e : It → Expr
  | .lst a => a.e
  | .tup a => a.e
  | .rng1 a pn p => .Call (.Name "range" pn) [a.e] [] p
  | .rng2 a b pn p => .Call (.Name "range" pn) [a.e, b.e] [] p
inductive Sx where
  | asg (g : Tg) (a : Ex) (p : Pos)
  | par (i : Nat) (x : Str) (px : Pos) (j : Nat) (y : Str) (py : Pos) (k : Nat) (pt : Pos) (a b : Ex) (k2 : Nat) (pt2 p : Pos)
  | put (o i : Ex) (pt : Pos) (a : Ex) (p : Pos)
  | exp (a : Ex) (p : Pos)
  | ret (a : Ex) (p : Pos)
  | ife (c : Ex) (a b : List Sx) (p : Pos)
  | whl (c : Ex) (b : List Sx) (p : Pos)
  | fr (g : Tg) (it : It) (b : List Sx) (trim : Bool) (p : Pos)
  | brk (p : Pos) | con (p : Pos) | pas (p : Pos)
  | rse (cx : Nat) (np : Pos) (a : Ex) (cp p : Pos)
  | tre (f : Nat) (x : Str) (pn : Pos) (a : Ex) (xs : List Ex) (pc pe : Pos) (cx : Nat) (px : Pos) (i : Nat) (n : Str) (j : Nat) (v : Str) (pv p1 pa ph p : Pos)
mutual
def Sx.s : Sx → Stmt
  | .asg g a p => .Assign [g.e] a.e p
  | .par _ x px _ y py k pt a b k2 pt2 p => .Assign [.Tuple [.Name x px, .Name y py] k pt] (.Tuple [a.e, b.e] k2 pt2) p
  | .put o i pt a p => .Assign [.Subscript o.e i.e pt] a.e p
  | .exp a p => .Expr a.e p
  | .ret a p => .Return (some a.e) p
  | .ife c a b p => .If c.e (Sx.ss a) (Sx.ss b) p
  | .whl c b p => .While c.e (Sx.ss b) [] p
  | .fr g it b _ p => .For g.e it.e (Sx.ss b) [] p
  | .brk p => .Break p
  | .con p => .Continue p
  | .pas p => .Pass p
  | .rse cx np a cp p => .Raise (some (.Call (.Name (xname cx) np) [a.e] [] cp)) none p
  | .tre _ x pn a xs pc pe cx px _ n _ v pv p1 pa ph p => .Try [.Expr (.Call (.Name x pn) (a.e :: Ex.es xs) [] pc) pe] [.ExceptHandler (some (.Name (xname cx) px)) (some n) [.Assign [.Name v pv] (.Name n p1) pa] ph] [] [] p
def Sx.ss : List Sx → List Stmt
  | [] => []
  | x :: r => x.s :: Sx.ss r
end

mutual
/-- all numbers of lists in it are below n -/
def T.blw (n : Nat) : T → Bool
  | .tup xs => T.blws n xs
  | .ref i => decide (i < n)
  | _ => true
def T.blws (n : Nat) : List T → Bool
  | [] => true
  | t :: r => t.blw n && T.blws n r
end
def O.blw (n : Nat) : O → Bool
  | .lst xs => T.blws n xs
  | .fz xs => T.blws n xs
  | .dk kvs => kvs.all fun q => q.2.blw n
/-- forget what was made since there were n -/
def trimL (n : Nat) (ρ : Lo) : Lo := ρ.map fun o => match o with
  | some t => if t.blw n then some t else none
  | none => none
def trimS (n : Nat) (st : Sto) : Option Sto := if (st.take n).all (O.blw n) && decide (n ≤ st.length) then some (st.take n) else none

def bndS {α : Type} (r : Re α) (f : α → Sto → Option Fl) : Option Fl := match r with
  | none => none
  | some (.ok a st) => f a st
  | some (.ex c st) => some (.ex c st)
def seqS (r : Option Fl) (f : Lo → Sto → Option Fl) : Option Fl := match r with
  | some (.nx ρ st) => f ρ st
  | r => r
/-- no exception goes through a loop -/
def noEx (r : Option Fl) : Option Fl := match r with
  | some (.ex _ _) => none
  | r => r
def loopW (c : Lo → Sto → Re Bool) (b : Lo → Sto → Option Fl) : Nat → Lo → Sto → Option Fl
  | 0, _, _ => none
  | k + 1, ρ, st => bndS (c ρ st) fun v st => if v = true then (match b ρ st with
      | some (.nx ρ' st') => loopW c b k ρ' st'
      | some (.ct ρ' st') => loopW c b k ρ' st'
      | some (.bk ρ' st') => some (.nx ρ' st')
      | r => r) else some (.nx ρ st)
/-- one turn's end -/
def turnEnd (trim : Bool) (n : Nat) (ρ : Lo) (st : Sto) : Option (Lo × Sto) :=
  if trim then (trimS n st).map fun st' => (trimL n ρ, st') else some (ρ, st)
/-- src: what must stand as it stood ahead of each turn -/
def loopF (src : Sto → Bool) (trim : Bool) (n : Nat) (g : Tg) (b : Lo → Sto → Option Fl) : List T → Lo → Sto → Option Fl
  | [], ρ, st => if src st then some (.nx ρ st) else none
  | t :: ts, ρ, st => if src st then (match g.set t ρ with
      | none => none
      | some ρ1 => match b ρ1 st with
        | some (.nx ρ' st') => (turnEnd trim n ρ' st').bind fun q => loopF src trim n g b ts q.1 q.2
        | some (.ct ρ' st') => (turnEnd trim n ρ' st').bind fun q => loopF src trim n g b ts q.1 q.2
        | some (.bk ρ' st') => some (.nx ρ' st')
        | r => r) else none
/-- the items that a for walks, and what must stay -/
def evIt (Γ : Fns) : It → Lo → Sto → Re (List T × (Sto → Bool))
  | .lst a, ρ, st => bnd (ev Γ a ρ st) fun x st => match x with
    | .ref n => match seq? (.ref n) st with
      | some xs => ok (xs, sameAt n xs) st
      | none => none
    | _ => none
  | .tup a, ρ, st => bnd (ev Γ a ρ st) fun x st => match x with
    | .tup xs => ok (xs, fun _ => true) st
    | _ => none
  | .rng1 a _ _, ρ, st => bnd (ev Γ a ρ st) fun x st => match x with
    | .int j => if rngOk j then ok (rngT 0 j.toNat, fun _ => true) st else none
    | _ => none
  | .rng2 a b _ _, ρ, st => bnd (ev Γ a ρ st) fun x st => bnd (ev Γ b ρ st) fun y st => match x, y with
    | .int i, .int j => if rngOk i && rngOk j then ok (rngT i (j - i).toNat, fun _ => true) st else none
    | _, _ => none
/-- a test -/
def evC (Γ : Fns) : Ex → Lo → Sto → Re Bool
  | .no a _, ρ, st => bnd (evC Γ a ρ st) fun b st => ok (!b) st
  | .and a b _, ρ, st => bnd (evC Γ a ρ st) fun k st => if k = true then evC Γ b ρ st else ok false st
  | .or a b _, ρ, st => bnd (evC Γ a ρ st) fun k st => if k = true then ok true st else evC Γ b ρ st
  | .and3 a b c _, ρ, st => bnd (evC Γ a ρ st) fun k st => if k = true then bnd (evC Γ b ρ st) fun k st => if k = true then evC Γ c ρ st else ok false st else ok false st
  | .or3 a b c _, ρ, st => bnd (evC Γ a ρ st) fun k st => if k = true then ok true st else bnd (evC Γ b ρ st) fun k st => if k = true then ok true st else evC Γ c ρ st
  | .or4 a b c d _, ρ, st => bnd (evC Γ a ρ st) fun k st => if k = true then ok true st else bnd (evC Γ b ρ st) fun k st => if k = true then ok true st else bnd (evC Γ c ρ st) fun k st => if k = true then ok true st else evC Γ d ρ st
  | .and4 a b c d _, ρ, st => bnd (evC Γ a ρ st) fun k st => if k = true then bnd (evC Γ b ρ st) fun k st => (if k = true then bnd (evC Γ c ρ st) fun k st => (if k = true then evC Γ d ρ st else ok false st) else ok false st) else ok false st
  | .cmp op a b _, ρ, st => bnd (ev Γ a ρ st) fun x st => bnd (ev Γ b ρ st) fun y st => bnd (cmpF op x y st) fun t st => match t with
    | .bl k => ok k st
    | _ => none
  | .ifx _ _ _ _ _ _ _, _, _ => none
  | x, ρ, st => bnd (ev Γ x ρ st) fun t st => truF t st
/-- try: f(..) except C as n: v = n -/
def tryF (cx i j : Nat) (ρ : Lo) (r : Re (List T)) (g : List T → Sto → Re T) : Option Fl := match r with
  | some (.ok ts st) => (match g ts st with
    | some (.ok _ st) => some (.nx ρ st)
    | some (.ex c st) => if subX c cx = true then some (.nx (((ρ.set i (some (.exc c))).set j (some (.exc c))).set i none) st) else none
    | none => none)
  | _ => none
mutual
def exS (Γ : Fns) (F : Nat) : Sx → Lo → Sto → Option Fl
  | .asg g a _, ρ, st => bndS (ev Γ a ρ st) fun t st => (g.set t ρ).map fun ρ' => .nx ρ' st
  | .par i _ _ j _ _ _ _ a b _ _ _, ρ, st => bndS (ev Γ a ρ st) fun t st => bndS (ev Γ b ρ st) fun u st => some (.nx ((ρ.set i (some t)).set j (some u)) st)
  | .put o i _ a _, ρ, st => bndS (ev Γ a ρ st) fun t st => bndS (ev Γ o ρ st) fun x st => bndS (ev Γ i ρ st) fun y st => match x, y with
    | .ref n, .int k => match st[n]? with
      | some (.lst xs) => match ixN xs.length k with
        | some j => some (.nx ρ (st.set n (.lst (xs.set j t))))
        | none => none
      | _ => none
    | _, _ => none
  | .exp a _, ρ, st => bndS (ev Γ a ρ st) fun _ st => some (.nx ρ st)
  | .ret a _, ρ, st => bndS (ev Γ a ρ st) fun t st => some (.rt t st)
  | .ife c a b _, ρ, st => bndS (evC Γ c ρ st) fun k st => if k = true then exSs Γ F a ρ st else exSs Γ F b ρ st
  | .whl c b _, ρ, st => noEx (loopW (evC Γ c) (exSs Γ F b) F ρ st)
  | .fr g it b trim _, ρ, st => noEx (bndS (evIt Γ it ρ st) fun q st => loopF q.2 trim st.length g (exSs Γ F b) q.1 ρ st)
  | .brk _, ρ, st => some (.bk ρ st)
  | .con _, ρ, st => some (.ct ρ st)
  | .pas _, ρ, st => some (.nx ρ st)
  | .rse cx _ a _ _, ρ, st => bndS (ev Γ a ρ st) fun _ st => some (.ex cx st)
  | .tre f _ _ a xs _ _ cx _ i _ j _ _ _ _ _ _, ρ, st => tryF cx i j ρ (bnd (ev Γ a ρ st) fun t st => bnd (evs Γ xs ρ st) fun ts st => ok (t :: ts) st) (Γ f)
def exSs (Γ : Fns) (F : Nat) : List Sx → Lo → Sto → Option Fl
  | [], ρ, st => some (.nx ρ st)
  | x :: r, ρ, st => seqS (exS Γ F x ρ st) fun ρ st => exSs Γ F r ρ st
end

/-- how a def's end is told: raw: the store as it is; pure: what was made since is forgotten; fresh: but the list that is handed back -/
inductive Md where
  | raw | pur | frs
def endF (md : Md) (n : Nat) (t : T) (st : Sto) : Re T := match md with
  | .raw => ok t st
  | .pur => if t.blw n then (trimS n st).bind fun st' => ok t st' else none
  | .frs => match t with
    | .ref i => if n ≤ i then (match st[i]? with
      | some (.lst xs) => if T.blws n xs then (trimS n st).bind fun st' => ok (.ref n) (st' ++ [.lst xs]) else none
      | _ => none) else none
    | _ => none
structure Fn where
  nm : Str
  ps : Nat
  ns : Nat
  md : Md
  body : List Sx
def run (Γ : Fns) (F : Nat) (f : Fn) (ts : List T) (st : Sto) : Re T :=
  if ts.length = f.ps then
    match exSs Γ F f.body (ts.map some ++ List.replicate (f.ns - f.ps) none) st with
    | none => none
    | some (.nx _ st') => endF f.md st.length .non st'
    | some (.rt t st') => endF f.md st.length t st'
    | some (.ex c st') => (trimS st.length st').map fun st'' => .ex c st''
    | _ => none
  else none
end Ev

namespace Ev
open PySem PySem.Spec L2

/-- the numbers' addresses, the abstract heap, how many numbers there are -/
structure Wd where
  H : Hp
  m : Nat → Addr
  n : Nat
def KL (K : PySem.W.Frag) (a : Addr) (xs : List V) : Prop := ∃ (o : Obj) (its : Array Value) (n : Nat), K.lookup a = some o ∧ o.cls = .type "list" ∧ o.dict = none ∧ o.data = .seq its n ∧ its.size ≤ sizeLine ∧ Vals xs its.toList
mutual
def RV (K : PySem.W.Frag) (W : Wd) : T → V → Prop
  | .non, v => v = .non
  | .bl b, v => v = .bl b
  | .int i, v => v = .int i
  | .str x, v => v = .str x
  | .tup xs, v => ∃ a vs, v = .ref a ∧ SqT K W.H a vs ∧ RVs K W xs vs
  | .ref i, v => i < W.n ∧ v = .ref (W.m i)
  | .exc c, v => ∃ a, v = .ref a ∧ W.H a = some (IsX K c a) ∧ c ∈ xcs K
def RVs (K : PySem.W.Frag) (W : Wd) : List T → List V → Prop
  | [], vs => vs = []
  | t :: r, vs => ∃ v q, vs = v :: q ∧ RV K W t v ∧ RVs K W r q
end
def RK (K : PySem.W.Frag) (W : Wd) : List (Key × T) → List (Key × V) → Prop
  | [], vs => vs = []
  | p :: r, vs => ∃ v q, vs = (p.1, v) :: q ∧ RV K W p.2 v ∧ RK K W r q
def RO (K : PySem.W.Frag) (W : Wd) (a : Addr) : O → Prop
  | .lst xs => ∃ vs, W.H a = some (.lst vs) ∧ RVs K W xs vs
  | .fz xs => ∃ vs, ((∃ o, W.H a = some (.frz o (.lst vs))) ∨ KL K a vs) ∧ RVs K W xs vs
  | .dk kvs => ∃ ws, W.H a = some (.dK ws) ∧ RK K W kvs ws
def O.mut : O → Bool
  | .fz _ => false
  | _ => true
structure Ext (W W' : Wd) : Prop where
  n : W.n ≤ W'.n
  m : ∀ i, i < W.n → W'.m i = W.m i
  tup : ∀ b xs, W.H b = some (.tup xs) → W'.H b = some (.tup xs)
  frz : ∀ b o u, W.H b = some (.frz o u) → W'.H b = some (.frz o u)
  xt : ∀ b φ, W.H b = some (.ext φ) → W'.H b = some (.ext φ)
structure Rep (K : PySem.W.Frag) (st : Sto) (W : Wd) : Prop where
  len : st.length = W.n
  at_ : ∀ i o, st[i]? = some o → RO K W (W.m i) o
  inj : ∀ i j o u, st[i]? = some o → st[j]? = some u → o.mut = true → u.mut = true → W.m i = W.m j → i = j
def RL (K : PySem.W.Frag) (W : Wd) (ρ : Lo) (σ : St) : Prop := ρ.length = σ.length ∧ ∀ (i : Nat) (t : T), ρ[i]? = some (some t) → ∃ v, σ[i]? = some (some v) ∧ RV K W t v

theorem Ext.refl (W : Wd) : Ext W W := ⟨Nat.le_refl _, fun _ _ => rfl, fun _ _ h => h, fun _ _ _ h => h, fun _ _ h => h⟩
theorem Ext.trans {A B C : Wd} (x : Ext A B) (y : Ext B C) : Ext A C :=
  ⟨Nat.le_trans x.n y.n, fun i h => (y.m i (Nat.lt_of_lt_of_le h x.n)).trans (x.m i h), fun b xs h => y.tup b xs (x.tup b xs h), fun b o u h => y.frz b o u (x.frz b o u h), fun b φ h => y.xt b φ (x.xt b φ h)⟩
theorem SqT.ext {K : PySem.W.Frag} {W W' : Wd} (e : Ext W W') {a : Addr} {vs : List V} (h : SqT K W.H a vs) : SqT K W'.H a vs := by
  rcases h with (h | ⟨o, h⟩) | h
  · exact .inl (.inl (e.tup _ _ h))
  · exact .inl (.inr ⟨o, e.frz _ _ _ h⟩)
  · exact .inr h
mutual
theorem RV.ext {K : PySem.W.Frag} {W W' : Wd} (e : Ext W W') : ∀ {t : T} {v : V}, RV K W t v → RV K W' t v
  | .non, _, h => h
  | .bl _, _, h => h
  | .int _, _, h => h
  | .str _, _, h => h
  | .tup xs, v, h => by
    unfold RV at h ⊢
    obtain ⟨a, vs, e1, h1, h2⟩ := h
    exact ⟨a, vs, e1, SqT.ext e h1, RVs.ext e h2⟩
  | .ref i, v, h => by
    unfold RV at h ⊢
    exact ⟨Nat.lt_of_lt_of_le h.1 e.n, by rw [e.m i h.1]; exact h.2⟩
  | .exc _, _, h => by
    unfold RV at h ⊢
    obtain ⟨a, e1, h1, h2⟩ := h
    exact ⟨a, e1, e.xt _ _ h1, h2⟩
theorem RVs.ext {K : PySem.W.Frag} {W W' : Wd} (e : Ext W W') : ∀ {ts : List T} {vs : List V}, RVs K W ts vs → RVs K W' ts vs
  | [], _, h => h
  | t :: r, vs, h => by
    unfold RVs at h ⊢
    obtain ⟨v, q, e1, h1, h2⟩ := h
    exact ⟨v, q, e1, RV.ext e h1, RVs.ext e h2⟩
end
theorem RK.ext {K : PySem.W.Frag} {W W' : Wd} (e : Ext W W') : ∀ {ts : List (Key × T)} {vs : List (Key × V)}, RK K W ts vs → RK K W' ts vs
  | [], _, h => h
  | t :: r, vs, h => by
    unfold RK at h ⊢
    obtain ⟨v, q, e1, h1, h2⟩ := h
    exact ⟨v, q, e1, h1.ext e, RK.ext e h2⟩
theorem RL.ext {K : PySem.W.Frag} {W W' : Wd} (e : Ext W W') {ρ : Lo} {σ : St} (h : RL K W ρ σ) : RL K W' ρ σ :=
  ⟨h.1, fun i t q => let ⟨v, h1, h2⟩ := h.2 i t q; ⟨v, h1, h2.ext e⟩⟩
theorem RL.set {K : PySem.W.Frag} {W : Wd} {ρ : Lo} {σ : St} (h : RL K W ρ σ) {t : T} {v : V} (r : RV K W t v) (i : Nat) : RL K W (ρ.set i (some t)) (σ.set i (some v)) := by
  refine ⟨by simp [h.1], fun j u q => ?_⟩
  by_cases e : i = j
  · subst e
    by_cases hi : i < ρ.length
    · rw [List.getElem?_set_self hi] at q
      cases q
      exact ⟨v, List.getElem?_set_self (by rw [← h.1]; exact hi), r⟩
    · rw [List.getElem?_eq_none (by simp; omega)] at q
      cases q
  · rw [List.getElem?_set_ne e] at q ⊢
    exact h.2 j u q

section
variable {K : PySem.W.Frag} {W W' : Wd}
theorem RVs.length : ∀ {ts : List T} {vs : List V}, RVs K W ts vs → ts.length = vs.length
  | [], _, h => by unfold RVs at h; subst h; rfl
  | _ :: r, _, h => by
    unfold RVs at h
    obtain ⟨v, q, rfl, _, h2⟩ := h
    simp [RVs.length h2]
theorem RVs.cons {t : T} {v : V} {ts : List T} {vs : List V} (h : RV K W t v) (r : RVs K W ts vs) : RVs K W (t :: ts) (v :: vs) := by
  unfold RVs
  exact ⟨v, vs, rfl, h, r⟩
theorem RVs.nil : RVs K W [] [] := by unfold RVs; rfl
theorem RVs.get : ∀ {ts : List T} {vs : List V} {i : Nat} {t : T}, RVs K W ts vs → ts[i]? = some t → ∃ v, vs[i]? = some v ∧ RV K W t v
  | [], _, _, _, _, e => by simp at e
  | t :: r, _, 0, u, h, e => by
    unfold RVs at h
    obtain ⟨v, q, rfl, h1, _⟩ := h
    simp at e; subst e
    exact ⟨v, rfl, h1⟩
  | t :: r, _, i + 1, u, h, e => by
    unfold RVs at h
    obtain ⟨v, q, rfl, _, h2⟩ := h
    simpa using RVs.get h2 (by simpa using e)
theorem RVs.append : ∀ {ts us : List T} {vs ws : List V}, RVs K W ts vs → RVs K W us ws → RVs K W (ts ++ us) (vs ++ ws)
  | [], _, _, _, h, h' => by unfold RVs at h; subst h; exact h'
  | t :: r, _, _, _, h, h' => by
    unfold RVs at h
    obtain ⟨v, q, rfl, h1, h2⟩ := h
    exact RVs.cons h1 (RVs.append h2 h')
theorem RVs.take : ∀ {ts : List T} {vs : List V} (n : Nat), RVs K W ts vs → RVs K W (ts.take n) (vs.take n)
  | _, _, 0, _ => by simp; exact RVs.nil
  | [], _, n + 1, h => by unfold RVs at h; subst h; exact RVs.nil
  | t :: r, _, n + 1, h => by
    unfold RVs at h
    obtain ⟨v, q, rfl, h1, h2⟩ := h
    exact RVs.cons h1 (RVs.take n h2)
theorem RVs.drop : ∀ {ts : List T} {vs : List V} (n : Nat), RVs K W ts vs → RVs K W (ts.drop n) (vs.drop n)
  | _, _, 0, h => h
  | [], _, n + 1, h => by unfold RVs at h; subst h; exact RVs.nil
  | t :: r, _, n + 1, h => by
    unfold RVs at h
    obtain ⟨v, q, rfl, h1, h2⟩ := h
    exact RVs.drop n h2
theorem RVs.set {t : T} {v : V} (r : RV K W t v) : ∀ {ts : List T} {vs : List V} (i : Nat), RVs K W ts vs → RVs K W (ts.set i t) (vs.set i v)
  | [], _, _, h => by unfold RVs at h; subst h; exact RVs.nil
  | _ :: _, _, 0, h => by
    unfold RVs at h
    obtain ⟨u, q, rfl, h1, h2⟩ := h
    exact RVs.cons r h2
  | _ :: _, _, i + 1, h => by
    unfold RVs at h
    obtain ⟨u, q, rfl, h1, h2⟩ := h
    exact RVs.cons h1 (RVs.set r i h2)
theorem RVs.ints : ∀ {ts : List T} {vs : List V} {ns : List Int}, RVs K W ts vs → ints? ts = some ns → vs = ns.map V.int
  | [], _, ns, h, e => by
    unfold RVs at h; subst h
    unfold ints? at e; cases e; rfl
  | .int i :: r, _, ns, h, e => by
    unfold RVs at h
    obtain ⟨u, q, rfl, h1, h2⟩ := h
    unfold RV at h1; subst h1
    unfold ints? at e
    cases e' : ints? r with
    | none => rw [e'] at e; cases e
    | some ms =>
      rw [e'] at e; cases e
      rw [RVs.ints h2 e']; rfl
  | .non :: _, _, _, _, e => by unfold ints? at e; cases e
  | .bl _ :: _, _, _, _, e => by unfold ints? at e; cases e
  | .str _ :: _, _, _, _, e => by unfold ints? at e; cases e
  | .tup _ :: _, _, _, _, e => by unfold ints? at e; cases e
  | .ref _ :: _, _, _, _, e => by unfold ints? at e; cases e
  | .exc _ :: _, _, _, _, e => by unfold ints? at e; cases e
theorem RVs.bools : ∀ {ts : List T} {vs : List V} {ns : List Bool}, RVs K W ts vs → bools? ts = some ns → vs = ns.map V.bl
  | [], _, ns, h, e => by
    unfold RVs at h; subst h
    unfold bools? at e; cases e; rfl
  | .bl i :: r, _, ns, h, e => by
    unfold RVs at h
    obtain ⟨u, q, rfl, h1, h2⟩ := h
    unfold RV at h1; subst h1
    unfold bools? at e
    cases e' : bools? r with
    | none => rw [e'] at e; cases e
    | some ms =>
      rw [e'] at e; cases e
      rw [RVs.bools h2 e']; rfl
  | .non :: _, _, _, _, e => by unfold bools? at e; cases e
  | .int _ :: _, _, _, _, e => by unfold bools? at e; cases e
  | .str _ :: _, _, _, _, e => by unfold bools? at e; cases e
  | .tup _ :: _, _, _, _, e => by unfold bools? at e; cases e
  | .ref _ :: _, _, _, _, e => by unfold bools? at e; cases e
  | .exc _ :: _, _, _, _, e => by unfold bools? at e; cases e
theorem RVs.replicate {ts : List T} {vs : List V} (h : RVs K W ts vs) : ∀ n : Nat, RVs K W (List.replicate n ts).flatten (List.replicate n vs).flatten
  | 0 => RVs.nil
  | n + 1 => by
    rw [List.replicate_succ, List.replicate_succ, List.flatten_cons, List.flatten_cons]
    exact h.append (RVs.replicate h n)
/-- a new thing is laid at an address that was free -/
theorem RO.ext' {a : Addr} {o : O} (e : Ext W W') (h : RO K W a o) (hk : o.mut = true → ∀ u, W.H a = some u → W'.H a = some u) : RO K W' a o := by
  cases o with
  | lst xs => obtain ⟨vs, h1, h2⟩ := h; exact ⟨vs, hk rfl _ h1, h2.ext e⟩
  | fz xs =>
    obtain ⟨vs, h1, h2⟩ := h
    refine ⟨vs, ?_, h2.ext e⟩
    rcases h1 with ⟨ob, h1⟩ | h1
    · exact .inl ⟨ob, e.frz _ _ _ h1⟩
    · exact .inr h1
  | dk kvs => obtain ⟨ws, h1, h2⟩ := h; exact ⟨ws, hk rfl _ h1, h2.ext e⟩
theorem RO.some {a : Addr} {o : O} (h : RO K W a o) (hm : o.mut = true) : ∃ u, W.H a = some u := by
  cases o with
  | lst xs => obtain ⟨vs, h1, _⟩ := h; exact ⟨_, h1⟩
  | fz xs => cases hm
  | dk kvs => obtain ⟨vs, h1, _⟩ := h; exact ⟨_, h1⟩
abbrev Wd.lay (W : Wd) (p : Addr) (o : HO) : Wd := { W with H := upd W.H p o }
abbrev Wd.new (W : Wd) (p : Addr) (o : HO) : Wd := { H := upd W.H p o, m := fun i => if i = W.n then p else W.m i, n := W.n + 1 }
theorem Ext.lay {p : Addr} {o : HO} (h : W.H p = none) : Ext W (W.lay p o) :=
  ⟨Nat.le_refl _, fun _ _ => rfl, fun b xs q => (upd_ne (ne_of_none q h)).trans q, fun b ob u q => (upd_ne (ne_of_none q h)).trans q, fun b φ q => (upd_ne (ne_of_none q h)).trans q⟩
theorem Ext.new {p : Addr} {o : HO} (h : W.H p = none) : Ext W (W.new p o) :=
  ⟨Nat.le_succ _, fun i hi => if_neg (Nat.ne_of_lt hi), fun b xs q => (upd_ne (ne_of_none q h)).trans q, fun b ob u q => (upd_ne (ne_of_none q h)).trans q, fun b φ q => (upd_ne (ne_of_none q h)).trans q⟩
theorem Rep.lay {st : Sto} (r : Rep K st W) {p : Addr} {o : HO} (h : W.H p = none) : Rep K st (W.lay p o) :=
  ⟨r.len, fun i ob e => (r.at_ i ob e).ext' (Ext.lay h) fun _ u q => (upd_ne (ne_of_none q h)).trans q, r.inj⟩
theorem Rep.new {st : Sto} (r : Rep K st W) {p : Addr} {o : HO} {ob : O} (h : W.H p = none) (hnew : RO K (W.new p o) p ob) : Rep K (st ++ [ob]) (W.new p o) := by
  have hl := r.len
  refine ⟨by simp [hl], fun i u e => ?_, fun i j u w e1 e2 h1 h2 e3 => ?_⟩
  · by_cases hi : i < st.length
    · rw [List.getElem?_append_left hi] at e
      have : (W.new p o).m i = W.m i := if_neg (by rw [← hl]; exact Nat.ne_of_lt hi)
      rw [this]
      exact (r.at_ i u e).ext' (Ext.new h) fun _ u q => (upd_ne (ne_of_none q h)).trans q
    · have hi2 : i = st.length := by
        have := (List.getElem?_eq_some_iff.mp e).1
        simp at this; omega
      subst hi2
      rw [List.getElem?_append_right (Nat.le_refl _)] at e
      simp at e; subst e
      have : (W.new p o).m st.length = p := if_pos hl
      rw [this]
      exact hnew
  · have key : ∀ i u, (st ++ [ob])[i]? = some u → u.mut = true → (i < st.length ∧ st[i]? = some u ∧ (W.new p o).m i = W.m i ∧ W.m i ≠ p) ∨ (i = st.length ∧ (W.new p o).m i = p) := fun i u e hu => by
      by_cases hi : i < st.length
      · rw [List.getElem?_append_left hi] at e
        obtain ⟨q, hq⟩ := (r.at_ i u e).some hu
        exact .inl ⟨hi, e, if_neg (by rw [← hl]; exact Nat.ne_of_lt hi), ne_of_none hq h⟩
      · have hi2 : i = st.length := by
          have := (List.getElem?_eq_some_iff.mp e).1
          simp at this; omega
        exact .inr ⟨hi2, if_pos (hi2.trans hl)⟩
    rcases key i u e1 h1 with ⟨a1, a2, a3, a4⟩ | ⟨a1, a2⟩
    · rcases key j w e2 h2 with ⟨b1, b2, b3, b4⟩ | ⟨b1, b2⟩
      · rw [a3, b3] at e3
        exact r.inj i j u w a2 b2 h1 h2 e3
      · rw [a3, b2] at e3
        exact absurd e3 a4
    · rcases key j w e2 h2 with ⟨b1, b2, b3, b4⟩ | ⟨b1, b2⟩
      · rw [a2, b3] at e3
        exact absurd e3.symm b4
      · rw [a1, b1]
theorem Rep.newL {st : Sto} (r : Rep K st W) {p : Addr} {xs : List T} {vs : List V} (h : W.H p = none) (hv : RVs K W xs vs) : Rep K (st ++ [.lst xs]) (W.new p (.lst vs)) :=
  r.new h ⟨vs, upd_same, hv.ext (Ext.new h)⟩
theorem RV.new {st : Sto} (r : Rep K st W) {p : Addr} {o : HO} : RV K (W.new p o) (.ref st.length) (.ref p) := by
  unfold RV
  refine ⟨by rw [r.len]; exact Nat.lt_succ_self _, ?_⟩
  show V.ref p = .ref (if st.length = W.n then p else _)
  rw [if_pos r.len]
/-- a list that stands in the store is changed -/
theorem Rep.writeX {st : Sto} (r : Rep K st W) {i : Nat} {o : O} {u : HO} (hi : st[i]? = some o) (hm : o.mut = true) : Ext W (W.lay (W.m i) u) := by
  have hat : ∃ q, W.H (W.m i) = some q ∧ ((∃ vs, q = .lst vs) ∨ ∃ ws, q = .dK ws) := by
    have := r.at_ i o hi
    cases o with
    | lst xs => obtain ⟨vs, h1, _⟩ := this; exact ⟨_, h1, .inl ⟨_, rfl⟩⟩
    | fz xs => cases hm
    | dk kvs => obtain ⟨vs, h1, _⟩ := this; exact ⟨_, h1, .inr ⟨_, rfl⟩⟩
  obtain ⟨q, hq, hqm⟩ := hat
  have ne : ∀ {b : Addr} {w : HO}, W.H b = some w → (∀ vs, w ≠ .lst vs) → (∀ vs, w ≠ .dK vs) → b ≠ W.m i := fun {b w} h n1 n2 z => by
    rw [z, hq] at h
    cases h
    rcases hqm with ⟨vs, e⟩ | ⟨vs, e⟩
    · exact n1 vs e
    · exact n2 vs e
  exact ⟨Nat.le_refl _, fun _ _ => rfl, fun b xs h => (upd_ne (ne h (by intro _ z; cases z) (by intro _ z; cases z))).trans h, fun b ob u h => (upd_ne (ne h (by intro _ z; cases z) (by intro _ z; cases z))).trans h, fun b φ h => (upd_ne (ne h (by intro _ z; cases z) (by intro _ z; cases z))).trans h⟩
theorem Rep.write {st : Sto} (r : Rep K st W) {i : Nat} {o : O} {u : HO} {ob : O} (hi : st[i]? = some o) (hm : o.mut = true) (hb : ob.mut = true) (hnew : RO K (W.lay (W.m i) u) (W.m i) ob) : Rep K (st.set i ob) (W.lay (W.m i) u) ∧ Ext W (W.lay (W.m i) u) := by
  have hil : i < st.length := (List.getElem?_eq_some_iff.mp hi).1
  have hx := Rep.writeX (u := u) r hi hm
  refine ⟨⟨by simpa using r.len, fun j w e => ?_, fun a b c d e1 e2 h1 h2 e3 => ?_⟩, hx⟩
  · by_cases hj : i = j
    · subst hj
      rw [List.getElem?_set_self hil] at e
      cases e
      exact hnew
    · rw [List.getElem?_set_ne hj] at e
      exact (r.at_ j w e).ext' hx fun hw q' hq' => (upd_ne fun z => hj (r.inj i j o w hi e hm hw z.symm)).trans hq'
  · have key : ∀ (a : Nat) (c : O), (st.set i ob)[a]? = some c → c.mut = true → ∃ c' : O, st[a]? = some c' ∧ c'.mut = true := fun a c e hc => by
      by_cases hj : i = a
      · subst hj; exact ⟨o, hi, hm⟩
      · rw [List.getElem?_set_ne hj] at e; exact ⟨c, e, hc⟩
    obtain ⟨c', h1', h1''⟩ := key a c e1 h1
    obtain ⟨d', h2', h2''⟩ := key b d e2 h2
    exact r.inj a b c' d' h1' h2' h1'' h2'' e3
end
end Ev

namespace Ev
open PySem PySem.Spec L2
abbrev XQ := Nat → Sto → Wd → Prop
def Post {α : Type} (K : PySem.W.Frag) (r : Re α) (W : Wd) (xq : XQ) (Q : α → Sto → Wd → Prop) : Prop := match r with
  | none => False
  | some (.ok a st) => ∀ W', Ext W W' → Rep K st W' → Q a st W'
  | some (.ex c st) => ∀ W', Ext W W' → Rep K st W' → xq c st W'
section
variable {α β : Type} {K : PySem.W.Frag} {W W' : Wd} {xq : XQ} {r : Re α} {Q Q' : α → Sto → Wd → Prop} {st : Sto}
theorem Post.ext (h : Post K r W xq Q) (e : Ext W W') : Post K r W' xq Q := by
  cases r with
  | none => exact h
  | some o => cases o with
    | ok a st => exact fun W2 e2 r2 => h W2 (e.trans e2) r2
    | ex c st => exact fun W2 e2 r2 => h W2 (e.trans e2) r2
theorem Post.bnd {f : α → Sto → Re β} {Q : β → Sto → Wd → Prop} (h : Post K (bnd r f) W xq Q) : Post K r W xq (fun a st1 W1 => Post K (f a st1) W1 xq Q) := by
  cases r with
  | none => exact h
  | some o => cases o with
    | ok a st =>
      intro W2 e2 r2
      exact Post.ext (show Post K (f a st) W xq Q from h) e2
    | ex c st => exact h
theorem Post.imp (h : Post K r W xq Q) (q : ∀ a st W', Ext W W' → Rep K st W' → Q a st W' → Q' a st W') : Post K r W xq Q' := by
  cases r with
  | none => exact h
  | some o => cases o with
    | ok a st => exact fun W2 e2 r2 => q a st W2 e2 r2 (h W2 e2 r2)
    | ex c st => exact h
theorem Post.self {a : α} (h : Post K (ok a st) W xq Q) (r : Rep K st W) : Q a st W := h W (Ext.refl W) r
theorem Post.at {a : α} (h : Post K (ok a st) W xq Q) {W' : Wd} (e : Ext W W') (r : Rep K st W') : Q a st W' := h W' e r
end
/-- the reading of an expression by an evaluator -/
def tE (K : PySem.W.Frag) (xq : XQ) (f : Lo → Sto → Re T) : TE := fun σ H Q => ∃ W ρ st, W.H = H ∧ Rep K st W ∧ RL K W ρ σ ∧ Post K (f ρ st) W xq (fun t _ W' => ∀ v, RV K W' t v → Q v W'.H)
def tT (K : PySem.W.Frag) (xq : XQ) (f : Lo → Sto → Re Bool) : TT := fun σ H Q => ∃ W ρ st, W.H = H ∧ Rep K st W ∧ RL K W ρ σ ∧ Post K (f ρ st) W xq (fun b _ W' => Q b W'.H)
def tAs (K : PySem.W.Frag) (xq : XQ) (f : Lo → Sto → Re (List T)) : TA := fun σ H Q => ∃ W ρ st, W.H = H ∧ Rep K st W ∧ RL K W ρ σ ∧ Post K (f ρ st) W xq (fun ts _ W' => ∀ vs, RVs K W' ts vs → Q vs W'.H)
theorem PE_weak {X : Cx} {e : Expr} {t t' : TE} (h : PE X e t') (q : ∀ σ H Q, t σ H Q → t' σ H Q) : PE X e t := fun pins s σ H Q I hw => h pins s σ H Q I (q σ H Q hw)
theorem PT_weak {X : Cx} {e : Expr} {t t' : TT} (h : PT X e t') (q : ∀ σ H Q, t σ H Q → t' σ H Q) : PT X e t := fun pins s σ H Q I hw => h pins s σ H Q I (q σ H Q hw)
theorem PW_weak {X : Cx} {e : Expr} {t t' : TT} (h : PW X e t') (q : ∀ σ H Q, t σ H Q → t' σ H Q) : PW X e t := fun wh pins s σ H Q I hw => h wh pins s σ H Q I (q σ H Q hw)
theorem PA_weak {X : Cx} {es : List Expr} {t t' : TA} (h : PA X es t') (q : ∀ σ H Q, t σ H Q → t' σ H Q) : PA X es t := fun pos pins s σ H Q I hw => h pos pins s σ H Q I (q σ H Q hw)
/-- values in, by an evaluator's function -/
def r1 (K : PySem.W.Frag) (xq : XQ) (g : T → Sto → Re T) : V → Hp → VK → Prop := fun vx H Q => ∃ W st x, W.H = H ∧ Rep K st W ∧ RV K W x vx ∧ Post K (g x st) W xq (fun t _ W' => ∀ v, RV K W' t v → Q v W'.H)
def r2 (K : PySem.W.Frag) (xq : XQ) (g : T → T → Sto → Re T) : R2 := fun vx vy H Q => ∃ W st x y, W.H = H ∧ Rep K st W ∧ RV K W x vx ∧ RV K W y vy ∧ Post K (g x y st) W xq (fun t _ W' => ∀ v, RV K W' t v → Q v W'.H)
def rs (K : PySem.W.Frag) (xq : XQ) (g : List T → Sto → Re T) : List V → Hp → VK → Prop := fun vs H Q => ∃ W st xs, W.H = H ∧ Rep K st W ∧ RVs K W xs vs ∧ Post K (g xs st) W xq (fun t _ W' => ∀ v, RV K W' t v → Q v W'.H)
section
variable {K : PySem.W.Frag} {xq : XQ} {σ : L2.St} {H : Hp} {Q : VK}
theorem tE_bin {fa fb : Lo → Sto → Re T} {g : T → T → Sto → Re T} (h : tE K xq (fun ρ st => bnd (fa ρ st) fun x st => bnd (fb ρ st) fun y st => g x y st) σ H Q) :
    tOp (r2 K xq g) (tE K xq fa) (tE K xq fb) σ H Q := by
  obtain ⟨W, ρ, st, rfl, r, l, p⟩ := h
  refine ⟨W, ρ, st, rfl, r, l, p.bnd.imp fun x st1 W1 e1 r1' p1 v1 hv1 => ?_⟩
  refine ⟨W1, ρ, st1, rfl, r1', l.ext e1, p1.bnd.imp fun y st2 W2 e2 r2' p2 v2 hv2 => ?_⟩
  exact ⟨W2, st2, x, y, rfl, r2', hv1.ext e2, hv2, p2⟩
theorem tE_un {fa : Lo → Sto → Re T} {g : T → Sto → Re T} (h : tE K xq (fun ρ st => bnd (fa ρ st) fun x st => g x st) σ H Q) : tUn (r1 K xq g) (tE K xq fa) σ H Q := by
  obtain ⟨W, ρ, st, rfl, r, l, p⟩ := h
  refine ⟨W, ρ, st, rfl, r, l, p.bnd.imp fun x st1 W1 e1 r1' p1 v1 hv1 => ?_⟩
  exact ⟨W1, st1, x, rfl, r1', hv1, p1⟩
end
section
variable {X : Cx} {xq : XQ}
theorem midI_bits {i : Int} (h : midI i = true) : Builtin.Int.intBits i ≤ 4000 := by
  have h' : i.natAbs < 2 ^ 4000 := of_decide_eq_true h
  unfold Builtin.Int.intBits
  split
  · exact Nat.zero_le _
  · have : i.natAbs.log2 < 4000 := by
      rcases Nat.eq_zero_or_pos i.natAbs with h0 | hp
      · rw [h0]; decide
      · exact (Nat.log2_lt (Nat.ne_of_gt hp)).mpr h'
    omega
theorem midI_log {i : Int} (h : midI i = true) : i.natAbs.log2 < 9000 := by
  have h' : i.natAbs < 2 ^ 4000 := of_decide_eq_true h
  rcases Nat.eq_zero_or_pos i.natAbs with h0 | hp
  · rw [h0]; decide
  · have : i.natAbs.log2 < 4000 := (Nat.log2_lt (Nat.ne_of_gt hp)).mpr h'
    omega
theorem smallI_bits {i : Int} (h : smallI i = true) : Builtin.Int.intBits i ≤ 64 := by
  have h' : i.natAbs < 2 ^ 64 := of_decide_eq_true h
  exact intBits_le_64 (by omega) (by omega)
theorem mulOk_ok {i j : Int} (h : mulOk i j = true) : IntMulOk i j := by
  unfold mulOk at h
  rw [Bool.or_eq_true, Bool.or_eq_true, Bool.and_eq_true] at h
  rcases h with (h | h) | ⟨h1, h2⟩
  · exact .of_left (smallI_bits h)
  · exact .of_right (smallI_bits h)
  · exact IntMulOk.of_le (midI_bits h1) (midI_bits h2) (by decide)
/-- the reading of a list or a tuple -/
theorem seq_sound {K : PySem.W.Frag} {W : Wd} {st : Sto} (r : Rep K st W) {t : T} {xs : List T} {v : V} (h : RV K W t v) (e : seq? t st = some xs) :
    ∃ a vs, v = .ref a ∧ RVs K W xs vs ∧ (SqL K W.H a vs ∨ SqT K W.H a vs) := by
  unfold seq? at e
  split at e
  · cases e
    unfold RV at h
    obtain ⟨a, vs, e1, h1, h2⟩ := h
    exact ⟨a, vs, e1, h2, .inr h1⟩
  · rename_i n
    unfold RV at h
    split at e
    · rename_i e'
      cases e
      obtain ⟨vs, h1, h2⟩ := r.at_ _ _ e'
      exact ⟨_, vs, h.2, h2, .inl (.inl (.inl h1))⟩
    · rename_i e'
      cases e
      obtain ⟨vs, h1, h2⟩ := r.at_ _ _ e'
      rcases h1 with ⟨o, h1⟩ | h1
      · exact ⟨_, vs, h.2, h2, .inl (.inl (.inr ⟨o, h1⟩))⟩
      · exact ⟨_, vs, h.2, h2, .inl (.inr h1)⟩
    · cases e
  · cases e
theorem Rep.fzL {K : PySem.W.Frag} {W : Wd} {a : Addr} {vs : List V} (h1 : (∃ o, W.H a = some (HO.frz o (HO.lst vs))) ∨ KL K a vs) : SqL K W.H a vs := by
  rcases h1 with ⟨o, h1⟩ | h1
  · exact .inl (.inr ⟨o, h1⟩)
  · exact .inr h1
theorem cut_sound {K : PySem.W.Frag} {W : Wd} {xs : List T} {vs : List V} (h : RVs K W xs vs) (lo hi : Option Int) : RVs K W (cutT xs lo hi) (cutV vs lo hi) := by
  unfold cutT cutV
  rw [h.length]
  exact (h.drop _).take _

theorem op_sound (op : Operator) : OpR X (binaryOp op) (r2 X.K xq (opF op)) := by
  intro pins s σ H vx vy v u Q I rx ry h
  obtain ⟨W, st, x, y, rfl, r, hx, hy, p⟩ := h
  unfold opF at p
  split at p
  · unfold RV at hx hy; subst hx; subst hy
    exact op_add pins s σ _ _ _ v u Q I rx ry ⟨_, _, rfl, rfl, p.self r _ (by unfold RV; rfl)⟩
  · unfold RV at hx hy; subst hx; subst hy
    exact op_sub pins s σ _ _ _ v u Q I rx ry ⟨_, _, rfl, rfl, p.self r _ (by unfold RV; rfl)⟩
  · unfold RV at hx hy; subst hx; subst hy
    split at p
    · rename_i hm
      obtain ⟨t, rfl⟩ := rx
      obtain ⟨t', rfl⟩ := ry
      exact PyProof.Rows.mul_int ⟨.int _, W.H, I.tok _, ⟨_, rfl⟩, p.self r _ (by unfold RV; rfl)⟩ (mulOk_ok hm)
    · exact p.elim
  · unfold RV at hx hy; subst hx; subst hy
    split at p
    · rename_i hm
      obtain ⟨t, rfl⟩ := rx
      obtain ⟨t', rfl⟩ := ry
      exact PyProof.Rows.floordiv_int hm.1 ⟨.int _, W.H, I.tok _, ⟨_, rfl⟩, p.self r _ (by unfold RV; rfl)⟩ (.inl (PyProof.noPylong_of_log2 (midI_log hm.2)))
    · exact p.elim
  · unfold RV at hx hy; subst hx; subst hy
    split at p
    · rename_i hm
      exact op_modN pins s σ _ _ _ v u Q I rx ry ⟨_, _, rfl, rfl, hm, p.self r _ (by unfold RV; rfl)⟩
    · exact p.elim
  · unfold RV at hx hy; subst hx; subst hy
    split at p
    · rename_i hm
      exact op_pow pins s σ _ _ _ v u Q I rx ry ⟨_, _, rfl, rfl, ⟨hm.1, hm.2.1, of_decide_eq_true hm.2.2⟩, p.self r _ (by unfold RV; rfl)⟩
    · exact p.elim
  · unfold RV at hx hy
    split at p
    · rename_i e1 e2
      split at p
      · rename_i hl
        obtain ⟨vs, h1, h2⟩ := r.at_ _ _ e1
        obtain ⟨ws, h3, h4⟩ := r.at_ _ _ e2
        rw [hx.2] at rx; rw [hy.2] at ry
        refine op_cat pins s σ _ _ _ v u Q I rx ry ⟨_, _, vs, ws, rfl, rfl, h1, h3, by rw [← h2.length, ← h4.length]; exact hl, fun q hq => ?_⟩
        exact p.at (Ext.new hq) (r.newL hq (h2.append h4)) _ (RV.new r)
      · exact p.elim
    · exact p.elim
  · unfold RV at hx hy
    obtain ⟨a, vs, rfl, h1, h2⟩ := hx
    obtain ⟨b, ws, rfl, h3, h4⟩ := hy
    split at p
    · rename_i hl
      have hne : vs ≠ [] := fun z => hl.1 (List.eq_nil_of_length_eq_zero (by rw [h2.length, z]; rfl))
      refine op_catT pins s σ _ _ _ v u Q I rx ry ⟨a, b, vs, ws, rfl, rfl, h1, h3, hne, by rw [← h2.length, ← h4.length]; exact hl.2, fun z => ?_, fun z q hq => ?_⟩
      · refine p.self r _ ?_
        unfold RV
        exact ⟨a, vs, rfl, h1, by
          have := h2.append h4
          rw [z, List.append_nil] at this
          exact this⟩
      · refine p.at (Ext.lay hq) (r.lay hq) _ ?_
        unfold RV
        exact ⟨q, vs ++ ws, rfl, .inl (.inl upd_same), (h2.append h4).ext (Ext.lay hq)⟩
    · exact p.elim
  · unfold RV at hx hy
    subst hy
    split at p
    · rename_i e1
      split at p
      · rename_i hl
        obtain ⟨vs, h1, h2⟩ := r.at_ _ _ e1
        rw [hx.2] at rx
        refine op_rep pins s σ _ _ _ v u Q I rx ry ⟨_, _, vs, rfl, rfl, h1, hl.1, hl.2.1, by rw [← h2.length]; exact hl.2.2, fun q hq => ?_⟩
        exact p.at (Ext.new hq) (r.newL hq (h2.replicate _)) _ (RV.new r)
      · exact p.elim
    · exact p.elim
  · exact p.elim

mutual
theorem dat_sound {K : PySem.W.Frag} {W : Wd} {st : Sto} (r : Rep K st W) : ∀ (k : Nat) {t : T} {d : PyData} {v : V}, RV K W t v → dat st k t = some d → Dp K W.H v d
  | 0, _, _, _, _, e => by unfold dat at e; cases e
  | k + 1, t, d, v, h, e => by
    unfold dat at e
    split at e
    · cases e; unfold RV at h; subst h; exact .non
    · cases e; unfold RV at h; subst h; exact .bl _
    · cases e; unfold RV at h; subst h; exact .int _
    · cases e; unfold RV at h; subst h; exact .str _
    · rename_i xs
      unfold RV at h
      obtain ⟨a, vs, rfl, h1, h2⟩ := h
      cases q : dats (dat st k) xs with
      | none => rw [q] at e; cases e
      | some ds => rw [q] at e; cases e; exact .tup h1 (dats_sound r k h2 q)
    · rename_i n
      unfold RV at h
      split at e
      · rename_i xs e'
        obtain ⟨vs, h1, h2⟩ := r.at_ _ _ e'
        cases q : dats (dat st k) xs with
        | none => rw [q] at e; cases e
        | some ds => rw [q] at e; cases e; rw [h.2]; exact .lst (.inl (.inl h1)) (dats_sound r k h2 q)
      · rename_i xs e'
        obtain ⟨vs, h1, h2⟩ := r.at_ _ _ e'
        cases q : dats (dat st k) xs with
        | none => rw [q] at e; cases e
        | some ds =>
          rw [q] at e; cases e; rw [h.2]
          rcases h1 with ⟨o, h1⟩ | h1
          · exact .lst (.inl (.inr ⟨o, h1⟩)) (dats_sound r k h2 q)
          · exact .lst (.inr h1) (dats_sound r k h2 q)
      · cases e
    · cases e
theorem dats_sound {K : PySem.W.Frag} {W : Wd} {st : Sto} (r : Rep K st W) : ∀ (k : Nat) {ts : List T} {ds : List PyData} {vs : List V}, RVs K W ts vs → dats (dat st k) ts = some ds → DpAll K W.H vs ds
  | k, [], _, _, h, e => by
    unfold dats at e; cases e
    unfold RVs at h; subst h
    exact .nil
  | k, t :: r', ds, vs, h, e => by
    unfold dats at e
    unfold RVs at h
    obtain ⟨v, q, rfl, h1, h2⟩ := h
    split at e
    · rename_i d ds' e1 e2
      cases e
      exact .cons (dat_sound r k h1 e1) (dats_sound r k h2 e2)
    · cases e
end
theorem cmp_sound (op : CmpOp) (hu : X.A.units + 64 < cLine) : OpR X (compareOp op) (r2 X.K xq (cmpF op)) := by
  intro pins s σ H vx vy v u Q I rx ry h
  obtain ⟨W, st, x, y, rfl, r, hx, hy, p⟩ := h
  unfold cmpF at p
  have eqS : ∀ (b : Bool), eqF x y st = some b → (∀ z, RV X.K W (.bl b) z → Q z W.H) → wpAny (model X.prog X.w) X.A (compareOp .Eq v u) (EP X pins σ Q) X.xe s := fun b e q => by
    have q := q (.bl b) (by unfold RV; rfl)
    unfold eqF at e
    split at e
    · cases e; unfold RV at hx hy; subst hx; subst hy
      exact op_eq pins s σ _ _ _ v u Q I rx ry ⟨rfl, by rw [show decide (V.int _ = V.int _) = decide (_ = _) from decide_eq_decide.mpr ⟨fun z => V.int.inj z, fun z => by rw [z]⟩]; exact q⟩
    · cases e; unfold RV at hx hy; subst hx; subst hy
      exact op_eq pins s σ _ _ _ v u Q I rx ry ⟨rfl, by rw [show decide (V.bl _ = V.bl _) = decide (_ = _) from decide_eq_decide.mpr ⟨fun z => V.bl.inj z, fun z => by rw [z]⟩]; exact q⟩
    · cases e; unfold RV at hx hy; subst hx; subst hy
      exact op_eq pins s σ _ _ _ v u Q I rx ry ⟨rfl, by rw [show decide (V.str _ = V.str _) = decide (_ = _) from decide_eq_decide.mpr ⟨fun z => V.str.inj z, fun z => by rw [z]⟩]; exact q⟩
    · cases e; unfold RV at hx hy; subst hx; subst hy
      exact op_eq pins s σ _ _ _ v u Q I rx ry ⟨rfl, by simpa using q⟩
    · split at e
      · rename_i d e1 e2 e3
        split at e
        · rename_i hs
          cases e
          exact op_eqD hu pins s σ _ _ _ v u Q I rx ry ⟨d, e1, dat_sound r _ hx e2, dat_sound r _ hy e3, hs.1, hs.2, q⟩
        · cases e
      · cases e
  have neS : ∀ (b : Bool), eqF x y st = some b → (∀ z, RV X.K W (.bl (!b)) z → Q z W.H) → wpAny (model X.prog X.w) X.A (compareOp .NotEq v u) (EP X pins σ Q) X.xe s := fun b e q => by
    have q := q (.bl (!b)) (by unfold RV; rfl)
    unfold eqF at e
    split at e
    · cases e; unfold RV at hx hy; subst hx; subst hy
      exact op_ne pins s σ _ _ _ v u Q I rx ry ⟨rfl, by rw [show decide (V.int _ = V.int _) = decide (_ = _) from decide_eq_decide.mpr ⟨fun z => V.int.inj z, fun z => by rw [z]⟩]; exact q⟩
    · cases e; unfold RV at hx hy; subst hx; subst hy
      exact op_ne pins s σ _ _ _ v u Q I rx ry ⟨rfl, by rw [show decide (V.bl _ = V.bl _) = decide (_ = _) from decide_eq_decide.mpr ⟨fun z => V.bl.inj z, fun z => by rw [z]⟩]; exact q⟩
    · cases e; unfold RV at hx hy; subst hx; subst hy
      exact op_ne pins s σ _ _ _ v u Q I rx ry ⟨rfl, by rw [show decide (V.str _ = V.str _) = decide (_ = _) from decide_eq_decide.mpr ⟨fun z => V.str.inj z, fun z => by rw [z]⟩]; exact q⟩
    · cases e; unfold RV at hx hy; subst hx; subst hy
      exact op_ne pins s σ _ _ _ v u Q I rx ry ⟨rfl, by simpa using q⟩
    · split at e
      · rename_i d e1 e2 e3
        split at e
        · rename_i hs
          cases e
          exact op_neD hu pins s σ _ _ _ v u Q I rx ry ⟨d, e1, dat_sound r _ hx e2, dat_sound r _ hy e3, hs.1, hs.2, q⟩
        · cases e
      · cases e
  have notN : ∀ {t : T} {w : V}, RV X.K W t w → t ≠ .non → w ≠ .non := fun {t w} h ht z => by
    subst z
    cases t <;> unfold RV at h
    · exact ht rfl
    · cases h
    · cases h
    · cases h
    · obtain ⟨_, _, e, _⟩ := h; cases e
    · cases h.2
    · obtain ⟨_, e, _⟩ := h; cases e
  split at p
  · unfold RV at hx hy; subst hx; subst hy
    exact op_lt pins s σ _ _ _ v u Q I rx ry ⟨_, _, rfl, rfl, p.self r _ (by unfold RV; rfl)⟩
  · unfold RV at hx hy; subst hx; subst hy
    exact op_le pins s σ _ _ _ v u Q I rx ry ⟨_, _, rfl, rfl, p.self r _ (by unfold RV; rfl)⟩
  · unfold RV at hx hy; subst hx; subst hy
    exact op_gt pins s σ _ _ _ v u Q I rx ry ⟨_, _, rfl, rfl, p.self r _ (by unfold RV; rfl)⟩
  · unfold RV at hx hy; subst hx; subst hy
    exact op_ge pins s σ _ _ _ v u Q I rx ry ⟨_, _, rfl, rfl, p.self r _ (by unfold RV; rfl)⟩
  · unfold RV at hx hy
    obtain ⟨a, vs, rfl, h1, h2⟩ := hx
    obtain ⟨b, ws, rfl, h3, h4⟩ := hy
    split at p
    · rename_i ns ms e1 e2
      rw [h2.ints e1] at h1
      rw [h4.ints e2] at h3
      exact op_ltT (by omega) pins s σ _ _ _ v u Q I rx ry ⟨a, b, ns, ms, rfl, rfl, h1, h3, p.self r _ (by unfold RV; rfl)⟩
    · exact p.elim
  · split at p
    · rename_i b e
      exact eqS b e (p.self r)
    · exact p.elim
  · split at p
    · rename_i b e
      exact neS b e (p.self r)
    · exact p.elim
  · unfold RV at hx hy; subst hx; subst hy
    cases rx; cases ry
    exact PyProof.Rows.is_bool ⟨.bl _, W.H, I, rfl, p.self r _ (by unfold RV; rfl)⟩
  · unfold RV at hx hy; subst hx; subst hy
    cases rx; cases ry
    exact PyProof.Rows.isnot_bool ⟨.bl _, W.H, I, rfl, p.self r _ (by unfold RV; rfl)⟩
  · unfold RV at hx hy; subst hx; subst hy
    exact op_isN pins s σ _ _ _ v u Q I rx ry ⟨rfl, p.self r _ (by unfold RV; rfl)⟩
  · rename_i hne
    have hw := notN hx (by intro z; subst z; exact hne rfl)
    unfold RV at hy; subst hy
    exact op_isN pins s σ _ _ _ v u Q I rx ry ⟨rfl, by rw [decide_eq_false hw]; exact p.self r _ (by unfold RV; rfl)⟩
  · unfold RV at hx hy; subst hx; subst hy
    exact op_notN pins s σ _ _ _ v u Q I rx ry ⟨rfl, p.self r _ (by unfold RV; rfl)⟩
  · rename_i hne
    have hw := notN hx (by intro z; subst z; exact hne rfl)
    unfold RV at hy; subst hy
    exact op_notN pins s σ _ _ _ v u Q I rx ry ⟨rfl, by rw [decide_eq_false hw]; exact p.self r _ (by unfold RV; rfl)⟩
  · exact p.elim
theorem at_sound {K : PySem.W.Frag} {W : Wd} {xs : List T} {vs : List V} (h : RVs K W xs vs) {i : Int} {t : T} (e : atI xs i = some t) : ∃ v, atI vs i = some v ∧ RV K W t v := by
  unfold atI at e ⊢
  rw [h.length] at e
  cases q : ixN vs.length i with
  | none => rw [q] at e; cases e
  | some j =>
    rw [q] at e
    obtain ⟨v, h1, h2⟩ := h.get (show xs[j]? = some t from e)
    exact ⟨v, h1, h2⟩
theorem ix_sound : IxR X (r2 X.K xq ixF) := by
  intro value slice pins s σ H vx vy v u Q I rx ry h hs
  obtain ⟨W, st, x, y, rfl, r, hx, hy, p⟩ := h
  unfold ixF at p
  split at p
  · exact p.elim
  · unfold RV at hy; subst hy
    split at p
    · rename_i xs e
      split at p
      · rename_i t e2
        obtain ⟨a, vs, rfl, h1, h2⟩ := seq_sound r hx e
        obtain ⟨z, h3, h4⟩ := at_sound h1 e2
        rcases h2 with h2 | h2
        · exact ix_list value slice pins s σ _ _ _ v u Q I rx ry ⟨a, vs, _, z, rfl, rfl, h2, h3, p.self r _ h4⟩ hs
        · exact ix_tup value slice pins s σ _ _ _ v u Q I rx ry ⟨a, vs, _, z, rfl, rfl, h2, h3, p.self r _ h4⟩ hs
      · exact p.elim
    · exact p.elim
  · exact p.elim
def rSl (K : PySem.W.Frag) (xq : XQ) : V → Option Int → Option Int → Hp → VK → Prop := fun vx lo hi H Q => ∃ W st x, W.H = H ∧ Rep K st W ∧ RV K W x vx ∧ Post K (slF x lo hi st) W xq (fun t _ W' => ∀ v, RV K W' t v → Q v W'.H)
theorem sl_sound : SlR X (rSl X.K xq) := by
  intro pins s σ H vx v vl vu lo hi sl Q I rx hs pl pu h
  obtain ⟨W, st, x, rfl, r, hx, p⟩ := h
  unfold slF at p
  split at p
  · unfold RV at hx
    obtain ⟨a, vs, rfl, h1, h2⟩ := hx
    split at p
    · exact p.elim
    · rename_i hn
      rw [h2.length] at hn
      refine sl_tup pins s σ _ _ v vl vu lo hi sl Q I rx hs pl pu ⟨a, vs, rfl, h1, hn, fun q hq => ?_⟩
      refine p.at (Ext.lay hq) (r.lay hq) _ ?_
      unfold RV
      exact ⟨q, _, rfl, .inl (.inl upd_same), (cut_sound h2 lo hi).ext (Ext.lay hq)⟩
  · unfold RV at hx
    split at p
    · rename_i xs e
      obtain ⟨vs, h1, h2⟩ := r.at_ _ _ e
      rw [hx.2] at rx
      refine sl_list pins s σ _ _ v vl vu lo hi sl Q I rx hs pl pu ⟨_, vs, rfl, .inl (.inl h1), fun q hq => ?_⟩
      exact p.at (Ext.new hq) (r.newL hq (cut_sound h2 lo hi)) _ (RV.new r)
    · rename_i xs e
      obtain ⟨vs, h1, h2⟩ := r.at_ _ _ e
      rw [hx.2] at rx
      have h1' := Rep.fzL h1
      refine sl_list pins s σ _ _ v vl vu lo hi sl Q I rx hs pl pu ⟨_, vs, rfl, h1', fun q hq => ?_⟩
      exact p.at (Ext.new hq) (r.newL hq (cut_sound h2 lo hi)) _ (RV.new r)
    · exact p.elim
  · exact p.elim
theorem tru_sound : TruR X (fun vx H Q => ∃ W st x, W.H = H ∧ Rep X.K st W ∧ RV X.K W x vx ∧ Post X.K (truF x st) W xq (fun b _ W' => Q b W'.H)) := by
  intro pins s σ H vx v Q I rx h
  obtain ⟨W, st, x, rfl, r, hx, p⟩ := h
  unfold truF at p
  split at p
  · unfold RV at hx; subst hx; cases rx
    exact wpAny_truthy_bool ⟨W.H, I, p.self r⟩
  · unfold RV at hx; subst hx; cases rx
    exact tru_ok pins s σ W.H .non _ Q I rfl ⟨false, rfl, p.self r⟩
  · unfold RV at hx; subst hx
    exact tru_ok pins s σ W.H (.int _) _ Q I rx ⟨_, rfl, p.self r⟩
  · exact p.elim
end
end Ev

namespace Ev
open PySem PySem.Spec L2
/-- the wish about exceptions, for the evaluator -/
def xqE (E : XK) : XQ := fun c _ W => E .none (some c) W.H
def spOf (K : PySem.W.Frag) (g : List T → Sto → Re T) : Sp := fun vs H Q E => ∃ W st ts, W.H = H ∧ Rep K st W ∧ RVs K W ts vs ∧ Post K (g ts st) W (xqE E) (fun t _ W' => ∀ v, RV K W' t v → Q v W'.H)
/-- what the module's classes of exceptions are -/
def xfacts (K : PySem.W.Frag) : Bool := (xcs K).all fun c => excOk K (cA K c) && PySem.W.typeIn K (.ref (cA K c)) == some (.type "type") && PySem.W.excIn K (cA K c) bmV "ValueError.__new__" && PySem.W.nsIn K mainGlobals (xname c) == some (some (.ref (cA K c)))
  && PySem.W.kitOne K (.ref (cA K c)) (.type "ValueError") == some true && (xcs K).all fun d => PySem.W.kitOne K (.ref (cA K c)) (.ref (cA K d)) == some (subX c d) && (!subX c d || PySem.W.mroIn K (cA K c) (.ref (cA K d)) == some true)
structure XFs (K : PySem.W.Frag) : Prop where
  ok : ∀ c ∈ xcs K, excOk K (cA K c) = true
  ty : ∀ c ∈ xcs K, PySem.W.typeIn K (.ref (cA K c)) = some (.type "type")
  ei : ∀ c ∈ xcs K, PySem.W.excIn K (cA K c) bmV "ValueError.__new__" = true
  ns : ∀ c ∈ xcs K, PySem.W.nsIn K mainGlobals (xname c) = some (some (.ref (cA K c)))
  ve : ∀ c ∈ xcs K, PySem.W.kitOne K (.ref (cA K c)) (.type "ValueError") = some true
  sb : ∀ c ∈ xcs K, ∀ d ∈ xcs K, PySem.W.kitOne K (.ref (cA K c)) (.ref (cA K d)) = some (subX c d)
  mr : ∀ c ∈ xcs K, ∀ d ∈ xcs K, subX c d = true → PySem.W.mroIn K (cA K c) (.ref (cA K d)) = some true
theorem XFs.of {K : PySem.W.Frag} (h : xfacts K = true) : XFs K := by
  have h := List.all_eq_true.mp h
  simp only [Bool.and_eq_true, beq_iff_eq, List.all_eq_true, Bool.or_eq_true, Bool.not_eq_true'] at h
  exact ⟨fun c hc => (h c hc).1.1.1.1.1, fun c hc => (h c hc).1.1.1.1.2, fun c hc => (h c hc).1.1.1.2, fun c hc => (h c hc).1.1.2, fun c hc => (h c hc).1.2, fun c hc d hd => ((h c hc).2 d hd).1, fun c hc d hd hs => ((h c hc).2 d hd).2.resolve_left (by rw [hs]; simp)⟩
/-- what a def may use -/
structure Cfg where
  N : List Str
  sc : Scope
  /-- built-in names that the module leaves alone -/
  bl : List Str
  /-- the module's ints -/
  gi : List (Str × Int)
  /-- defs that may be called: their numbers and names -/
  fn : List (Nat × Str)
  /-- the program's classes of exceptions that are named -/
  xc : List Nat
  /-- a def's body (a comprehension's block: false) -/
  stm : Bool := true
/-- the scope of a comprehension's block, as it is relabelled -/
def rlS (sc scope : Scope) : Scope := { scope with names := scope.names.map fun (n, k) => if (k == .free && sc.kind == .function && sc.names.lookup n == some .cell) then (n, .cell) else (n, k) }
def tgB (N : List Str) (sc : Scope) (vs : List Nat) (i : Nat) (x : Str) : Bool := N[i]? == some x && sc.names.lookup x == some .local && vs.contains i
def tgsB (N : List Str) (sc : Scope) (vs : List Nat) : Tg → Bool
  | .nm i x _ => tgB N sc vs i x
  | .tp xs _ _ => xs.all fun q => tgB N sc vs q.1 q.2.1
def visB (sc : Scope) (x : Str) : Bool := match sc.names.lookup x with
  | some .local => true
  | some .cell => true
  | some .free => true
  | _ => false
def glB (sc : Scope) (x : Str) : Bool := match sc.names.lookup x with
  | some .globalImplicit => true
  | _ => false
def locB (sc : Scope) (x : Str) : Bool := match sc.names.lookup x with
  | some .local => true
  | some .cell => true
  | _ => false
def nmB (x : Str) : Bool := !(x == ("__debug__" : Str)) && !(x == ("__classdict__" : Str)) && !(x == ("__name__" : Str))
mutual
def okE (c : Cfg) : Ex → Bool
  | .var i x _ => c.N[i]? == some x && visB c.sc x && nmB x
  | .int _ _ _ => true
  | .bl _ _ _ => true
  | .non _ _ => true
  | .str _ _ _ => true
  | .glo i x _ => c.gi.contains (x, i) && glB c.sc x && nmB x
  | .bin _ a b _ => okE c a && okE c b
  | .neg a _ => okE c a
  | .cmp op a b _ => okE c a && okE c b && (op != .In) && (op != .NotIn)
  | .no a _ => okE c a
  | .and a b _ => okE c a && okE c b
  | .or a b _ => okE c a && okE c b
  | .and3 a b d _ => okE c a && okE c b && okE c d
  | .or3 a b d _ => okE c a && okE c b && okE c d
  | .or4 a b d e _ => okE c a && okE c b && okE c d && okE c e
  | .and4 a b d e _ => okE c a && okE c b && okE c d && okE c e
  | .ifx op k d _ a b _ => okE c k && okE c d && okE c a && okE c b && (op != .In) && (op != .NotIn)
  | .tup xs _ _ => okEs c xs
  | .lst xs _ => okEs c xs
  | .ix a b _ => okE c a && okE c b
  | .slLo a lo _ _ => okE c a && okE c lo
  | .slHi a hi _ _ => okE c a && okE c hi
  | .slLH a lo hi _ _ => okE c a && okE c lo && okE c hi
  | .call f x _ a xs _ => c.fn.contains (f, x) && glB c.sc x && nmB x && okE c a && okEs c xs
  | .bi b _ a _ => c.bl.contains b.nm && glB c.sc b.nm && okE c a && (match b with | .isi _ => false | _ => true)
  | .isi ty _ _ a _ => c.bl.contains "isinstance" && glB c.sc "isinstance" && c.bl.contains ty.nm && glB c.sc ty.nm && okE c a
  | .isx cx _ _ a _ => c.bl.contains "isinstance" && glB c.sc "isinstance" && c.xc.contains cx && glB c.sc (xname cx) && nmB (xname cx) && okE c a
  | .isxs cs _ _ _ a _ => c.bl.contains "isinstance" && glB c.sc "isinstance" && (cs.all fun q => c.xc.contains q.1 && glB c.sc (xname q.1) && nmB (xname q.1)) && okE c a && decide (cs.length ≤ 1000)
  | .isv _ _ a _ => c.bl.contains "isinstance" && glB c.sc "isinstance" && c.bl.contains "ValueError" && glB c.sc "ValueError" && okE c a
  | .app o ap a p => okE c o && okE c a && (ap.endLine == p.line)
  | .mm mx _ a b _ => okE c a && okE c b && c.bl.contains (if mx then "max" else "min") && glB c.sc (if mx then "max" else "min")
  | .lc elt g k a b _ _ sc own _ => (match k with
      | .lst => okE c a
      | .tup => okE c a
      | .rng1 => okE c a && c.bl.contains "range" && glB c.sc "range"
      | .rng2 => okE c a && okE c b && c.bl.contains "range" && glB c.sc "range") && blkC c.N c.sc sc own && (c.sc.kind == .function) && tgsB c.N (rlS c.sc sc) (own.map (·.2)) g && okE { c with sc := rlS c.sc sc, stm := false } elt
  | .dct0 _ => true
  | .dct1 k v _ => okE c k && okE c v
def okEs (c : Cfg) : List Ex → Bool
  | [] => true
  | x :: r => okE c x && okEs c r
end
/-- a def that may be called from X -/
structure CallOk (X : Cx) (x : Str) (g : List T → Sto → Re T) : Prop where
  ex : ∃ (k : Nat) (f : Addr) (fd : FuncData) (ps : List Str), FnOk X.prog X.w X.K X.mg X.base (CXE X.prog X.w X.K) k f fd ps (spOf X.K g) ∧ Room k X.A ∧ X.mg x = some (.ref f) ∧ PySem.W.keepIn X.K (.ref f) = true ∧ Binds X.K fd ps []
structure XOk (X : Cx) (c : Cfg) (Γ : Fns) (E : XK) : Prop where
  N : X.N = c.N
  sc : X.env.scope = c.sc
  nd : c.N.Nodup
  calm : X.calm = true
  un : X.A.units + 64 < cLine
  bl : ∀ x, c.bl.contains x = true → X.mg x = none
  gi : ∀ x i, c.gi.contains (x, i) = true → ∃ t, X.mg x = some (.int i t)
  fn : ∀ f x, c.fn.contains (f, x) = true → CallOk X x (Γ f)
  xp : XP X E
  stm : c.stm = true → (∀ x, X.fn x = true) ∧ X.stack = X.env :: X.outer ∧ X.env.frame = some X.env.locals
  xf : XFs X.K
  xm : ∀ d ∈ xcs X.K, X.mg (xname d) = some (.ref (cA X.K d))
  xk : ∀ d, c.xc.contains d = true → d ∈ xcs X.K
theorem XOk.nox {X : Cx} {c : Cfg} {Γ : Fns} {E : XK} (o : XOk X c Γ E) : XOk X.nox c Γ E0 :=
  ⟨o.N, o.sc, o.nd, o.calm, o.un, o.bl, o.gi, fun f x h => ⟨(o.fn f x h).ex⟩, XP.none, o.stm, o.xf, o.xm, o.xk⟩
/-- the context of a comprehension's block -/
theorem XOk.blk {X : Cx} {c : Cfg} {Γ : Fns} {E : XK} (o : XOk X c Γ E) {sc : Scope} (s : Shared) (H : Hp) (C : Addr) (cl : List (Str × Addr)) (fp : List Addr) : XOk (X.blk s H sc (compEnvC sc cl C X.env) fp) { c with sc := rlS c.sc sc, stm := false } Γ E0 :=
  ⟨o.N, by
    show relabel sc X.env = rlS c.sc sc
    unfold relabel rlS Env.kindOf
    rw [o.sc], o.nd, o.calm, o.un, o.bl, o.gi, fun f x h => ⟨(o.fn f x h).ex⟩, XP.none, (fun z => by cases z), o.xf, o.xm, o.xk⟩
section
variable {X : Cx} {c : Cfg} {Γ : Fns} {xq : XQ} {E : XK}
theorem vis_of {sc : Scope} {x : Str} (h : visB sc x = true) : Vis sc x := by
  unfold visB at h
  split at h <;> first | exact .inl (by assumption) | exact .inr (.inl (by assumption)) | exact .inr (.inr (by assumption)) | cases h
theorem loc_of {sc : Scope} {x : Str} (h : locB sc x = true) : Loc sc x := by
  unfold locB at h
  split at h <;> first | exact .inl (by assumption) | exact .inr (by assumption) | cases h
theorem gl_of (o : XOk X c Γ E) {x : Str} (h : glB c.sc x = true) : Gl X x := by
  unfold glB at h
  split at h
  · rename_i e
    show X.env.scope.names.lookup x = _
    rw [o.sc]; exact e
  · cases h
theorem nm_of {x : Str} (h : nmB x = true) : (x == ("__debug__" : Str)) = false ∧ (x == ("__classdict__" : Str)) = false ∧ x ≠ "__name__" := by
  unfold nmB at h
  rw [Bool.and_eq_true, Bool.and_eq_true] at h
  obtain ⟨⟨h1, h2⟩, h3⟩ := h
  refine ⟨by simpa using h1, by simpa using h2, by simpa using h3⟩
theorem star (x : Ex) (es : List Expr) (env : Env) : starEach (x.e :: es) env = (false, eval x.e env) :: starEach es env := by
  cases x <;> (unfold Ex.e; rfl)
theorem star_any : ∀ (xs : List Ex) (pos : Pos) (env : Env), (backTo pos (starEach (Ex.es xs) env)).any (·.1) = false
  | [], _, _ => by unfold Ex.es; rfl
  | x :: r, pos, env => by
    unfold Ex.es
    rw [star]
    have := star_any r pos env
    show (false || (backTo pos (starEach (Ex.es r) env)).any (·.1)) = false
    rw [this]; rfl
theorem star_all : ∀ (xs : List Ex) (pos : Pos) (env : Env), (backTo pos (starEach (Ex.es xs) env)).all (fun x => !x.1) = true
  | [], _, _ => by unfold Ex.es; rfl
  | x :: r, pos, env => by
    unfold Ex.es
    rw [star]
    have := star_all r pos env
    show (true && (backTo pos (starEach (Ex.es r) env)).all (fun x => !x.1)) = true
    rw [this]; rfl
theorem plainIx (x : Ex) : PlainIx x.e := by
  cases x <;> (intro o i; unfold Ex.e; rfl)
/-- tests of expressions that are tested by their value -/
theorem tA_nil : PA X [] (tAs X.K xq (fun _ st => ok [] st)) := PA_weak pa_nil fun σ H Q h => by
  obtain ⟨W, ρ, st, rfl, r, l, p⟩ := h
  exact p.self r [] RVs.nil
theorem tA_cons {x : Ex} {es : List Expr} {fa : Lo → Sto → Re T} {fr : Lo → Sto → Re (List T)} (ha : PE X x.e (tE X.K xq fa)) (hr : PA X es (tAs X.K xq fr)) :
    PA X (x.e :: es) (tAs X.K xq (fun ρ st => bnd (fa ρ st) fun t st => bnd (fr ρ st) fun ts st => ok (t :: ts) st)) := PA_weak (pa_cons ha hr (star x es X.env)) fun σ H Q h => by
  obtain ⟨W, ρ, st, rfl, r, l, p⟩ := h
  refine ⟨W, ρ, st, rfl, r, l, p.bnd.imp fun t st1 W1 e1 r1 p1 v hv => ?_⟩
  refine ⟨W1, ρ, st1, rfl, r1, l.ext e1, p1.bnd.imp fun ts st2 W2 e2 r2 p2 vs hvs => ?_⟩
  exact p2.self r2 _ (RVs.cons (hv.ext e2) hvs)

theorem un_sound : UnR X (unaryOp .USub) (r1 X.K xq (unF .USub)) := by
  intro pins s σ H vx v Q I rx h
  obtain ⟨W, st, x, rfl, r, hx, p⟩ := h
  unfold unF at p
  split at p
  · unfold RV at hx; subst hx
    exact un_neg pins s σ _ _ v Q I rx ⟨_, rfl, p.self r _ (by unfold RV; rfl)⟩
  · exact p.elim
/-- the facts about isinstance of built-in types -/
def isiFact (h : String) (ty : Ty) : Prop := ∀ K : PySem.W.Frag, PySem.W.kitOne K (.type h) (.type ty.name) = some (isTy h ty)
theorem isi_facts (h : String) (ty : Ty) (hh : h ∈ ["NoneType", "bool", "int", "str", "tuple", "list", "dict"]) : isiFact h ty := by
  intro K
  simp only [List.mem_cons, List.not_mem_nil, or_false] at hh
  rcases hh with rfl | rfl | rfl | rfl | rfl | rfl | rfl <;> cases ty <;> with_unfolding_all rfl
end
end Ev

namespace Ev
open PySem PySem.Spec L2
section
variable {X : Cx} {c : Cfg} {Γ : Fns} {xq : XQ}
theorem ty_sound {pins : List (Addr × Obj)} {s : Shared} {σ : L2.St} {W : Wd} {st : Sto} {x : T} {v : V} {u : Value} {h : String} (I : Inv X pins σ W.H s) (r : Rep X.K st W) (hx : RV X.K W x v) (ru : RelV v u) (e : tyOf x st = some h) :
    h ∈ ["NoneType", "bool", "int", "str", "tuple", "list", "dict"] ∧ u ≠ .builtin "__main__.__loader__#opaque" ∧ ∃ P : Heap → Prop, PySem.W.KitX X.K u (.type h) P ∧ P s.heap := by
  unfold tyOf at e
  split at e
  · cases e; unfold RV at hx; subst hx; cases ru
    exact ⟨(by simp), (by intro z; cases z), _, PySem.W.kitx_none, trivial⟩
  · cases e; unfold RV at hx; subst hx; cases ru
    exact ⟨(by simp), (by intro z; cases z), _, PySem.W.kitx_bool, trivial⟩
  · cases e; unfold RV at hx; subst hx; obtain ⟨t, rfl⟩ := ru
    exact ⟨(by simp), (by intro z; cases z), _, PySem.W.kitx_int, trivial⟩
  · cases e; unfold RV at hx; subst hx; obtain ⟨t, rfl⟩ := ru
    exact ⟨(by simp), (by intro z; cases z), _, PySem.W.kitx_str, trivial⟩
  · cases e; unfold RV at hx
    obtain ⟨a, vs, rfl, h1, h2⟩ := hx
    cases ru
    obtain ⟨its, _, ⟨o, ho, hc, _⟩, _⟩ := I.tuple h1
    exact ⟨(by simp), (by intro z; cases z), _, PySem.W.kitx_tuple, ⟨o, ho, hc⟩⟩
  · rename_i n
    unfold RV at hx
    rw [hx.2] at ru
    cases ru
    split at e
    · rename_i xs e'
      cases e
      obtain ⟨vs, h1, h2⟩ := r.at_ _ _ e'
      obtain ⟨its, _, ⟨o, _, ho, hc, _⟩, _⟩ := I.list (xs := vs) (.inl (.inl h1))
      exact ⟨(by simp), (by intro z; cases z), _, PySem.W.kitx_list, ⟨o, ho, hc⟩⟩
    · rename_i xs e'
      cases e
      obtain ⟨vs, h1, h2⟩ := r.at_ _ _ e'
      obtain ⟨its, _, ⟨o, _, ho, hc, _⟩, _⟩ := I.list (Rep.fzL h1)
      exact ⟨(by simp), (by intro z; cases z), _, PySem.W.kitx_list, ⟨o, ho, hc⟩⟩
    · rename_i kvs e'
      cases e
      obtain ⟨vs, h1, h2⟩ := r.at_ _ _ e'
      obtain ⟨_, _, _, _, o, _, _, ho, ex, _⟩ := I.hok _ _ h1
      exact ⟨(by simp), (by intro z; cases z), _, PySem.W.kitx_dict, ⟨o, ho, ex.1⟩⟩
    · cases e
  · cases e
theorem isi_sound (ty : Ty) : CallR X (.builtin "isinstance") (fun vs H Q => ∃ W st x vx, vs = [vx, .ty ty.name] ∧ W.H = H ∧ Rep X.K st W ∧ RV X.K W x vx ∧ Post X.K (biF (.isi ty) [x] st) W xq (fun t _ W' => ∀ v, RV X.K W' t v → Q v W'.H)) := by
  intro pins s σ H vs us Q I rv h
  obtain ⟨W, st, x, vx, rfl, rfl, r, hx, p⟩ := h
  cases rv with
  | cons ru rr => cases rr with
    | cons rt rr =>
      cases rr
      cases rt
      unfold biF at p
      simp only at p
      split at p
      · rename_i h e
        obtain ⟨hm, hne, P, Z, hp⟩ := ty_sound I r hx ru e
        refine PySem.W.kia_one Z I.kIn hp (isi_facts h ty hm X.K) hne fun tk => ?_
        exact ⟨.bl _, W.H, I.tok _, rfl, p.self r _ (by unfold RV; rfl)⟩
      · exact p.elim
theorem lst_sound {K : PySem.W.Frag} {W : Wd} {st : Sto} (r : Rep K st W) {n : Nat} {xs : List T} {v : V} (h : RV K W (.ref n) v) (e : seq? (.ref n) st = some xs) : ∃ a vs, v = .ref a ∧ RVs K W xs vs ∧ SqL K W.H a vs := by
  unfold RV at h
  unfold seq? at e
  dsimp only at e
  split at e
  · rename_i e'
    cases e
    obtain ⟨vs, h1, h2⟩ := r.at_ _ _ e'
    exact ⟨_, vs, h.2, h2, .inl (.inl h1)⟩
  · rename_i e'
    cases e
    obtain ⟨vs, h1, h2⟩ := r.at_ _ _ e'
    exact ⟨_, vs, h.2, h2, Rep.fzL h1⟩
  · cases e
theorem bi_fun (hc : X.calm = true) (b : Bi) (h : match b with | .len => True | .abs => True | .all => True | .any => True | _ => False) : ∃ id, bootBuiltins b.nm = some (.builtin id) ∧ CallR X (.builtin id) (rs X.K xq (biF b)) := by
  cases b with
  | len =>
    refine ⟨"len", by decide +kernel, ?_⟩
    intro pins s σ H vs us Q I rv h
    obtain ⟨W, st, xs, rfl, r, hx, p⟩ := h
    unfold biF at p
    split at p
    · rename_i e; cases e
      unfold RVs at hx
      obtain ⟨v, q, rfl, h1, h2⟩ := hx
      unfold RVs at h2; subst h2
      split at p
      · unfold RV at h1; subst h1
        split at p
        · rename_i hl
          exact call_len pins s σ _ _ us Q I rv ⟨_, _, rfl, ⟨hl, rfl⟩, p.self r _ (by unfold RV; rfl)⟩
        · exact p.elim
      · split at p
        · rename_i ys e
          obtain ⟨a, ws, rfl, h3, h4⟩ := seq_sound r h1 e
          refine call_len pins s σ _ _ us Q I rv ⟨_, ws.length, rfl, ?_, ?_⟩
          · rcases h4 with h4 | h4
            · exact .inl ⟨_, h4, rfl⟩
            · exact .inr ⟨_, h4, rfl⟩
          · rw [← h3.length]
            exact p.self r _ (by unfold RV; rfl)
        · exact p.elim
    all_goals (rename_i e; first | (cases e; done) | exact p.elim)
  | abs =>
    refine ⟨"abs", by decide +kernel, ?_⟩
    intro pins s σ H vs us Q I rv h
    obtain ⟨W, st, xs, rfl, r, hx, p⟩ := h
    unfold biF at p
    split at p
    all_goals first | (exact p.elim) | skip
    all_goals (rename_i e; first | (cases e; done) | skip)
    unfold RVs at hx
    obtain ⟨v, q, rfl, h1, h2⟩ := hx
    unfold RVs at h2; subst h2
    unfold RV at h1; subst h1
    exact call_abs pins s σ _ _ us Q I rv ⟨_, rfl, p.self r _ (by unfold RV; rfl)⟩
  | all =>
    refine ⟨"all", by decide +kernel, ?_⟩
    intro pins s σ H vs us Q I rv h
    obtain ⟨W, st, xs, rfl, r, hx, p⟩ := h
    unfold biF at p
    split at p
    all_goals first | (exact p.elim) | skip
    all_goals (rename_i e; first | (cases e; done) | skip)
    unfold RVs at hx
    obtain ⟨v, q, rfl, h1, h2⟩ := hx
    unfold RVs at h2; subst h2
    split at p
    · rename_i bs eb
      unfold lbools at eb
      split at eb
      · rename_i ys es
        have hq := lst_sound r h1 es
        obtain ⟨a, ws, rfl, h3, h4⟩ := hq
        rw [h3.bools eb] at h4
        exact cr_all hc pins s σ _ _ us Q I rv ⟨a, bs, rfl, h4, p.self r _ (by unfold RV; rfl)⟩
      · cases eb
    · exact p.elim
  | any =>
    refine ⟨"any", by decide +kernel, ?_⟩
    intro pins s σ H vs us Q I rv h
    obtain ⟨W, st, xs, rfl, r, hx, p⟩ := h
    unfold biF at p
    split at p
    all_goals first | (exact p.elim) | skip
    all_goals (rename_i e; first | (cases e; done) | skip)
    unfold RVs at hx
    obtain ⟨v, q, rfl, h1, h2⟩ := hx
    unfold RVs at h2; subst h2
    split at p
    · rename_i bs eb
      unfold lbools at eb
      split at eb
      · rename_i ys es
        have hq := lst_sound r h1 es
        obtain ⟨a, ws, rfl, h3, h4⟩ := hq
        rw [h3.bools eb] at h4
        exact cr_any hc pins s σ _ _ us Q I rv ⟨a, bs, rfl, h4, p.self r _ (by unfold RV; rfl)⟩
      · cases eb
    · exact p.elim
  | _ => exact h.elim
theorem bi_ty (b : Bi) (h : match b with | .str => True | .int => True | .list => True | .tuple => True | _ => False) : ∃ id, bootBuiltins b.nm = some (.type id) ∧ CallR X (.type id) (rs X.K xq (biF b)) := by
  cases b with
  | str =>
    refine ⟨"str", by decide +kernel, ?_⟩
    intro pins s σ H vs us Q I rv h
    obtain ⟨W, st, xs, rfl, r, hx, p⟩ := h
    unfold biF at p
    split at p
    all_goals first | (exact p.elim) | skip
    all_goals (rename_i e; first | (cases e; done) | skip)
    split at p
    · rename_i hl
      unfold RVs at hx
      obtain ⟨v, q, rfl, h1, h2⟩ := hx
      unfold RVs at h2; subst h2
      unfold RV at h1; subst h1
      exact call_str_int pins s σ _ _ us Q I rv ⟨_, rfl, hl, p.self r _ (by unfold RV; rfl)⟩
    · exact p.elim
  | int =>
    refine ⟨"int", by decide +kernel, ?_⟩
    intro pins s σ H vs us Q I rv h
    obtain ⟨W, st, xs, rfl, r, hx, p⟩ := h
    unfold biF at p
    split at p
    all_goals first | (exact p.elim) | skip
    all_goals (rename_i e; first | (cases e; done) | skip)
    · unfold RVs at hx
      obtain ⟨v, q, rfl, h1, h2⟩ := hx
      unfold RVs at h2; subst h2
      unfold RV at h1; subst h1
      exact call_int1 pins s σ _ _ us Q I rv (.inl ⟨_, rfl, p.self r _ (by unfold RV; rfl)⟩)
    · unfold RVs at hx
      obtain ⟨v, q, rfl, h1, h2⟩ := hx
      unfold RVs at h2; subst h2
      unfold RV at h1; subst h1
      exact call_int1 pins s σ _ _ us Q I rv (.inr ⟨_, rfl, p.self r _ (by unfold RV; rfl)⟩)
  | list =>
    refine ⟨"list", by decide +kernel, ?_⟩
    intro pins s σ H vs us Q I rv h
    obtain ⟨W, st, xs, rfl, r, hx, p⟩ := h
    unfold biF at p
    split at p
    all_goals first | (exact p.elim) | skip
    all_goals (rename_i e; first | (cases e; done) | skip)
    split at p
    · rename_i ys e
      unfold RVs at hx
      obtain ⟨v, q, rfl, h1, h2⟩ := hx
      unfold RVs at h2; subst h2
      obtain ⟨a, ws, rfl, h3, h4⟩ := seq_sound r h1 e
      refine call_list_of pins s σ _ _ us Q I rv ⟨a, ws, rfl, h4, fun q hq => ?_⟩
      exact p.at (Ext.new hq) (r.newL hq h3) _ (RV.new r)
    · exact p.elim
  | tuple =>
    refine ⟨"tuple", by decide +kernel, ?_⟩
    intro pins s σ H vs us Q I rv h
    obtain ⟨W, st, xs, rfl, r, hx, p⟩ := h
    have key : ∀ {n : Nat} {ys : List T} {a : Addr} {ws : List V}, xs = [.ref n] → vs = [.ref a] → SqL X.K W.H a ws → RVs X.K W ys ws → Post X.K (ok (.tup ys) st) W xq (fun t _ W' => ∀ v, RV X.K W' t v → Q v W'.H) → wpAny (model X.prog X.w) X.A (call (.type "tuple") us) (EP X pins σ Q) X.xe s := fun {n ys a ws} e1 e2 h4 h3 p => by
      subst e2
      refine call_tuple_of pins s σ _ _ us Q I rv ⟨a, ws, rfl, .inl ⟨h4, fun q hq => ?_⟩⟩
      refine p.at (Ext.lay hq) (r.lay hq) _ ?_
      unfold RV
      exact ⟨q, ws, rfl, .inl (.inl upd_same), h3.ext (Ext.lay hq)⟩
    unfold biF at p
    split at p
    all_goals first | (exact p.elim) | skip
    all_goals (rename_i e; first | (cases e; done) | skip)
    · unfold RVs at hx
      obtain ⟨v, q, rfl, h1, h2⟩ := hx
      unfold RVs at h2; subst h2
      have h1' := h1
      unfold RV at h1
      obtain ⟨a, ws, rfl, h3, h4⟩ := h1
      exact call_tuple_of pins s σ _ _ us Q I rv ⟨a, ws, rfl, .inr ⟨h3, p.self r _ h1'⟩⟩
    · unfold RVs at hx
      obtain ⟨v, q, rfl, h1, h2⟩ := hx
      unfold RVs at h2; subst h2
      unfold RV at h1
      rw [h1.2] at rv
      split at p
      · rename_i e
        obtain ⟨ws, h3, h4⟩ := r.at_ _ _ e
        exact key rfl (by rw [h1.2]) (.inl (.inl h3)) h4 p
      · rename_i e
        obtain ⟨ws, h3, h4⟩ := r.at_ _ _ e
        exact key rfl (by rw [h1.2]) (Rep.fzL h3) h4 p
      · exact p.elim
  | _ => exact h.elim

def isTyV : Value → Bool
  | .type _ => true
  | _ => false
theorem mro_types (h : String) (hh : h ∈ ["NoneType", "bool", "int", "str", "tuple", "list", "dict"]) : (fastBuiltinMro h).map (fun l => l.all isTyV) = some true := by
  simp only [List.mem_cons, List.not_mem_nil, or_false] at hh
  rcases hh with rfl | rfl | rfl | rfl | rfl | rfl | rfl <;> with_unfolding_all rfl
theorem cls_facts {K : PySem.W.Frag} (xf : XFs K) {d : Nat} (hd : d ∈ xcs K) (h : String) (hh : h ∈ ["NoneType", "bool", "int", "str", "tuple", "list", "dict"]) : PySem.W.kitOne K (.type h) (.ref (cA K d)) = some false := by
  have ho := xf.ok d hd
  unfold excOk at ho
  simp only [Bool.and_eq_true, beq_iff_eq] at ho
  have hm := mro_types h hh
  unfold PySem.W.kitOne
  rw [if_neg (by simp)]
  unfold PySem.W.kitCls
  dsimp only
  rw [if_pos (by rw [Bool.and_eq_true]; exact ⟨ho.2, beq_iff_eq.mpr (xf.ty d hd)⟩)]
  unfold PySem.W.subIn
  dsimp only
  cases q : fastBuiltinMro h with
  | none => rw [q] at hm; cases hm
  | some l =>
    rw [q] at hm
    have hm : l.all isTyV = true := Option.some.inj hm
    show some (l.contains _) = some false
    congr 1
    refine Bool.eq_false_iff.mpr fun z => ?_
    have := List.all_eq_true.mp hm _ (List.contains_iff_mem.mp z)
    cases this
theorem val_facts (K : PySem.W.Frag) (h : String) (hh : h ∈ ["NoneType", "bool", "int", "str", "tuple", "list", "dict"]) : PySem.W.kitOne K (.type h) (.type "ValueError") = some false := by
  simp only [List.mem_cons, List.not_mem_nil, or_false] at hh
  rcases hh with rfl | rfl | rfl | rfl | rfl | rfl | rfl <;> with_unfolding_all rfl
theorem any_facts {K : PySem.W.Frag} {t : Value} {g : Nat → Bool} : ∀ (cs : List Nat), (∀ d ∈ cs, PySem.W.kitOne K t (.ref (cA K d)) = some (g d)) → PySem.W.kitAny K t (cs.map fun d => Value.ref (cA K d)) = some (cs.any g)
  | [], _ => rfl
  | d :: r, h => by
    have h1 := h d List.mem_cons_self
    have h2 := any_facts r fun e he => h e (List.mem_cons_of_mem _ he)
    show (match PySem.W.kitOne K t (.ref (cA K d)) with | some true => some true | some false => PySem.W.kitAny K t (r.map fun d => Value.ref (cA K d)) | none => none) = some (g d || r.any g)
    rw [h1]
    cases g d with
    | true => rfl
    | false => exact h2
theorem exc_hok {pins : List (Addr × Obj)} {s : Shared} {σ : L2.St} {W : Wd} {c : Nat} {a : Addr} (I : Inv X pins σ W.H s) (h : W.H a = some (IsX X.K c a)) : ExcAt s.heap a (cA X.K c) := (I.hok _ _ h).1
theorem isx_sound {xq : XQ} {cx : Nat} (xf : XFs X.K) (hcx : cx ∈ xcs X.K) : CallR X (.builtin "isinstance") (fun vs H Q => ∃ W st x vx, vs = [vx, .ref (cA X.K cx)] ∧ W.H = H ∧ Rep X.K st W ∧ RV X.K W x vx ∧ Post X.K (isxF [cx] x st) W xq (fun t _ W' => ∀ v, RV X.K W' t v → Q v W'.H)) := by
  intro pins s σ H vs us Q I rv h
  obtain ⟨W, st, x, vx, rfl, rfl, r, hx, p⟩ := h
  cases rv with
  | cons ru rr => cases rr with
    | cons rt rr =>
      cases rr
      cases rt
      unfold isxF at p
      split at p
      · rename_i c
        unfold RV at hx
        obtain ⟨a, rfl, h1, h2⟩ := hx
        cases ru
        refine PySem.W.kia_one (kitx_exc (xf.ok c h2)) I.kIn (exc_hok I h1) (xf.sb c h2 cx hcx) (by intro z; cases z) fun tk => ?_
        exact ⟨.bl _, W.H, I.tok _, rfl, p.self r _ (by unfold RV; simp)⟩
      · split at p
        · rename_i h e
          obtain ⟨hm, hne, P, Z, hp⟩ := ty_sound I r hx ru e
          refine PySem.W.kia_one Z I.kIn hp (cls_facts xf hcx h hm) hne fun tk => ?_
          exact ⟨.bl _, W.H, I.tok _, rfl, p.self r _ (by unfold RV; rfl)⟩
        · exact p.elim
theorem isv_sound {xq : XQ} (xf : XFs X.K) : CallR X (.builtin "isinstance") (fun vs H Q => ∃ W st x vx, vs = [vx, .ty "ValueError"] ∧ W.H = H ∧ Rep X.K st W ∧ RV X.K W x vx ∧ Post X.K (isvF x st) W xq (fun t _ W' => ∀ v, RV X.K W' t v → Q v W'.H)) := by
  intro pins s σ H vs us Q I rv h
  obtain ⟨W, st, x, vx, rfl, rfl, r, hx, p⟩ := h
  cases rv with
  | cons ru rr => cases rr with
    | cons rt rr =>
      cases rr
      cases rt
      unfold isvF at p
      split at p
      · rename_i c
        unfold RV at hx
        obtain ⟨a, rfl, h1, h2⟩ := hx
        cases ru
        refine PySem.W.kia_one (kitx_exc (xf.ok _ h2)) I.kIn (exc_hok I h1) (xf.ve _ h2) (by intro z; cases z) fun tk => ?_
        exact ⟨.bl _, W.H, I.tok _, rfl, p.self r _ (by unfold RV; rfl)⟩
      · split at p
        · rename_i h e
          obtain ⟨hm, hne, P, Z, hp⟩ := ty_sound I r hx ru e
          refine PySem.W.kia_one Z I.kIn hp (val_facts X.K h hm) hne fun tk => ?_
          exact ⟨.bl _, W.H, I.tok _, rfl, p.self r _ (by unfold RV; rfl)⟩
        · exact p.elim
theorem refs_eq {K : PySem.W.Frag} : ∀ {cs : List Nat} {us : List Value}, Vals (cs.map fun d => V.ref (cA K d)) us → us = cs.map fun d => Value.ref (cA K d)
  | [], _, .nil => rfl
  | c :: r, _, .cons h t => by
    cases h
    rw [refs_eq t]; rfl
theorem isxs_sound {xq : XQ} {cs : List Nat} (xf : XFs X.K) (hcs : ∀ d ∈ cs, d ∈ xcs X.K) : CallR X (.builtin "isinstance") (fun vs H Q => ∃ W st x vx tp, vs = [vx, .ref tp] ∧ W.H = H ∧ SqT X.K W.H tp (cs.map fun d => V.ref (cA X.K d)) ∧ Rep X.K st W ∧ RV X.K W x vx ∧ Post X.K (isxF cs x st) W xq (fun t _ W' => ∀ v, RV X.K W' t v → Q v W'.H)) := by
  intro pins s σ H vs us Q I rv h
  obtain ⟨W, st, x, vx, tp, rfl, rfl, hq, r, hx, p⟩ := h
  cases rv with
  | cons ru rr => cases rr with
    | cons rt rr =>
      cases rr
      cases rt
      obtain ⟨its, rits, ⟨ob, ho, hc, n, hd⟩, _⟩ := I.tuple hq
      obtain ⟨oc, od, oda, osl⟩ := ob
      dsimp only at hc hd
      subst hc hd
      rw [refs_eq rits] at ho
      unfold isxF at p
      split at p
      · rename_i c
        unfold RV at hx
        obtain ⟨a, rfl, h1, h2⟩ := hx
        cases ru
        refine PySem.W.kia_tup (kitx_exc (xf.ok c h2)) I.kIn (exc_hok I h1) ho (any_facts cs fun d hd => xf.sb c h2 d (hcs d hd)) (by intro z; cases z) fun tk => ?_
        exact ⟨.bl _, W.H, I.tok _, rfl, p.self r _ (by unfold RV; rfl)⟩
      · split at p
        · rename_i h e
          obtain ⟨hm, hne, P, Z, hp⟩ := ty_sound I r hx ru e
          refine PySem.W.kia_tup Z I.kIn hp ho (any_facts (g := fun _ => false) cs fun d hd => cls_facts xf (hcs d hd) h hm) hne fun tk => ?_
          refine ⟨.bl _, W.H, I.tok _, rfl, p.self r _ ?_⟩
          unfold RV
          have : (cs.any fun _ => false) = false := by induction cs <;> simp_all
          rw [this]
        · exact p.elim
end
end Ev

namespace Ev
open PySem PySem.Spec L2
section
variable {xq : XQ}
theorem and2 {a b : Bool} (h : (a && b) = true) : a = true ∧ b = true := by rwa [Bool.and_eq_true] at h
theorem Post.ifT {α : Type} {K : PySem.W.Frag} {W : Wd} {Q : α → Sto → Wd → Prop} {P : Prop} [Decidable P] {r : Re α} (h : Post K (if P then r else none) W xq Q) : P ∧ Post K r W xq Q := by
  by_cases hp : P
  · rw [if_pos hp] at h; exact ⟨hp, h⟩
  · rw [if_neg hp] at h; exact h.elim
end
def gsOf : List (Nat × Str × Pos) → TGs
  | [] => gNil
  | q :: r => gCons (gName q.1) (gsOf r)
def gOf (K : PySem.W.Frag) : Tg → TG
  | .nm i _ _ => gName i
  | .tp xs _ _ => gTup K xs.length (gsOf xs)
theorem gs_set {K : PySem.W.Frag} {W : Wd} {Q : L2.St → Hp → Prop} : ∀ (xs : List (Nat × Str × Pos)) {ts : List T} {vs : List V} {ρ ρ' : Lo} {σ : L2.St}, setMany xs ts ρ = some ρ' → RVs K W ts vs → RL K W ρ σ → (∀ σ', RL K W ρ' σ' → Q σ' W.H) → gsOf xs vs σ W.H Q
  | [], ts, vs, ρ, ρ', σ, e, hv, l, q => by
    cases ts with
    | nil =>
      unfold setMany at e; cases e
      unfold RVs at hv
      exact ⟨hv, q σ l⟩
    | cons t r => unfold setMany at e; cases e
  | p :: r, ts, vs, ρ, ρ', σ, e, hv, l, q => by
    cases ts with
    | nil => unfold setMany at e; cases e
    | cons t ts =>
      unfold setMany at e
      unfold RVs at hv
      obtain ⟨v, vr, rfl, h1, h2⟩ := hv
      exact ⟨v, vr, rfl, gs_set r e h2 (l.set h1 p.1) q⟩
theorem setMany_len : ∀ (xs : List (Nat × Str × Pos)) {ts : List T} {ρ ρ' : Lo}, setMany xs ts ρ = some ρ' → ts.length = xs.length
  | [], [], _, _, _ => rfl
  | [], _ :: _, _, _, e => by unfold setMany at e; cases e
  | _ :: _, [], _, _, e => by unfold setMany at e; cases e
  | p :: r, t :: ts, ρ, ρ', e => by
    unfold setMany at e
    simp [setMany_len r e]
theorem g_set {K : PySem.W.Frag} {W : Wd} {Q : L2.St → Hp → Prop} (g : Tg) {t : T} {v : V} {ρ ρ' : Lo} {σ : L2.St} (e : g.set t ρ = some ρ') (hv : RV K W t v) (l : RL K W ρ σ) (q : ∀ σ', RL K W ρ' σ' → Q σ' W.H) : gOf K g v σ W.H Q := by
  cases g with
  | nm i x p =>
    unfold Tg.set at e
    cases e
    exact q _ (l.set hv i)
  | tp xs k p =>
    unfold Tg.set at e
    dsimp only at e
    split at e
    · unfold RV at hv
      obtain ⟨a, vs, rfl, h1, h2⟩ := hv
      exact ⟨a, vs, rfl, h1, by rw [← h2.length, setMany_len xs e], gs_set xs e h2 l q⟩
    · cases e
mutual
theorem eqL_eq : ∀ {x y : T}, eqL x y = true → x = y
  | .non, .non, _ => rfl
  | .bl a, .bl b, h => by unfold eqL at h; rw [beq_iff_eq.mp h]
  | .int a, .int b, h => by unfold eqL at h; rw [of_decide_eq_true h]
  | .str a, .str b, h => by unfold eqL at h; rw [of_decide_eq_true h]
  | .tup xs, .tup ys, h => by unfold eqL at h; rw [eqLs_eq h]
  | .ref a, .ref b, h => by unfold eqL at h; rw [beq_iff_eq.mp h]
  | .exc a, .exc b, h => by unfold eqL at h; rw [beq_iff_eq.mp h]
  | .non, .bl _, h | .non, .int _, h | .non, .str _, h | .non, .tup _, h | .non, .ref _, h | .non, .exc _, h => by unfold eqL at h; cases h
  | .bl _, .non, h | .bl _, .int _, h | .bl _, .str _, h | .bl _, .tup _, h | .bl _, .ref _, h | .bl _, .exc _, h => by unfold eqL at h; cases h
  | .int _, .non, h | .int _, .bl _, h | .int _, .str _, h | .int _, .tup _, h | .int _, .ref _, h | .int _, .exc _, h => by unfold eqL at h; cases h
  | .str _, .non, h | .str _, .bl _, h | .str _, .int _, h | .str _, .tup _, h | .str _, .ref _, h | .str _, .exc _, h => by unfold eqL at h; cases h
  | .tup _, .non, h | .tup _, .bl _, h | .tup _, .int _, h | .tup _, .str _, h | .tup _, .ref _, h | .tup _, .exc _, h => by unfold eqL at h; cases h
  | .ref _, .non, h | .ref _, .bl _, h | .ref _, .int _, h | .ref _, .str _, h | .ref _, .tup _, h | .ref _, .exc _, h => by unfold eqL at h; cases h
  | .exc _, .non, h | .exc _, .bl _, h | .exc _, .int _, h | .exc _, .str _, h | .exc _, .tup _, h | .exc _, .ref _, h => by unfold eqL at h; cases h
theorem eqLs_eq : ∀ {xs ys : List T}, eqLs xs ys = true → xs = ys
  | [], [], _ => rfl
  | x :: xs, y :: ys, h => by
    unfold eqLs at h
    obtain ⟨h1, h2⟩ := and2 h
    rw [eqL_eq h1, eqLs_eq h2]
  | [], _ :: _, h => by unfold eqLs at h; cases h
  | _ :: _, [], h => by unfold eqLs at h; cases h
end
mutual
theorem eqL_refl : ∀ (x : T), eqL x x = true
  | .non => by unfold eqL; rfl
  | .bl a => by unfold eqL; simp
  | .int a => by unfold eqL; simp
  | .str a => by unfold eqL; simp
  | .tup xs => by unfold eqL; exact eqLs_refl xs
  | .ref a => by unfold eqL; simp
  | .exc a => by unfold eqL; simp
theorem eqLs_refl : ∀ (xs : List T), eqLs xs xs = true
  | [] => by unfold eqLs; rfl
  | x :: xs => by unfold eqLs; rw [eqL_refl x, eqLs_refl xs]; rfl
end
theorem rngT_get (n : Nat) : ∀ (lo : Int) (i : Nat), (rngT lo n)[i]? = if i < n then some (.int (lo + i)) else none := by
  induction n with
  | zero => intro lo i; unfold rngT; simp
  | succ n ih =>
    intro lo i
    unfold rngT
    cases i with
    | zero => simp
    | succ i =>
      rw [List.getElem?_cons_succ, ih]
      by_cases h : i < n
      · rw [if_pos h, if_pos (by omega)]
        have : lo + 1 + (i : Int) = lo + ((i + 1 : Nat) : Int) := by omega
        rw [this]
      · rw [if_neg h, if_neg (by omega)]
theorem rngT_len (n : Nat) : ∀ (lo : Int), (rngT lo n).length = n := by
  induction n with
  | zero => intro lo; rfl
  | succ n ih => intro lo; unfold rngT; rw [List.length_cons, ih]

theorem RL.setN {K : PySem.W.Frag} {W : Wd} {ρ : Lo} {σ : L2.St} (h : RL K W ρ σ) (i : Nat) : RL K W (ρ.set i none) (σ.set i none) := by
  refine ⟨by simp [h.1], fun j u q => ?_⟩
  by_cases e : i = j
  · subst e
    by_cases hi : i < ρ.length
    · rw [List.getElem?_set_self hi] at q
      cases q
    · rw [List.getElem?_eq_none (by simp; omega)] at q
      cases q
  · rw [List.getElem?_set_ne e] at q ⊢
    exact h.2 j u q
theorem RL.wipe {K : PySem.W.Frag} {W : Wd} {ρ : Lo} {σ : L2.St} (h : RL K W ρ σ) : ∀ vs : List Nat, RL K W (wipeL ρ vs) (wipe σ vs)
  | [] => h
  | v :: vs => (RL.wipe h vs).setN v
theorem wipe_set {i : Nat} {x : Option V} : ∀ {vs : List Nat} {σ : L2.St}, i ∈ vs → wipe (σ.set i x) vs = wipe σ vs
  | [], σ, h => by cases h
  | v :: vs, σ, h => by
    unfold wipe
    by_cases hi : i = v
    · subst hi
      by_cases hm : i ∈ vs
      · rw [wipe_set hm]
      · have : ∀ (vs : List Nat), i ∉ vs → wipe (σ.set i x) vs = (wipe σ vs).set i x := by
          intro vs
          induction vs with
          | nil => intro _; rfl
          | cons u r ih =>
            intro hn
            unfold wipe
            rw [ih (fun z => hn (List.mem_cons_of_mem _ z)), List.set_comm _ _ (fun z => hn (by rw [z]; exact List.mem_cons_self))]
        rw [this vs hm, List.set_set]
    · rcases List.mem_cons.mp h with z | z
      · exact absurd z hi
      · rw [wipe_set z]
/-- what an iterator yields, for the evaluator -/
structure ItOk (K : PySem.W.Frag) (J : L2.It) (W0 : Wd) (items : List T) (src : Sto → Bool) : Prop where
  go : ∀ (i : Nat) (t : T) (W : Wd) (st : Sto), Ext W0 W → Rep K st W → src st = true → items[i]? = some t → J.go i W.H ∧ ∀ x H', J.yld i W.H x H' → H' = W.H ∧ RV K W t x
  stop : ∀ (W : Wd) (st : Sto), Ext W0 W → Rep K st W → src st = true → J.stop items.length W.H
def tgIn (vs : List Nat) : Tg → Bool
  | .nm i _ _ => vs.contains i
  | .tp xs _ _ => xs.all fun q => vs.contains q.1
theorem gs_wipe {K : PySem.W.Frag} {W : Wd} {Q : L2.St → Hp → Prop} {ws : List Nat} : ∀ (xs : List (Nat × Str × Pos)) {ts : List T} {vs : List V} {ρ ρ' : Lo} {σ : L2.St}, (xs.all fun q => ws.contains q.1) = true → setMany xs ts ρ = some ρ' → RVs K W ts vs → RL K W ρ σ → (∀ σ', RL K W ρ' σ' → wipe σ' ws = wipe σ ws → Q σ' W.H) → gsOf xs vs σ W.H Q
  | [], ts, vs, ρ, ρ', σ, _, e, hv, l, q => by
    cases ts with
    | nil =>
      unfold setMany at e; cases e
      unfold RVs at hv
      exact ⟨hv, q σ l rfl⟩
    | cons t r => unfold setMany at e; cases e
  | p :: r, ts, vs, ρ, ρ', σ, hw, e, hv, l, q => by
    rw [List.all_cons] at hw
    obtain ⟨h1, h2⟩ := and2 hw
    cases ts with
    | nil => unfold setMany at e; cases e
    | cons t ts =>
      unfold setMany at e
      unfold RVs at hv
      obtain ⟨v, vr, rfl, g1, g2⟩ := hv
      exact ⟨v, vr, rfl, gs_wipe r h2 e g2 (l.set g1 p.1) fun σ' l' e' => q σ' l' (e'.trans (wipe_set (List.contains_iff_mem.mp h1)))⟩
theorem g_wipe {K : PySem.W.Frag} {W : Wd} {Q : L2.St → Hp → Prop} {ws : List Nat} (g : Tg) {t : T} {v : V} {ρ ρ' : Lo} {σ : L2.St} (hw : tgIn ws g = true) (e : g.set t ρ = some ρ') (hv : RV K W t v) (l : RL K W ρ σ) (q : ∀ σ', RL K W ρ' σ' → wipe σ' ws = wipe σ ws → Q σ' W.H) : gOf K g v σ W.H Q := by
  cases g with
  | nm i x p =>
    unfold Tg.set at e
    cases e
    exact q _ (l.set hv i) (wipe_set (List.contains_iff_mem.mp hw))
  | tp xs k p =>
    unfold Tg.set at e
    dsimp only at e
    split at e
    · unfold RV at hv
      obtain ⟨a, vs, rfl, h1, h2⟩ := hv
      exact ⟨a, vs, rfl, h1, by rw [← h2.length, setMany_len xs e], gs_wipe xs hw e h2 l q⟩
    · cases e
theorem wipe_wipe {σ : L2.St} : ∀ vs : List Nat, wipe (wipe σ vs) vs = wipe σ vs
  | [] => rfl
  | v :: vs => by
    have h := wipe_wipe (σ := σ) vs
    show (wipe ((wipe σ vs).set v none) vs).set v none = (wipe σ vs).set v none
    by_cases hm : v ∈ vs
    · rw [wipe_set hm, h]
    · have : ∀ (us : List Nat) (τ : L2.St), v ∉ us → wipe (τ.set v none) us = (wipe τ us).set v none := by
        intro us τ
        induction us with
        | nil => intro _; rfl
        | cons u r ih =>
          intro hn
          unfold wipe
          rw [ih (fun z => hn (List.mem_cons_of_mem _ z)), List.set_comm _ _ (fun z => hn (by rw [z]; exact List.mem_cons_self))]
      rw [this vs _ hm, h, List.set_set]
/-- the turns of a list comprehension -/
theorem lc_sound {K : PySem.W.Frag} {J : L2.It} {W0 : Wd} {items : List T} {src : Sto → Bool} {g : Tg} {f : Lo → Sto → Re T} {ρ : Lo} {st : Sto} {σ : L2.St} {ws : List Nat} {xq : XQ} {Q : VK} {Da : Addr}
    (hJ : ItOk K J W0 items src) (hw : tgIn ws g = true) (r : Rep K st W0) (l : RL K W0 ρ σ) (hD : W0.H Da = none)
    (p : Post K (noXr (lcF src g f st.length (wipeL ρ ws) items (st ++ [.lst []]))) W0 xq (fun t _ W' => ∀ v, RV K W' t v → Q v W'.H)) :
    ∃ W : Nat → Nat → Hp → Prop, (∃ m, W 0 m (upd W0.H Da (.lst []))) ∧ ∀ i m H, W i m H →
      (J.stop i H ∧ Q (.ref Da) H) ∨ (J.go i H ∧ ∃ Nx : Hp → Prop, (∀ H', Nx H' → ∃ m', m' < m ∧ W (i + 1) m' H') ∧ ∀ x H', J.yld i H x H' → gOf K g x (wipe σ ws) H' fun σ2 H2 => wipe σ2 ws = wipe σ ws ∧ tYes σ2 H2 fun b H3 =>
        if b = true then tE K (xqE E0) f σ2 H3 fun y H4 => ∃ acc, H4 Da = some (.lst acc) ∧ acc.length < sizeLine ∧ Nx (upd H4 Da (.lst (acc ++ [y]))) else Nx H3) := by
  have px : Post K (lcF src g f st.length (wipeL ρ ws) items (st ++ [.lst []])) W0 (xqE E0) (fun t _ W' => ∀ v, RV K W' t v → Q v W'.H) := by
    revert p
    cases lcF src g f st.length (wipeL ρ ws) items (st ++ [.lst []]) with
    | none => exact id
    | some o => cases o with
      | ok a s => exact id
      | ex c s => exact False.elim
  let W1 : Wd := W0.new Da (.lst [])
  have e01 : Ext W0 W1 := Ext.new hD
  have r1 : Rep K (st ++ [.lst []]) W1 := r.newL hD RVs.nil
  have hm1 : W1.m st.length = Da := by
    show (if st.length = W0.n then Da else W0.m st.length) = Da
    rw [if_pos r.len]
  have hn1 : st.length < W1.n := by rw [r.len]; exact Nat.lt_succ_self _
  refine ⟨fun i m H => ∃ W st', W.H = H ∧ Rep K st' W ∧ Ext W1 W ∧ i ≤ items.length ∧ m = items.length - i ∧ Post K (lcF src g f st.length (wipeL ρ ws) (items.drop i) st') W (xqE E0) (fun t _ W' => ∀ v, RV K W' t v → Q v W'.H),
    ⟨_, W1, _, rfl, r1, Ext.refl _, Nat.zero_le _, rfl, px.ext e01⟩, ?_⟩
  rintro i m H ⟨W, st', rfl, r', e1, hi, rfl, p⟩
  have hmD : W.m st.length = Da := (e1.m _ hn1).trans hm1
  by_cases hlt : i < items.length
  · have hd : items.drop i = items[i] :: items.drop (i + 1) := List.drop_eq_getElem_cons hlt
    rw [hd] at p
    unfold lcF at p
    obtain ⟨hs, p⟩ := p.ifT
    have hit : items[i]? = some items[i] := List.getElem?_eq_getElem hlt
    obtain ⟨go, yld⟩ := hJ.go i items[i] W st' (e01.trans e1) r' hs hit
    refine .inr ⟨go, fun H' => ∃ W' st'', W'.H = H' ∧ Rep K st'' W' ∧ Ext W1 W' ∧ i + 1 ≤ items.length ∧ Post K (lcF src g f st.length (wipeL ρ ws) (items.drop (i + 1)) st'') W' (xqE E0) (fun t _ W' => ∀ v, RV K W' t v → Q v W'.H), fun H' hN => ?_, fun x H' hy => ?_⟩
    · obtain ⟨W', st'', h1, h2, h3, h4, h5⟩ := hN
      exact ⟨items.length - (i + 1), by omega, W', st'', h1, h2, h3, h4, rfl, h5⟩
    · obtain ⟨rfl, hv⟩ := yld x H' hy
      split at p
      · exact p.elim
      · rename_i ρ1 eg
        refine g_wipe g hw eg hv ((l.ext (e01.trans e1)).wipe ws) fun σ2 l2 ew => ⟨ew.trans (wipe_wipe ws), ?_⟩
        unfold tYes
        dsimp only
        rw [if_pos rfl]
        refine ⟨W, ρ1, st', rfl, r', l2, p.bnd.imp fun y st2 W2 e2 r2 p2 v hv2 => ?_⟩
        split at p2
        · rename_i acc ea
          obtain ⟨hl, p2⟩ := p2.ifT
          obtain ⟨vs, g1, g2⟩ := r2.at_ _ _ ea
          have hm2 : W2.m st.length = Da := (e2.m _ (Nat.lt_of_lt_of_le hn1 e1.n)).trans hmD
          rw [hm2] at g1
          refine ⟨vs, g1, by rw [← g2.length]; exact hl, ?_⟩
          have wr := r2.write (u := .lst (vs ++ [v])) (ob := .lst (acc ++ [y])) ea rfl rfl (by
            have hx : Ext W2 (W2.lay (W2.m st.length) (.lst (vs ++ [v]))) := Rep.writeX r2 ea rfl
            exact ⟨vs ++ [v], upd_same, (g2.append (RVs.cons hv2 RVs.nil)).ext hx⟩)
          rw [hm2] at wr
          exact ⟨W2.lay Da (.lst (vs ++ [v])), _, rfl, wr.1, (e1.trans e2).trans wr.2, hlt, p2.ext wr.2⟩
        · exact p2.elim
  · have hi' : i = items.length := by omega
    subst hi'
    rw [List.drop_length] at p
    unfold lcF at p
    obtain ⟨hs, p⟩ := p.ifT
    refine .inl ⟨hJ.stop W st' (e01.trans e1) r' hs, p.self r' (.ref Da) ?_⟩
    unfold RV
    exact ⟨Nat.lt_of_lt_of_le hn1 e1.n, by rw [hmD]⟩
theorem RVs.two {K : PySem.W.Frag} {W : Wd} {x y : T} {vs : List V} (h : RVs K W [x, y] vs) : ∃ v w, vs = [v, w] ∧ RV K W x v ∧ RV K W y w := by
  unfold RVs at h
  obtain ⟨v, q, rfl, h1, h2⟩ := h
  unfold RVs at h2
  obtain ⟨w, q2, rfl, h3, h4⟩ := h2
  unfold RVs at h4; subst h4
  exact ⟨v, w, rfl, h1, h3⟩
theorem post_pair {β : Type} {K : PySem.W.Frag} {W : Wd} {xq : XQ} {ra : Re T} {fb : Sto → Re T} {g : T → T → Sto → Re β} {Q : β → Sto → Wd → Prop} (h : Post K (bnd ra fun x st => bnd (fb st) fun y st => g x y st) W xq Q) :
    Post K (bnd ra fun t st => bnd (bnd (fb st) fun t st => ok [t] st) fun ts st => ok (t :: ts) st) W xq (fun ts st2 W2 => ∃ x y, ts = [x, y] ∧ Post K (g x y st2) W2 xq Q) := by
  cases ra with
  | none => exact h
  | some q1 => cases q1 with
    | ex cc s1 => exact h
    | ok t s2 =>
      have h : Post K (bnd (fb s2) fun y st => g t y st) W xq Q := h
      show Post K (bnd (bnd (fb s2) fun t st => ok [t] st) fun ts st => ok (t :: ts) st) W xq _
      generalize fb s2 = q2 at h ⊢
      cases q2 with
      | none => exact h
      | some q2 => cases q2 with
        | ex cc s1 => exact h
        | ok u s3 => exact fun W2 e2 r2 => ⟨t, u, rfl, Post.ext (show Post K (g t u s3) W xq Q from h) e2⟩

section
variable {K : PySem.W.Frag} {xq : XQ} {σ : L2.St} {fa fb : Lo → Sto → Re T} {R : L2.It → Hp → Prop} {W : Wd} {ρ : Lo} {st : Sto}
theorem rd_lst (r : Rep K st W) (l : RL K W ρ σ) (p : Post K (itv .lst (fa ρ) (fb ρ) st) W xq (fun q _ W1 => ∀ J, ItOk K J W1 q.1 q.2 → R J W1.H)) : iList K (tE K xq fa) σ W.H R := by
  refine ⟨W, ρ, st, rfl, r, l, ?_⟩
  unfold itv at p
  refine (Post.bnd p).imp fun x st1 W1 e1 r1 p2 v hv => ?_
  split at p2
  · rename_i n
    split at p2
    · rename_i xs ex
      have hv' := hv
      unfold RV at hv'
      have p3 := p2.self r1
      dsimp only at p3
      refine ⟨W1.m n, hv'.2, ?_, p3 _ ⟨fun i t W2 st2 e2 r2 hs ht => ?_, fun W2 st2 e2 r2 hs => ?_⟩⟩
      · obtain ⟨a', vs, e', h1, h2⟩ := seq_sound r1 hv ex
        rw [hv'.2] at e'; cases e'
        rcases h2 with h2 | h2
        · exact ⟨vs, h2⟩
        · unfold seq? at ex
          dsimp only at ex
          split at ex
          · rename_i eq
            obtain ⟨ws, g1, g2⟩ := r1.at_ _ _ eq
            exact ⟨ws, .inl (.inl g1)⟩
          · rename_i eq
            obtain ⟨ws, g1, g2⟩ := r1.at_ _ _ eq
            exact ⟨ws, Rep.fzL g1⟩
          · cases ex
      · have hm : W2.m n = W1.m n := e2.m n hv'.1
        have hq : ∃ vs, SqL K W2.H (W1.m n) vs ∧ RVs K W2 xs vs := by
          unfold sameAt at hs
          split at hs
          · rename_i ys eq
            obtain ⟨ws, g1, g2⟩ := r2.at_ _ _ eq
            rw [hm] at g1
            exact ⟨ws, .inl (.inl g1), by rw [eqLs_eq hs]; exact g2⟩
          · rename_i ys eq
            obtain ⟨ws, g1, g2⟩ := r2.at_ _ _ eq
            rw [hm] at g1
            exact ⟨ws, Rep.fzL g1, by rw [eqLs_eq hs]; exact g2⟩
          · cases hs
        obtain ⟨vs, h1, h2⟩ := hq
        obtain ⟨w, h3, h4⟩ := h2.get ht
        refine ⟨⟨vs, w, h1, h3⟩, fun x H' hy => ⟨hy.1, ?_⟩⟩
        have := hy.2 vs h1
        rw [h3] at this; cases this
        exact h4
      · have hm : W2.m n = W1.m n := e2.m n hv'.1
        unfold sameAt at hs
        split at hs
        · rename_i ys eq
          obtain ⟨ws, g1, g2⟩ := r2.at_ _ _ eq
          rw [hm] at g1
          exact ⟨ws, .inl (.inl g1), by rw [eqLs_eq hs, g2.length]; exact Nat.le_refl _⟩
        · rename_i ys eq
          obtain ⟨ws, g1, g2⟩ := r2.at_ _ _ eq
          rw [hm] at g1
          exact ⟨ws, Rep.fzL g1, by rw [eqLs_eq hs, g2.length]; exact Nat.le_refl _⟩
        · cases hs
    · exact p2.elim
  · exact p2.elim
theorem rd_tup (r : Rep K st W) (l : RL K W ρ σ) (p : Post K (itv .tup (fa ρ) (fb ρ) st) W xq (fun q _ W1 => ∀ J, ItOk K J W1 q.1 q.2 → R J W1.H)) : iTup K (tE K xq fa) σ W.H R := by
  refine ⟨W, ρ, st, rfl, r, l, ?_⟩
  unfold itv at p
  refine (Post.bnd p).imp fun x st1 W1 e1 r1 p2 v hv => ?_
  split at p2
  · rename_i xs
    have hv' := hv
    unfold RV at hv'
    obtain ⟨a', vs, rfl, h1, h2⟩ := hv'
    have p3 := p2.self r1
    dsimp only at p3
    refine ⟨a', rfl, ⟨vs, h1⟩, p3 _ ⟨fun i t W2 st2 e2 r2 hs ht => ?_, fun W2 st2 e2 r2 hs => ?_⟩⟩
    · obtain ⟨w, h3, h4⟩ := (h2.ext e2).get ht
      refine ⟨⟨vs, w, SqT.ext e2 h1, h3⟩, fun x H' hy => ⟨hy.1, ?_⟩⟩
      have := hy.2 vs (SqT.ext e2 h1)
      rw [h3] at this; cases this
      exact h4
    · exact ⟨vs, SqT.ext e2 h1, by rw [h2.length]; exact Nat.le_refl _⟩
  · exact p2.elim
theorem rd_rng1 (r : Rep K st W) (l : RL K W ρ σ) (p : Post K (itv .rng1 (fa ρ) (fb ρ) st) W xq (fun q _ W1 => ∀ J, ItOk K J W1 q.1 q.2 → R J W1.H)) : iRng1 (tAs K xq (fun ρ st => bnd (fa ρ st) fun t st => bnd ((fun _ st => ok [] st : Lo → Sto → Re (List T)) ρ st) fun ts st => ok (t :: ts) st)) σ W.H R := by
  refine ⟨W, ρ, st, rfl, r, l, ?_⟩
  unfold itv at p
  have p1 := Post.bnd p
  show Post K (bnd (fa ρ st) fun t st => ok [t] st) W xq _
  generalize fa ρ st = q1 at p1 ⊢
  cases q1 with
  | none => exact p1
  | some q1 => cases q1 with
    | ex cc s1 => exact p1
    | ok t s2 =>
      show Post K (ok [t] s2) W xq _
      intro W2 e2 r2 vs hvs
      have p3 := p1 W2 e2 r2
      dsimp only at p3
      split at p3
      · rename_i j
        obtain ⟨hr, p3⟩ := p3.ifT
        have hr := of_decide_eq_true hr
        unfold RVs at hvs
        obtain ⟨v2, q2, rfl, m1, m2⟩ := hvs
        unfold RVs at m2; subst m2
        unfold RV at m1; subst m1
        have p4 := p3.self r2
        dsimp only at p4
        refine ⟨j, rfl, hr.1, hr.2, p4 _ ⟨fun i t W3 st3 e3 r3 hs ht => ?_, fun W3 st3 e3 r3 hs => ?_⟩⟩
        · rw [rngT_get] at ht
          split at ht
          · rename_i hi
            cases ht
            exact ⟨hi, fun x H' hy => ⟨hy.1, by rw [hy.2]; unfold RV; rfl⟩⟩
          · cases ht
        · rw [rngT_len]; exact Nat.le_refl _
      · exact p3.elim
theorem rd_rng2 (r : Rep K st W) (l : RL K W ρ σ) (p : Post K (itv .rng2 (fa ρ) (fb ρ) st) W xq (fun q _ W1 => ∀ J, ItOk K J W1 q.1 q.2 → R J W1.H)) : iRng2 (tAs K xq (fun ρ st => bnd (fa ρ st) fun t st => bnd ((fun ρ st => bnd (fb ρ st) fun t st => bnd ((fun _ st => ok [] st : Lo → Sto → Re (List T)) ρ st) fun ts st => ok (t :: ts) st) ρ st) fun ts st => ok (t :: ts) st)) σ W.H R := by
  refine ⟨W, ρ, st, rfl, r, l, ?_⟩
  unfold itv at p
  refine (post_pair (fb := fun st => fb ρ st) p).imp fun ts st2 W2 e2 r2 q vs hvs => ?_
  obtain ⟨x, y, rfl, p3⟩ := q
  obtain ⟨v, w, rfl, m1, m2⟩ := hvs.two
  split at p3
  · rename_i i j
    obtain ⟨hr, p3⟩ := p3.ifT
    obtain ⟨hr1, hr2⟩ := and2 hr
    have hr1 := of_decide_eq_true hr1
    have hr2 := of_decide_eq_true hr2
    unfold RV at m1 m2; subst m1; subst m2
    have p4 := p3.self r2
    dsimp only at p4
    refine ⟨i, j, rfl, ⟨hr1.1, hr1.2, hr2.1, hr2.2⟩, p4 _ ⟨fun i t W3 st3 e3 r3 hs ht => ?_, fun W3 st3 e3 r3 hs => ?_⟩⟩
    · rw [rngT_get] at ht
      split at ht
      · rename_i hi
        cases ht
        exact ⟨hi, fun x H' hy => ⟨hy.1, by rw [hy.2]; unfold RV; rfl⟩⟩
      · cases ht
    · rw [rngT_len]; exact Nat.le_refl _
  · exact p3.elim
end
theorem each_len (env : Env) : ∀ (xs : List (Nat × Str × Pos)), (assignEach (xs.map fun q => .Name q.2.1 q.2.2) env).length = xs.length
  | [] => rfl
  | q :: r => by
    show (assignEach (r.map fun q => .Name q.2.1 q.2.2) env).length + 1 = r.length + 1
    rw [each_len env r]
theorem each_idx (env : Env) : ∀ (xs : List (Nat × Str × Pos)), (assignEach (xs.map fun q => .Name q.2.1 q.2.2) env).findIdx? (·.1) = none
  | [] => rfl
  | q :: r => by
    have := each_idx env r
    show List.findIdx? (·.1) ((false, assign (.Name q.2.1 q.2.2) env) :: assignEach (r.map fun q => .Name q.2.1 q.2.2) env) = none
    rw [List.findIdx?_cons, this]
    rfl
theorem folded_plain (x : Ex) (env : Env) (v : Value) : foldedSetIterable x.e env v = pure v := by
  cases x <;> (unfold Ex.e; rfl)

theorem tgIn_of {N : List Str} {sc : Scope} {ws : List Nat} {g : Tg} (h : tgsB N sc ws g = true) : tgIn ws g = true := by
  cases g with
  | nm i x p => exact (and2 h).2
  | tp xs k p => exact List.all_eq_true.mpr fun q hq => (and2 (List.all_eq_true.mp h q hq)).2
section
variable {X : Cx} {c : Cfg} {Γ : Fns} {E : XK}
theorem pg_nmL (o : XOk X c Γ E) {i : Nat} {x : Str} {p : Pos} {ws : List Nat} (h : tgB c.N c.sc ws i x = true) : PG X (.Name x p) (gName i) := by
  obtain ⟨h, h3⟩ := and2 h
  obtain ⟨h1, h2⟩ := and2 h
  have hl : X.env.scope.names.lookup x = some .local := by rw [o.sc]; exact beq_iff_eq.mp h2
  exact pg_name (by rw [o.N]; exact o.nd) (by rw [o.N]; exact beq_iff_eq.mp h1) (.inl hl) (.inr hl)
theorem pgs_nmsL (o : XOk X c Γ E) {ws : List Nat} : ∀ (xs : List (Nat × Str × Pos)), (xs.all fun q => tgB c.N c.sc ws q.1 q.2.1) = true → PGs X (xs.map fun q => .Name q.2.1 q.2.2) (gsOf xs)
  | [], _ => pgs_nil
  | q :: r, h => by
    rw [List.all_cons] at h
    obtain ⟨h1, h2⟩ := and2 h
    exact pgs_cons (pg_nmL o h1) (pgs_nmsL o r h2)
theorem pg_L (o : XOk X c Γ E) {ws : List Nat} (g : Tg) (h : tgsB c.N c.sc ws g = true) : PG X g.e (gOf X.K g) := by
  cases g with
  | nm i x p => exact pg_nmL o h
  | tp xs k p => exact pg_tup o.calm (pgs_nmsL o xs h) (each_len _ xs) (each_idx _ xs)
end
end Ev

namespace Ev
open PySem PySem.Spec L2
section
variable {X : Cx} {c : Cfg} {Γ : Fns} {E : XK} {xq : XQ}
theorem base_plain (o : Ex) (n : Str) (env : Env) : attributeBase o.e n env (eval o.e env) = eval o.e env := by
  cases o <;> (unfold Ex.e; rfl)
theorem ty_name (ty : Ty) : bootBuiltins ty.nm = some (.type ty.name) := by cases ty <;> decide +kernel
def tNames (K : PySem.W.Frag) : List (Nat × Pos) → TA
  | [] => tNil
  | q :: r => fun σ H Q => tC (.ref (cA K q.1)) σ H fun v H1 => tNames K r σ H1 fun vs H2 => Q (v :: vs) H2
theorem pa_names (o : XOk X c Γ E) : ∀ (cs : List (Nat × Pos)), (∀ q ∈ cs, (c.xc.contains q.1 && glB c.sc (xname q.1) && nmB (xname q.1)) = true) → PA X (cs.map fun q => .Name (xname q.1) q.2) (tNames X.K cs)
  | [], _ => pa_nil
  | q :: r, h => by
    obtain ⟨h1, h3⟩ := and2 (h q List.mem_cons_self)
    obtain ⟨h1, h2⟩ := and2 h1
    obtain ⟨n1, n2, n3⟩ := nm_of h3
    exact pa_cons (pe_glob (v := .ref (cA X.K q.1)) (gl_of o h2) (o.xm q.1 (o.xk q.1 h1)) rfl n1) (pa_names o r fun p hp => h p (List.mem_cons_of_mem _ hp))
theorem tNames_of {K : PySem.W.Frag} {σ : L2.St} {H : Hp} {Q : List V → Hp → Prop} : ∀ (cs : List (Nat × Pos)), Q (cs.map fun q => V.ref (cA K q.1)) H → tNames K cs σ H Q
  | [], h => h
  | q :: r, h => tNames_of (K := K) (Q := fun vs H2 => Q (V.ref (cA K q.1) :: vs) H2) r h
mutual
theorem sndE {X : Cx} {c : Cfg} {E : XK} (o : XOk X c Γ E) : ∀ x : Ex, okE c x = true → PE X x.e (tE X.K (xqE E) (ev Γ x))
  | .var i x p, h => by
    unfold okE at h
    obtain ⟨h, h3⟩ := and2 h
    obtain ⟨h1, h2⟩ := and2 h
    obtain ⟨n1, n2, n3⟩ := nm_of h3
    unfold Ex.e
    refine PE_weak (pe_var (i := i) (by rw [o.N]; exact beq_iff_eq.mp h1) (by rw [o.sc]; exact vis_of h2) n1 n2) fun σ H Q q => ?_
    obtain ⟨W, ρ, st, rfl, r, l, p⟩ := q
    unfold ev at p
    split at p
    · rename_i t e
      obtain ⟨v, e1, hv⟩ := l.2 i t e
      exact ⟨v, e1, p.self r v hv⟩
    · exact p.elim
  | .int i k p, _ => by
    unfold Ex.e
    exact PE_weak pe_int fun σ H Q ⟨W, ρ, st, e, r, l, p⟩ => by
      subst e; unfold ev at p; exact p.self r _ (by unfold RV; rfl)
  | .bl i k p, _ => by
    unfold Ex.e
    exact PE_weak pe_bl fun σ H Q ⟨W, ρ, st, e, r, l, p⟩ => by
      subst e; unfold ev at p; exact p.self r _ (by unfold RV; rfl)
  | .non k p, _ => by
    unfold Ex.e
    exact PE_weak pe_non fun σ H Q ⟨W, ρ, st, e, r, l, p⟩ => by
      subst e; unfold ev at p; exact p.self r _ (by unfold RV; rfl)
  | .str x k p, _ => by
    unfold Ex.e
    exact PE_weak pe_str fun σ H Q ⟨W, ρ, st, e, r, l, p⟩ => by
      subst e; unfold ev at p; exact p.self r _ (by unfold RV; rfl)
  | .glo i x p, h => by
    unfold okE at h
    obtain ⟨h, h3⟩ := and2 h
    obtain ⟨h1, h2⟩ := and2 h
    obtain ⟨n1, n2, n3⟩ := nm_of h3
    obtain ⟨t, e⟩ := o.gi x i h1
    unfold Ex.e
    exact PE_weak (pe_glob (v := .int i) (gl_of o h2) e ⟨t, rfl⟩ n1) fun σ H Q ⟨W, ρ, st, e, r, l, p⟩ => by
      subst e; unfold ev at p; exact p.self r _ (by unfold RV; rfl)
  | .bin op a b p, h => by
    unfold okE at h
    obtain ⟨h1, h2⟩ := and2 h
    unfold Ex.e
    exact PE_weak (pe_op (op_sound (xq := xqE E) op) (sndE o a h1) (sndE o b h2)) fun σ H Q ⟨W, ρ, st, e, r, l, p⟩ => tE_bin ⟨W, ρ, st, e, r, l, by unfold ev at p; exact p⟩
  | .neg a p, h => by
    unfold okE at h
    unfold Ex.e
    exact PE_weak (pe_un (un_sound (xq := xqE E)) (sndE o a h)) fun σ H Q ⟨W, ρ, st, e, r, l, p⟩ => tE_un ⟨W, ρ, st, e, r, l, by unfold ev at p; exact p⟩
  | .cmp op a b p, h => by
    unfold okE at h
    obtain ⟨h, h4⟩ := and2 h
    obtain ⟨h, h3⟩ := and2 h
    obtain ⟨h1, h2⟩ := and2 h
    unfold Ex.e
    exact PE_weak (pe_cmpR (cmp_sound (xq := xqE E) op o.un) (sndE o a h1) (sndE o b h2) (nobehind _ (by simpa using h3) (by simpa using h4))) fun σ H Q ⟨W, ρ, st, e, r, l, p⟩ => tE_bin ⟨W, ρ, st, e, r, l, by unfold ev at p; exact p⟩
  | .no a p, h => by
    unfold okE at h
    unfold Ex.e
    refine PE_weak (pe_not (sndE o a h)) fun σ H Q q => ?_
    obtain ⟨W, ρ, st, rfl, r, l, p⟩ := q
    unfold ev at p
    refine ⟨W, ρ, st, rfl, r, l, p.bnd.imp fun x st1 W1 e1 r1 p1 v hv => ?_⟩
    split at p1
    · unfold RV at hv; subst hv
      exact ⟨_, rfl, p1.self r1 _ (by unfold RV; rfl)⟩
    · exact p1.elim
  | .and a b p, h => by
    unfold okE at h
    obtain ⟨h1, h2⟩ := and2 h
    unfold Ex.e
    refine PE_weak (pe_and (sndE o a h1) (pe_one (sndE o b h2))) fun σ H Q q => ?_
    obtain ⟨W, ρ, st, rfl, r, l, p⟩ := q
    unfold ev at p
    refine ⟨W, ρ, st, rfl, r, l, p.bnd.imp fun x st1 W1 e1 r1 p1 v hv => ?_⟩
    split at p1
    · unfold RV at hv; subst hv
      exact ⟨true, rfl, iteT ⟨W1, ρ, st1, rfl, r1, l.ext e1, p1⟩⟩
    · unfold RV at hv; subst hv
      exact ⟨false, rfl, iteF (p1.self r1 _ (by unfold RV; rfl))⟩
    · exact p1.elim
  | .or a b p, h => by
    unfold okE at h
    obtain ⟨h1, h2⟩ := and2 h
    unfold Ex.e
    refine PE_weak (pe_or (sndE o a h1) (pe_one (sndE o b h2))) fun σ H Q q => ?_
    obtain ⟨W, ρ, st, rfl, r, l, p⟩ := q
    unfold ev at p
    refine ⟨W, ρ, st, rfl, r, l, p.bnd.imp fun x st1 W1 e1 r1 p1 v hv => ?_⟩
    split at p1
    · unfold RV at hv; subst hv
      exact ⟨true, rfl, iteT (p1.self r1 _ (by unfold RV; rfl))⟩
    · unfold RV at hv; subst hv
      exact ⟨false, rfl, iteF ⟨W1, ρ, st1, rfl, r1, l.ext e1, p1⟩⟩
    · exact p1.elim
  | .and3 a b d p, h => by
    unfold okE at h
    obtain ⟨h, h3⟩ := and2 h
    obtain ⟨h1, h2⟩ := and2 h
    unfold Ex.e
    refine PE_weak (pe_and (sndE o a h1) (pe_and (sndE o b h2) (pe_one (sndE o d h3)))) fun σ H Q q => ?_
    obtain ⟨W, ρ, st, rfl, r, l, p⟩ := q
    unfold ev at p
    refine ⟨W, ρ, st, rfl, r, l, p.bnd.imp fun x st1 W1 e1 r1 p1 v hv => ?_⟩
    split at p1
    · unfold RV at hv; subst hv
      refine ⟨true, rfl, iteT ⟨W1, ρ, st1, rfl, r1, l.ext e1, p1.bnd.imp fun y st2 W2 e2 r2 p2 v2 hv2 => ?_⟩⟩
      split at p2
      · unfold RV at hv2; subst hv2
        exact ⟨true, rfl, iteT ⟨W2, ρ, st2, rfl, r2, (l.ext e1).ext e2, p2⟩⟩
      · unfold RV at hv2; subst hv2
        exact ⟨false, rfl, iteF (p2.self r2 _ (by unfold RV; rfl))⟩
      · exact p2.elim
    · unfold RV at hv; subst hv
      exact ⟨false, rfl, iteF (p1.self r1 _ (by unfold RV; rfl))⟩
    · exact p1.elim
  | .or3 a b d p, h => by
    unfold okE at h
    obtain ⟨h, h3⟩ := and2 h
    obtain ⟨h1, h2⟩ := and2 h
    unfold Ex.e
    refine PE_weak (pe_or (sndE o a h1) (pe_or (sndE o b h2) (pe_one (sndE o d h3)))) fun σ H Q q => ?_
    obtain ⟨W, ρ, st, rfl, r, l, p⟩ := q
    unfold ev at p
    refine ⟨W, ρ, st, rfl, r, l, p.bnd.imp fun x st1 W1 e1 r1 p1 v hv => ?_⟩
    split at p1
    · unfold RV at hv; subst hv
      refine ⟨false, rfl, iteF ⟨W1, ρ, st1, rfl, r1, l.ext e1, p1.bnd.imp fun y st2 W2 e2 r2 p2 v2 hv2 => ?_⟩⟩
      split at p2
      · unfold RV at hv2; subst hv2
        exact ⟨false, rfl, iteF ⟨W2, ρ, st2, rfl, r2, (l.ext e1).ext e2, p2⟩⟩
      · unfold RV at hv2; subst hv2
        exact ⟨true, rfl, iteT (p2.self r2 _ (by unfold RV; rfl))⟩
      · exact p2.elim
    · unfold RV at hv; subst hv
      exact ⟨true, rfl, iteT (p1.self r1 _ (by unfold RV; rfl))⟩
    · exact p1.elim
  | .or4 a b d g p, h => fun pins s σ H Q I q => by
    obtain ⟨W, ρ, st, _, _, _, p⟩ := q
    unfold ev at p
    exact p.elim
  | .and4 a b d g p, h => fun pins s σ H Q I q => by
    obtain ⟨W, ρ, st, _, _, _, p⟩ := q
    unfold ev at p
    exact p.elim
  | .ifx op k d pc a b p, h => by
    unfold okE at h
    obtain ⟨h, h6⟩ := and2 h
    obtain ⟨h, h5⟩ := and2 h
    obtain ⟨h, h4⟩ := and2 h
    obtain ⟨h, h3⟩ := and2 h
    obtain ⟨h1, h2⟩ := and2 h
    unfold Ex.e
    refine PE_weak (pe_ifExp (pt_cmpR (cmp_sound (xq := xqE E) op o.un) (sndE o k h1) (sndE o d h2) (nobehind _ (by simpa using h5) (by simpa using h6))) (sndE o a h3) (sndE o b h4)) fun σ H Q ⟨W, ρ, st, e, r, l, p⟩ => ?_
    subst e
    unfold ev at p
    refine ⟨W, ρ, st, rfl, r, l, p.bnd.imp fun x st1 W1 e1 r1' p1 v1 hv1 => ?_⟩
    refine ⟨W1, ρ, st1, rfl, r1', l.ext e1, p1.bnd.imp fun y st2 W2 e2 r2' p2 v2 hv2 => ?_⟩
    refine ⟨W2, st2, x, y, rfl, r2', hv1.ext e2, hv2, p2.bnd.imp fun z st3 W3 e3 r3' p3 v3 hv3 => ?_⟩
    split at p3
    · unfold RV at hv3; subst hv3
      exact ⟨true, rfl, iteT ⟨W3, ρ, st3, rfl, r3', ((l.ext e1).ext e2).ext e3, p3⟩⟩
    · unfold RV at hv3; subst hv3
      exact ⟨false, rfl, iteF ⟨W3, ρ, st3, rfl, r3', ((l.ext e1).ext e2).ext e3, p3⟩⟩
    · exact p3.elim
  | .tup xs k p, h => by
    unfold okE at h
    unfold Ex.e
    refine PE_weak (pe_tup (sndEs o xs h)) fun σ H Q q => ?_
    obtain ⟨W, ρ, st, rfl, r, l, p⟩ := q
    unfold ev at p
    refine ⟨W, ρ, st, rfl, r, l, p.bnd.imp fun ts st1 W1 e1 r1 p1 vs hv => ?_⟩
    obtain ⟨hl, p1⟩ := p1.ifT
    refine ⟨by rw [← hv.length]; exact hl, fun q hq => ?_⟩
    refine p1.at (Ext.lay hq) (r1.lay hq) _ ?_
    unfold RV
    exact ⟨q, vs, rfl, .inl (.inl upd_same), hv.ext (Ext.lay hq)⟩
  | .lst xs p, h => by
    unfold okE at h
    unfold Ex.e
    refine PE_weak (pe_lst (sndEs o xs h)) fun σ H Q q => ?_
    obtain ⟨W, ρ, st, rfl, r, l, p⟩ := q
    unfold ev at p
    refine ⟨W, ρ, st, rfl, r, l, p.bnd.imp fun ts st1 W1 e1 r1 p1 vs hv => ?_⟩
    obtain ⟨hl, p1⟩ := p1.ifT
    refine ⟨by rw [← hv.length]; exact hl, fun q hq => ?_⟩
    exact p1.at (Ext.new hq) (r1.newL hq hv) _ (RV.new r1)
  | .ix a b p, h => by
    unfold okE at h
    obtain ⟨h1, h2⟩ := and2 h
    unfold Ex.e
    exact PE_weak (pe_ix (ix_sound (xq := xqE E)) (sndE o a h1) (sndE o b h2) (plainIx b)) fun σ H Q ⟨W, ρ, st, e, r, l, p⟩ => tE_bin ⟨W, ρ, st, e, r, l, by unfold ev at p; exact p⟩
  | .slLo a lo p2 p, h => by
    unfold okE at h
    obtain ⟨h1, h2⟩ := and2 h
    unfold Ex.e
    refine PE_weak (pe_slice (sl_sound (xq := xqE E)) (sndE o a h1) (po_some (sndE o lo h2)) po_none) fun σ H Q q => ?_
    obtain ⟨W, ρ, st, rfl, r, l, p⟩ := q
    unfold ev at p
    refine ⟨W, ρ, st, rfl, r, l, p.bnd.imp fun x st1 W1 e1 r1 p1 v hv => ?_⟩
    refine ⟨W1, ρ, st1, rfl, r1, l.ext e1, p1.bnd.imp fun y st2 W2 e2 r2 p2 v2 hv2 => ?_⟩
    split at p2
    · unfold RV at hv2; subst hv2
      exact ⟨_, rfl, W2, st2, x, rfl, r2, hv.ext e2, p2⟩
    · exact p2.elim
  | .slHi a hi p2 p, h => by
    unfold okE at h
    obtain ⟨h1, h2⟩ := and2 h
    unfold Ex.e
    refine PE_weak (pe_slice (sl_sound (xq := xqE E)) (sndE o a h1) po_none (po_some (sndE o hi h2))) fun σ H Q q => ?_
    obtain ⟨W, ρ, st, rfl, r, l, p⟩ := q
    unfold ev at p
    refine ⟨W, ρ, st, rfl, r, l, p.bnd.imp fun x st1 W1 e1 r1 p1 v hv => ?_⟩
    refine ⟨W1, ρ, st1, rfl, r1, l.ext e1, p1.bnd.imp fun y st2 W2 e2 r2 p2 v2 hv2 => ?_⟩
    split at p2
    · unfold RV at hv2; subst hv2
      exact ⟨_, rfl, W2, st2, x, rfl, r2, hv.ext e2, p2⟩
    · exact p2.elim
  | .slLH a lo hi p2 p, h => by
    unfold okE at h
    obtain ⟨h, h3⟩ := and2 h
    obtain ⟨h1, h2⟩ := and2 h
    unfold Ex.e
    refine PE_weak (pe_slice (sl_sound (xq := xqE E)) (sndE o a h1) (po_some (sndE o lo h2)) (po_some (sndE o hi h3))) fun σ H Q q => ?_
    obtain ⟨W, ρ, st, rfl, r, l, p⟩ := q
    unfold ev at p
    refine ⟨W, ρ, st, rfl, r, l, p.bnd.imp fun x st1 W1 e1 r1 p1 v hv => ?_⟩
    refine ⟨W1, ρ, st1, rfl, r1, l.ext e1, p1.bnd.imp fun y st2 W2 e2 r2 p2 v2 hv2 => ?_⟩
    split at p2
    · unfold RV at hv2; subst hv2
      refine ⟨_, rfl, W2, ρ, st2, rfl, r2, (l.ext e1).ext e2, p2.bnd.imp fun z st3 W3 e3 r3 p3 v3 hv3 => ?_⟩
      split at p3
      · unfold RV at hv3; subst hv3
        exact ⟨_, rfl, W3, st3, x, rfl, r3, (hv.ext e2).ext e3, p3⟩
      · exact p3.elim
    · exact p2.elim
  | .call f x pn a xs p, h => by
    unfold okE at h
    obtain ⟨h, h5⟩ := and2 h
    obtain ⟨h, h4⟩ := and2 h
    obtain ⟨h, h3⟩ := and2 h
    obtain ⟨h1, h2⟩ := and2 h
    obtain ⟨n1, n2, n3⟩ := nm_of h3
    obtain ⟨k, fa, fd, ps, F, hr, hm, hk, hb⟩ := (o.fn f x h1).ex
    unfold Ex.e
    refine PE_weak (pe_call F hr (gl_of o h2) hm hk hb .nil o.xp.ps (tA_cons (sndE o a h4) (sndEs o xs h5)) n1 (star a _ X.env) (star_any xs p X.env)) fun σ H Q q => ?_
    obtain ⟨W, ρ, st, rfl, r, l, p⟩ := q
    unfold ev at p
    have p' : Post X.K (bnd (bnd (ev Γ a ρ st) fun t st => bnd (evs Γ xs ρ st) fun ts st => ok (t :: ts) st) fun us st => Γ f us st) W (xqE E) (fun t _ W' => ∀ v, RV X.K W' t v → Q v W'.H) := by
      revert p
      cases ev Γ a ρ st with
      | none => exact id
      | some r1 => cases r1 with
        | ex cc s1 => exact id
        | ok t s1 =>
          simp only [bnd_ok]
          cases evs Γ xs ρ s1 with
          | none => exact id
          | some r2 => cases r2 with
            | ex cc s2 => exact id
            | ok ts s2 => exact id
    refine ⟨W, ρ, st, rfl, r, l, p'.bnd.imp fun ts st1 W1 e1 r1 p1 vs hv => ?_⟩
    show spOf X.K (Γ f) (vs ++ []) W1.H Q E
    rw [List.append_nil]
    exact ⟨W1, st1, ts, rfl, r1, hv, p1⟩
  | .bi b pn a p, h => by
    unfold okE at h
    obtain ⟨h, h4⟩ := and2 h
    obtain ⟨h, h3⟩ := and2 h
    obtain ⟨h1, h2⟩ := and2 h
    unfold Ex.e
    have hm := o.bl _ h1
    have hg := gl_of o h2
    have hA := tA_cons (X := X) (sndE o a h3) (tA_nil (X := X) (xq := xqE E))
    have fin : ∀ σ H Q, tE X.K (xqE E) (ev Γ (.bi b pn a p)) σ H Q → tCB (rs X.K (xqE E) (biF b)) (tAs X.K (xqE E) (fun ρ st => bnd (ev Γ a ρ st) fun t st => bnd ((fun _ st => ok [] st : Lo → Sto → Re (List T)) ρ st) fun ts st => ok (t :: ts) st)) σ H Q := fun σ H Q q => by
      obtain ⟨W, ρ, st, rfl, r, l, p⟩ := q
      unfold ev at p
      refine ⟨W, ρ, st, rfl, r, l, ?_⟩
      have p1 := p.bnd
      show Post X.K (bnd (ev Γ a ρ st) fun t st => ok [t] st) W (xqE E) _
      generalize ev Γ a ρ st = r1 at p1 ⊢
      cases r1 with
      | none => exact p1
      | some r1 => cases r1 with
        | ex cc s1 => exact p1
        | ok t s1 =>
          show Post X.K (ok [t] s1) W (xqE E) _
          intro W1 e1 r1 vs hv
          exact ⟨W1, s1, [t], rfl, r1, hv, p1 W1 e1 r1⟩
    cases b with
    | len => obtain ⟨id, hv, hc⟩ := bi_fun (X := X) (xq := xqE E) o.calm .len trivial; exact PE_weak (pe_callB hc hg hm hv hA (by decide) (by decide) (star a _ X.env) rfl) fin
    | abs => obtain ⟨id, hv, hc⟩ := bi_fun (X := X) (xq := xqE E) o.calm .abs trivial; exact PE_weak (pe_callB hc hg hm hv hA (by decide) (by decide) (star a _ X.env) rfl) fin
    | all => obtain ⟨id, hv, hc⟩ := bi_fun (X := X) (xq := xqE E) o.calm .all trivial; exact PE_weak (pe_callB hc hg hm hv hA (by decide) (by decide) (star a _ X.env) rfl) fin
    | any => obtain ⟨id, hv, hc⟩ := bi_fun (X := X) (xq := xqE E) o.calm .any trivial; exact PE_weak (pe_callB hc hg hm hv hA (by decide) (by decide) (star a _ X.env) rfl) fin
    | str => obtain ⟨id, hv, hc⟩ := bi_ty (X := X) (xq := xqE E) .str trivial; exact PE_weak (pe_callTy hc hg hm hv hA (by decide) (by decide) (star a _ X.env) rfl) fin
    | int => obtain ⟨id, hv, hc⟩ := bi_ty (X := X) (xq := xqE E) .int trivial; exact PE_weak (pe_callTy hc hg hm hv hA (by decide) (by decide) (star a _ X.env) rfl) fin
    | list => obtain ⟨id, hv, hc⟩ := bi_ty (X := X) (xq := xqE E) .list trivial; exact PE_weak (pe_callTy hc hg hm hv hA (by decide) (by decide) (star a _ X.env) rfl) fin
    | tuple => obtain ⟨id, hv, hc⟩ := bi_ty (X := X) (xq := xqE E) .tuple trivial; exact PE_weak (pe_callTy hc hg hm hv hA (by decide) (by decide) (star a _ X.env) rfl) fin
    | isi ty => cases h4
  | .isi ty pn pt a p, h => by
    unfold okE at h
    obtain ⟨h, h5⟩ := and2 h
    obtain ⟨h, h4⟩ := and2 h
    obtain ⟨h, h3⟩ := and2 h
    obtain ⟨h1, h2⟩ := and2 h
    unfold Ex.e
    have hT : PE X (.Name ty.nm pt) (tC (.ty ty.name)) := pe_bltn (gl_of o h4) (o.bl _ h3) (ty_name ty) rfl (by cases ty <;> decide) (by cases ty <;> decide)
    refine PE_weak (pe_callB (isi_sound (xq := xqE E) ty) (gl_of o h2) (o.bl _ h1) (by decide +kernel) (pa_cons (sndE o a h5) (pa_cons hT pa_nil) (star a _ X.env)) (by decide) (by decide) (star a _ X.env) rfl) fun σ H Q q => ?_
    obtain ⟨W, ρ, st, rfl, r, l, p⟩ := q
    unfold ev at p
    refine ⟨W, ρ, st, rfl, r, l, p.bnd.imp fun x st1 W1 e1 r1 p1 v hv => ?_⟩
    exact ⟨W1, st1, x, v, rfl, rfl, r1, hv, p1⟩
  | .isx cx pn pt a p, h => by
    unfold okE at h
    obtain ⟨h, h6⟩ := and2 h
    obtain ⟨h, h5⟩ := and2 h
    obtain ⟨h, h4⟩ := and2 h
    obtain ⟨h, h3⟩ := and2 h
    obtain ⟨h1, h2⟩ := and2 h
    obtain ⟨n1, n2, n3⟩ := nm_of h5
    unfold Ex.e
    have hc := o.xk cx h3
    refine PE_weak (pe_callB (isx_sound (xq := xqE E) o.xf hc) (gl_of o h2) (o.bl _ h1) (by decide +kernel) (pa_cons (sndE o a h6) (pa_cons (pe_glob (v := .ref (cA X.K cx)) (gl_of o h4) (o.xm cx hc) rfl n1) pa_nil) (star a _ X.env)) (by decide) (by decide) (star a _ X.env) rfl) fun σ H Q q => ?_
    obtain ⟨W, ρ, st, rfl, r, l, p⟩ := q
    unfold ev at p
    refine ⟨W, ρ, st, rfl, r, l, p.bnd.imp fun x st1 W1 e1 r1 p1 v hv => ?_⟩
    exact ⟨W1, st1, x, v, rfl, rfl, r1, hv, p1⟩
  | .isxs cs k pt pn a p, h => by
    unfold okE at h
    obtain ⟨h, h5⟩ := and2 h
    obtain ⟨h, h4⟩ := and2 h
    obtain ⟨h, h3⟩ := and2 h
    obtain ⟨h1, h2⟩ := and2 h
    have h3 := List.all_eq_true.mp h3
    unfold Ex.e
    have hT : PE X (.Tuple (cs.map fun q => .Name (xname q.1) q.2) k pt) _ := pe_tup (pa_names o cs fun q hq => h3 q hq)
    refine PE_weak (pe_callB (isxs_sound (xq := xqE E) (cs := cs.map (·.1)) o.xf fun d hd => ?_) (gl_of o h2) (o.bl _ h1) (by decide +kernel) (pa_cons (sndE o a h4) (pa_cons hT pa_nil) (star a _ X.env)) (by decide) (by decide) (star a _ X.env) rfl) fun σ H Q q => ?_
    · obtain ⟨q, hq, rfl⟩ := List.mem_map.mp hd
      exact o.xk _ (and2 (and2 (h3 q hq)).1).1
    · obtain ⟨W, ρ, st, rfl, r, l, p⟩ := q
      unfold ev at p
      refine ⟨W, ρ, st, rfl, r, l, p.bnd.imp fun x st1 W1 e1 r1 p1 v hv => ?_⟩
      obtain ⟨hl, p1⟩ := p1.ifT
      refine tNames_of cs ⟨by rw [List.length_map]; exact Nat.le_trans hl (by decide), fun q hq => ?_⟩
      refine ⟨W1.lay q (.tup _), st1, x, v, q, rfl, rfl, .inl (.inl ?_), r1.lay hq, hv.ext (Ext.lay hq), p1.ext (Ext.lay hq)⟩
      rw [List.map_map]
      exact upd_same
  | .isv pn pt a p, h => by
    unfold okE at h
    obtain ⟨h, h5⟩ := and2 h
    obtain ⟨h, h4⟩ := and2 h
    obtain ⟨h, h3⟩ := and2 h
    obtain ⟨h1, h2⟩ := and2 h
    unfold Ex.e
    have hT : PE X (.Name "ValueError" pt) (tC (.ty "ValueError")) := pe_bltn (gl_of o h4) (o.bl _ h3) (by decide +kernel) rfl (by decide) (by decide)
    refine PE_weak (pe_callB (isv_sound (xq := xqE E) o.xf) (gl_of o h2) (o.bl _ h1) (by decide +kernel) (pa_cons (sndE o a h5) (pa_cons hT pa_nil) (star a _ X.env)) (by decide) (by decide) (star a _ X.env) rfl) fun σ H Q q => ?_
    obtain ⟨W, ρ, st, rfl, r, l, p⟩ := q
    unfold ev at p
    refine ⟨W, ρ, st, rfl, r, l, p.bnd.imp fun x st1 W1 e1 r1 p1 v hv => ?_⟩
    exact ⟨W1, st1, x, v, rfl, rfl, r1, hv, p1⟩
  | .mm mx pn a b p, h => by
    unfold okE at h
    obtain ⟨h, h4⟩ := and2 h
    obtain ⟨h, h3⟩ := and2 h
    obtain ⟨h1, h2⟩ := and2 h
    have key : ∀ (σ : L2.St) (H : Hp) (Q : VK), tE X.K (xqE E) (ev Γ (.mm mx pn a b p)) σ H Q → tCB (fun xs H Q => ∃ i j, xs = [.int i, .int j] ∧ Q (.int (if mx then (if j > i then j else i) else (if j < i then j else i))) H) (tAs X.K (xqE E) (fun ρ st => bnd (ev Γ a ρ st) fun t st => bnd ((fun ρ st => bnd (ev Γ b ρ st) fun t st => bnd ((fun _ st => ok [] st : Lo → Sto → Re (List T)) ρ st) fun ts st => ok (t :: ts) st) ρ st) fun ts st => ok (t :: ts) st)) σ H Q := fun σ H Q q => by
      obtain ⟨W, ρ, st, rfl, r, l, p⟩ := q
      unfold ev at p
      refine ⟨W, ρ, st, rfl, r, l, ?_⟩
      refine (post_pair (fb := fun st => ev Γ b ρ st) p).imp fun ts st2 W2 e2 r2 q vs hvs => ?_
      obtain ⟨x, y, rfl, p3⟩ := q
      obtain ⟨v, w, rfl, m1, m2⟩ := hvs.two
      split at p3
      · unfold RV at m1 m2; subst m1; subst m2
        exact ⟨_, _, rfl, p3.self r2 _ (by unfold RV; rfl)⟩
      · exact p3.elim
    cases mx with
    | true =>
      unfold Ex.e
      exact PE_weak (pe_callB (call_max2 o.calm) (gl_of o h4) (o.bl _ h3) (by decide +kernel) (tA_cons (sndE o a h1) (tA_cons (sndE o b h2) (tA_nil (X := X) (xq := xqE E)))) (by decide) (by decide) (star a _ X.env) (by rw [star]; rfl)) fun σ H Q q => key σ H Q q
    | false =>
      unfold Ex.e
      exact PE_weak (pe_callB (call_min2 o.calm) (gl_of o h4) (o.bl _ h3) (by decide +kernel) (tA_cons (sndE o a h1) (tA_cons (sndE o b h2) (tA_nil (X := X) (xq := xqE E)))) (by decide) (by decide) (star a _ X.env) (by rw [star]; rfl)) fun σ H Q q => key σ H Q q
  | .lc elt g k a b pn pr sc own p, h => by
    unfold okE at h
    obtain ⟨h, h5⟩ := and2 h
    obtain ⟨h, h4⟩ := and2 h
    obtain ⟨h, h3⟩ := and2 h
    obtain ⟨h1, h2⟩ := and2 h
    have bo : BlkOk X.N X.env.scope sc own := by rw [o.N, o.sc]; exact blkOk_by h2
    have hw := tgIn_of h4
    have key : ∀ {wi : TI} {iter : Expr}, PI X g.e iter wi → (∀ x, foldedSetIterable iter X.env x = pure x) → (∀ (W : Wd) (ρ : Lo) (st : Sto) (σ : L2.St) (R : L2.It → Hp → Prop), Rep X.K st W → RL X.K W ρ σ → Post X.K (itv k (fun st => ev Γ a ρ st) (fun st => ev Γ b ρ st) st) W (xqE E) (fun q _ W1 => ∀ J, ItOk X.K J W1 q.1 q.2 → R J W1.H) → wi σ W.H R) →
        PE X (.ListComp elt.e [⟨g.e, iter, [], 0⟩] sc p) (tE X.K (xqE E) (ev Γ (.lc elt g k a b pn pr sc own p))) := fun hi hs hrd =>
      PE_weak (pe_lc (te := tE X.K (xqE E0) (ev Γ elt)) o.calm (by rw [o.N]; exact o.nd) hi bo (fun s H C cl fp => pg_L (o.blk s H C cl fp) g h4) (fun s H C cl fp => pts_nil) (fun s H C cl fp => sndE (o.blk s H C cl fp) elt h5) hs) fun σ H Q q => by
        obtain ⟨W, ρ, st, rfl, r, l, p⟩ := q
        unfold ev at p
        refine hrd W ρ st σ _ r l (p.bnd.imp fun q st1 W1 e1 r1 p1 J hJ D hD => ?_)
        exact lc_sound hJ hw r1 (l.ext e1) hD p1
    cases k with
    | lst =>
      unfold Ex.e
      exact key (pi_list (sndE o a h1)) (fun x => folded_plain a _ _) fun W ρ st σ R r l p => rd_lst (fa := ev Γ a) (fb := ev Γ b) r l p
    | tup =>
      unfold Ex.e
      exact key (pi_tup (sndE o a h1)) (fun x => folded_plain a _ _) fun W ρ st σ R r l p => rd_tup (fa := ev Γ a) (fb := ev Γ b) r l p
    | rng1 =>
      obtain ⟨h1, g3⟩ := and2 h1
      obtain ⟨g1, g2⟩ := and2 h1
      unfold Ex.e
      exact key (pi_range1 (gl_of o g3) (o.bl _ g2) (tA_cons (sndE o a g1) (tA_nil (X := X) (xq := xqE E))) (star a [] X.env)) (fun x => rfl) fun W ρ st σ R r l p => rd_rng1 (fa := ev Γ a) (fb := ev Γ b) r l p
    | rng2 =>
      obtain ⟨h1, g4⟩ := and2 h1
      obtain ⟨h1, g3⟩ := and2 h1
      obtain ⟨g1, g2⟩ := and2 h1
      unfold Ex.e
      exact key (pi_range2 (gl_of o g4) (o.bl _ g3) (tA_cons (sndE o a g1) (tA_cons (sndE o b g2) (tA_nil (X := X) (xq := xqE E)))) (by rw [star, star]; rfl) (star b [] X.env)) (fun x => rfl) fun W ρ st σ R r l p => rd_rng2 (fa := ev Γ a) (fb := ev Γ b) r l p
  | .app ob ap a p, h => by
    unfold okE at h
    obtain ⟨h, h3⟩ := and2 h
    obtain ⟨h1, h2⟩ := and2 h
    unfold Ex.e
    refine PE_weak (pe_bm PySem.F.plainAttrs_list PySem.F.slot_list_append PySem.F.type_list_append mt_append (sndE o ob h1) (tA_cons (sndE o a h2) (tA_nil (X := X) (xq := xqE E))) (base_plain ob _ _) (by rw [star]; rfl) h3 (star a _ X.env) rfl) fun σ H Q q => ?_
    obtain ⟨W, ρ, st, rfl, r, l, p⟩ := q
    unfold ev at p
    refine ⟨W, ρ, st, rfl, r, l, p.bnd.imp fun x st1 W1 e1 r1 p1 v hv => ?_⟩
    split at p1
    · rename_i n
      have hv' := hv
      unfold RV at hv'
      split at p1
      · rename_i ys ey
        obtain ⟨ws, g1, g2⟩ := r1.at_ _ _ ey
        rw [hv'.2]
        refine ⟨.inl ⟨rfl, ws, .inl (.inl g1)⟩, W1, ρ, st1, rfl, r1, l.ext e1, ?_⟩
        have p2 := p1.bnd
        show Post X.K (bnd (ev Γ a ρ st1) fun t st => ok [t] st) W1 (xqE E) _
        generalize ev Γ a ρ st1 = q1 at p2 ⊢
        cases q1 with
        | none => exact p2
        | some q1 => cases q1 with
          | ex cc s1 => exact p2
          | ok t s2 =>
            show Post X.K (ok [t] s2) W1 (xqE E) _
            intro W2 e2 r2 vs hvs
            have p3 := p2 W2 e2 r2
            dsimp only at p3
            split at p3
            · rename_i xs ex
              obtain ⟨hl, p3⟩ := p3.ifT
              obtain ⟨us, k1, k2⟩ := r2.at_ _ _ ex
              unfold RVs at hvs
              obtain ⟨v2, q2, rfl, m1, m2⟩ := hvs
              unfold RVs at m2; subst m2
              have hm : W2.m n = W1.m n := e2.m n hv'.1
              refine ⟨W1.m n, us, v2, rfl, rfl, by rw [← hm]; exact k1, by rw [← k2.length]; exact hl, ?_⟩
              rw [← hm]
              obtain ⟨rep, ext⟩ := r2.write (u := .lst (us ++ [v2])) (ob := .lst (xs ++ [t])) ex rfl rfl ⟨_, upd_same, by
                have hx : Ext W2 (W2.lay (W2.m n) (.lst (us ++ [v2]))) := Rep.writeX r2 ex rfl
                exact (k2.append (RVs.cons m1 RVs.nil)).ext hx⟩
              exact p3.at ext rep _ (by unfold RV; rfl)
            · exact p3.elim
      · exact p1.elim
    · exact p1.elim
  | .dct0 p, _ => by
    unfold Ex.e
    refine PE_weak pe_dnewK fun σ H Q ⟨W, ρ, st, e, r, l, p⟩ => ?_
    subst e
    unfold ev at p
    intro q hq
    exact p.at (Ext.new hq) (r.new hq ⟨[], upd_same, by unfold RK; rfl⟩) _ (RV.new r)
  | .dct1 k v p, h => by
    unfold okE at h
    obtain ⟨h1, h2⟩ := and2 h
    unfold Ex.e
    refine PE_weak (pe_disp (pps_cons (sndE o k h1) (sndE o v h2) pps_nil) rfl rfl (fun z => by cases z) (by simp)) fun σ H Q ⟨W, ρ, st, e, r, l, p⟩ => ?_
    subst e
    unfold ev at p
    intro q hq
    have rn := r.new (p := q) (o := .dK []) (ob := .dk []) hq ⟨[], upd_same, by unfold RK; rfl⟩
    have en : Ext W (W.new q (.dK [])) := Ext.new hq
    have hmq : (W.new q (.dK [])).m st.length = q := if_pos r.len
    have hnq : st.length < (W.new q (.dK [])).n := by rw [r.len]; exact Nat.lt_succ_self _
    refine ⟨W.new q (.dK []), ρ, _, rfl, rn, l.ext en, (p.ext en).bnd.imp fun x st1 W1 e1 r1 p1 vk hvk => ?_⟩
    refine ⟨W1, ρ, st1, rfl, r1, (l.ext en).ext e1, p1.bnd.imp fun y st2 W2 e2 r2 p2 vv hvv => ?_⟩
    have hm2 : W2.m st.length = q := ((e1.trans e2).m _ hnq).trans hmq
    split at p2
    · rename_i key hk hd
      obtain ⟨ws, g1, g2⟩ := r2.at_ _ _ hd
      unfold RK at g2; subst g2
      rw [hm2] at g1
      have hvk' : vk = kV key := by
        cases x <;> unfold keyOf at hk <;> first | (cases hk; done) | skip
        · cases hk; unfold RV at hvk; exact hvk
        · cases hk; unfold RV at hvk; exact hvk
      subst hvk'
      refine ⟨g1, [(key, vv)], rfl, by simp, ?_⟩
      obtain ⟨rep, ext⟩ := r2.write (u := .dK [(key, vv)]) (ob := .dk [(key, y)]) hd rfl rfl ⟨_, upd_same, by
        have hx := Rep.writeX (u := HO.dK [(key, vv)]) r2 hd rfl
        unfold RK
        exact ⟨vv, [], rfl, hvv.ext hx, by unfold RK; rfl⟩⟩
      rw [hm2] at rep ext
      refine p2.at ext rep _ ?_
      unfold RV
      refine ⟨?_, ?_⟩
      · show st.length < W2.n
        exact Nat.lt_of_lt_of_le hnq ((e1.trans e2).n)
      · show V.ref q = .ref (W2.m st.length)
        rw [hm2]
    · exact p2.elim
theorem sndEs {X : Cx} {c : Cfg} {E : XK} (o : XOk X c Γ E) : ∀ xs : List Ex, okEs c xs = true → PA X (Ex.es xs) (tAs X.K (xqE E) (evs Γ xs))
  | [], _ => by
    unfold Ex.es
    exact PA_weak tA_nil fun σ H Q ⟨W, ρ, st, e, r, l, p⟩ => ⟨W, ρ, st, e, r, l, by unfold evs at p; exact p⟩
  | x :: r, h => by
    unfold okEs at h
    obtain ⟨h1, h2⟩ := and2 h
    unfold Ex.es
    exact PA_weak (tA_cons (sndE o x h1) (sndEs o r h2)) fun σ H Q ⟨W, ρ, st, e, r, l, p⟩ => ⟨W, ρ, st, e, r, l, by unfold evs at p; exact p⟩
end
end
end Ev

namespace Ev
open PySem PySem.Spec L2
section
variable {X : Cx} {c : Cfg} {Γ : Fns} {E : XK}
/-- a test by its value -/
theorem test_val {x : Ex} {f : Lo → Sto → Re T} (he : PE X x.e (tE X.K (xqE E) f)) (hp : ∀ whole, isTrue x.e X.env whole = (do let v ← whole; standAt x.e.pos; holding [v] (truthy v))) :
    PT X x.e (tT X.K (xqE E) (fun ρ st => bnd (f ρ st) fun t st => truF t st)) := by
  intro pins s σ H Q I h
  obtain ⟨W, ρ, st, rfl, r, l, p⟩ := h
  refine PyProof.Rows.isTrue_plain (thn (he pins s σ W.H (fun v H' => ∃ W' st' x, W'.H = H' ∧ Rep X.K st' W' ∧ RV X.K W' x v ∧ Post X.K (truF x st') W' (xqE E) (fun b _ W'' => Q b W''.H)) I ⟨W, ρ, st, rfl, r, l, ?_⟩) fun v s1 ⟨x, H1, I1, r1, q1⟩ => ?_) (hp _)
  · exact p.bnd.imp fun t st1 W1 e1 r1 p1 v hv => ⟨W1, st1, t, rfl, r1, hv, p1⟩
  · exact tru_sound (xq := xqE E) pins s1 σ H1 x v Q I1 r1 q1
theorem tT_weak {K : PySem.W.Frag} {f g : Lo → Sto → Re Bool} (h : ∀ ρ st, f ρ st = g ρ st) {σ : L2.St} {H : Hp} {Q : Bool → Hp → Prop} (q : tT K (xqE E) f σ H Q) : tT K (xqE E) g σ H Q := by
  obtain ⟨W, ρ, st, rfl, r, l, p⟩ := q
  exact ⟨W, ρ, st, rfl, r, l, by rw [← h]; exact p⟩
theorem sndC (o : XOk X c Γ E) : ∀ x : Ex, okE c x = true → PT X x.e (tT X.K (xqE E) (evC Γ x))
  | .no a p, h => by
    unfold okE at h
    unfold Ex.e
    refine PT_weak (pt_not (sndC o a h)) fun σ H Q ⟨W, ρ, st, e, r, l, p⟩ => ?_
    subst e
    unfold evC at p
    exact ⟨W, ρ, st, rfl, r, l, p.bnd.imp fun b st1 W1 e1 r1 p1 => p1.self r1⟩
  | .and a b p, h => by
    unfold okE at h
    obtain ⟨h1, h2⟩ := and2 h
    unfold Ex.e
    refine PT_weak (PW.pt (pw_and (sndC o a h1) (pw_and1 (sndC o b h2)))) fun σ H Q ⟨W, ρ, st, e, r, l, p⟩ => ?_
    subst e
    unfold evC at p
    refine ⟨W, ρ, st, rfl, r, l, p.bnd.imp fun b st1 W1 e1 r1 p1 => ?_⟩
    cases b with
    | true => exact iteT ⟨W1, ρ, st1, rfl, r1, l.ext e1, p1⟩
    | false => exact iteF (p1.self r1)
  | .or a b p, h => by
    unfold okE at h
    obtain ⟨h1, h2⟩ := and2 h
    unfold Ex.e
    refine PT_weak (PW.pt (pw_or (sndC o a h1) (pw_or1 (sndC o b h2)))) fun σ H Q ⟨W, ρ, st, e, r, l, p⟩ => ?_
    subst e
    unfold evC at p
    refine ⟨W, ρ, st, rfl, r, l, p.bnd.imp fun b st1 W1 e1 r1 p1 => ?_⟩
    cases b with
    | false => exact iteF ⟨W1, ρ, st1, rfl, r1, l.ext e1, p1⟩
    | true => exact iteT (p1.self r1)
  | .and3 a b d p, h => by
    unfold okE at h
    obtain ⟨h, h3⟩ := and2 h
    obtain ⟨h1, h2⟩ := and2 h
    unfold Ex.e
    refine PT_weak (PW.pt (pw_and (sndC o a h1) (pw_and (sndC o b h2) (pw_and1 (sndC o d h3))))) fun σ H Q ⟨W, ρ, st, e, r, l, p⟩ => ?_
    subst e
    unfold evC at p
    refine ⟨W, ρ, st, rfl, r, l, p.bnd.imp fun b st1 W1 e1 r1 p1 => ?_⟩
    cases b with
    | true =>
      refine iteT ⟨W1, ρ, st1, rfl, r1, l.ext e1, Post.imp (Post.bnd p1) fun b st2 W2 e2 r2 p2 => ?_⟩
      cases b with
      | true => exact iteT ⟨W2, ρ, st2, rfl, r2, (l.ext e1).ext e2, p2⟩
      | false => exact iteF (p2.self r2)
    | false => exact iteF (p1.self r1)
  | .or3 a b d p, h => by
    unfold okE at h
    obtain ⟨h, h3⟩ := and2 h
    obtain ⟨h1, h2⟩ := and2 h
    unfold Ex.e
    refine PT_weak (PW.pt (pw_or (sndC o a h1) (pw_or (sndC o b h2) (pw_or1 (sndC o d h3))))) fun σ H Q ⟨W, ρ, st, e, r, l, p⟩ => ?_
    subst e
    unfold evC at p
    refine ⟨W, ρ, st, rfl, r, l, p.bnd.imp fun b st1 W1 e1 r1 p1 => ?_⟩
    cases b with
    | false =>
      refine iteF ⟨W1, ρ, st1, rfl, r1, l.ext e1, Post.imp (Post.bnd p1) fun b st2 W2 e2 r2 p2 => ?_⟩
      cases b with
      | false => exact iteF ⟨W2, ρ, st2, rfl, r2, (l.ext e1).ext e2, p2⟩
      | true => exact iteT (p2.self r2)
    | true => exact iteT (p1.self r1)
  | .or4 a b d g p, h => by
    unfold okE at h
    obtain ⟨h, h4⟩ := and2 h
    obtain ⟨h, h3⟩ := and2 h
    obtain ⟨h1, h2⟩ := and2 h
    unfold Ex.e
    refine PT_weak (PW.pt (pw_or (sndC o a h1) (pw_or (sndC o b h2) (pw_or (sndC o d h3) (pw_or1 (sndC o g h4)))))) fun σ H Q ⟨W, ρ, st, e, r, l, p⟩ => ?_
    subst e
    unfold evC at p
    refine ⟨W, ρ, st, rfl, r, l, p.bnd.imp fun b st1 W1 e1 r1 p1 => ?_⟩
    cases b with
    | false =>
      refine iteF ⟨W1, ρ, st1, rfl, r1, l.ext e1, Post.imp (Post.bnd p1) fun b st2 W2 e2 r2 p2 => ?_⟩
      cases b with
      | false =>
        refine iteF ⟨W2, ρ, st2, rfl, r2, (l.ext e1).ext e2, Post.imp (Post.bnd p2) fun b st3 W3 e3 r3 p3 => ?_⟩
        cases b with
        | false => exact iteF ⟨W3, ρ, st3, rfl, r3, ((l.ext e1).ext e2).ext e3, p3⟩
        | true => exact iteT (p3.self r3)
      | true => exact iteT (p2.self r2)
    | true => exact iteT (p1.self r1)
  | .and4 a b d g p, h => by
    unfold okE at h
    obtain ⟨h, h4⟩ := and2 h
    obtain ⟨h, h3⟩ := and2 h
    obtain ⟨h1, h2⟩ := and2 h
    unfold Ex.e
    refine PT_weak (PW.pt (pw_and (sndC o a h1) (pw_and (sndC o b h2) (pw_and (sndC o d h3) (pw_and1 (sndC o g h4)))))) fun σ H Q ⟨W, ρ, st, e, r, l, p⟩ => ?_
    subst e
    unfold evC at p
    refine ⟨W, ρ, st, rfl, r, l, p.bnd.imp fun b st1 W1 e1 r1 p1 => ?_⟩
    cases b with
    | true =>
      refine iteT ⟨W1, ρ, st1, rfl, r1, l.ext e1, Post.imp (Post.bnd p1) fun b st2 W2 e2 r2 p2 => ?_⟩
      cases b with
      | true =>
        refine iteT ⟨W2, ρ, st2, rfl, r2, (l.ext e1).ext e2, Post.imp (Post.bnd p2) fun b st3 W3 e3 r3 p3 => ?_⟩
        cases b with
        | true => exact iteT ⟨W3, ρ, st3, rfl, r3, ((l.ext e1).ext e2).ext e3, p3⟩
        | false => exact iteF (p3.self r3)
      | false => exact iteF (p2.self r2)
    | false => exact iteF (p1.self r1)
  | .cmp op a b p, h => by
    unfold okE at h
    obtain ⟨h, h4⟩ := and2 h
    obtain ⟨h, h3⟩ := and2 h
    obtain ⟨h1, h2⟩ := and2 h
    unfold Ex.e
    refine PT_weak (pt_cmpR (cmp_sound (xq := xqE E) op o.un) (sndE o a h1) (sndE o b h2) (nobehind _ (by simpa using h3) (by simpa using h4))) fun σ H Q ⟨W, ρ, st, e, r, l, p⟩ => ?_
    subst e
    unfold evC at p
    refine ⟨W, ρ, st, rfl, r, l, p.bnd.imp fun x st1 W1 e1 r1' p1 v1 hv1 => ?_⟩
    refine ⟨W1, ρ, st1, rfl, r1', l.ext e1, p1.bnd.imp fun y st2 W2 e2 r2' p2 v2 hv2 => ?_⟩
    refine ⟨W2, st2, x, y, rfl, r2', hv1.ext e2, hv2, p2.bnd.imp fun z st3 W3 e3 r3' p3 v3 hv3 => ?_⟩
    split at p3
    · unfold RV at hv3; subst hv3
      exact ⟨_, rfl, p3.self r3'⟩
    · exact p3.elim
  | .ifx _ _ _ _ _ _ _, h => fun pins s σ H Q I ⟨W, ρ, st, e, r, l, p⟩ => by unfold evC at p; exact p.elim
  | .var i x p, h => PT_weak (test_val (sndE o _ h) (by unfold Ex.e; intro _; rfl)) fun σ H Q q => tT_weak (fun ρ st => by rw [evC.eq_def]) q
  | .int i k p, h => PT_weak (test_val (sndE o _ h) (by unfold Ex.e; intro _; rfl)) fun σ H Q q => tT_weak (fun ρ st => by rw [evC.eq_def]) q
  | .bl b k p, h => PT_weak (test_val (sndE o _ h) (by unfold Ex.e; intro _; rfl)) fun σ H Q q => tT_weak (fun ρ st => by rw [evC.eq_def]) q
  | .non k p, h => PT_weak (test_val (sndE o _ h) (by unfold Ex.e; intro _; rfl)) fun σ H Q q => tT_weak (fun ρ st => by rw [evC.eq_def]) q
  | .str x k p, h => PT_weak (test_val (sndE o _ h) (by unfold Ex.e; intro _; rfl)) fun σ H Q q => tT_weak (fun ρ st => by rw [evC.eq_def]) q
  | .glo i x p, h => PT_weak (test_val (sndE o _ h) (by unfold Ex.e; intro _; rfl)) fun σ H Q q => tT_weak (fun ρ st => by rw [evC.eq_def]) q
  | .bin op a b p, h => PT_weak (test_val (sndE o _ h) (by unfold Ex.e; intro _; rfl)) fun σ H Q q => tT_weak (fun ρ st => by rw [evC.eq_def]) q
  | .neg a p, h => PT_weak (test_val (sndE o _ h) (by unfold Ex.e; intro _; rfl)) fun σ H Q q => tT_weak (fun ρ st => by rw [evC.eq_def]) q
  | .tup xs k p, h => PT_weak (test_val (sndE o _ h) (by unfold Ex.e; intro _; rfl)) fun σ H Q q => tT_weak (fun ρ st => by rw [evC.eq_def]) q
  | .lst xs p, h => PT_weak (test_val (sndE o _ h) (by unfold Ex.e; intro _; rfl)) fun σ H Q q => tT_weak (fun ρ st => by rw [evC.eq_def]) q
  | .ix a b p, h => PT_weak (test_val (sndE o _ h) (by unfold Ex.e; intro _; rfl)) fun σ H Q q => tT_weak (fun ρ st => by rw [evC.eq_def]) q
  | .slLo a lo p2 p, h => PT_weak (test_val (sndE o _ h) (by unfold Ex.e; intro _; rfl)) fun σ H Q q => tT_weak (fun ρ st => by rw [evC.eq_def]) q
  | .slHi a lo p2 p, h => PT_weak (test_val (sndE o _ h) (by unfold Ex.e; intro _; rfl)) fun σ H Q q => tT_weak (fun ρ st => by rw [evC.eq_def]) q
  | .slLH a lo hi p2 p, h => PT_weak (test_val (sndE o _ h) (by unfold Ex.e; intro _; rfl)) fun σ H Q q => tT_weak (fun ρ st => by rw [evC.eq_def]) q
  | .call f x pn a xs p, h => PT_weak (test_val (sndE o _ h) (by unfold Ex.e; intro _; rfl)) fun σ H Q q => tT_weak (fun ρ st => by rw [evC.eq_def]) q
  | .bi b pn a p, h => PT_weak (test_val (sndE o _ h) (by unfold Ex.e; intro _; rfl)) fun σ H Q q => tT_weak (fun ρ st => by rw [evC.eq_def]) q
  | .isi ty pn pt a p, h => PT_weak (test_val (sndE o _ h) (by unfold Ex.e; intro _; rfl)) fun σ H Q q => tT_weak (fun ρ st => by rw [evC.eq_def]) q
  | .isx cx pn pt a p, h => PT_weak (test_val (sndE o _ h) (by unfold Ex.e; intro _; rfl)) fun σ H Q q => tT_weak (fun ρ st => by rw [evC.eq_def]) q
  | .isxs cs k pt pn a p, h => PT_weak (test_val (sndE o _ h) (by unfold Ex.e; intro _; rfl)) fun σ H Q q => tT_weak (fun ρ st => by rw [evC.eq_def]) q
  | .isv pn pt a p, h => PT_weak (test_val (sndE o _ h) (by unfold Ex.e; intro _; rfl)) fun σ H Q q => tT_weak (fun ρ st => by rw [evC.eq_def]) q
  | .mm mx pn a b p, h => PT_weak (test_val (sndE o _ h) (by unfold Ex.e; intro _; rfl)) fun σ H Q q => tT_weak (fun ρ st => by rw [evC.eq_def]) q
  | .lc elt g k a b pn pr sc own p, h => PT_weak (test_val (sndE o _ h) (by unfold Ex.e; intro _; rfl)) fun σ H Q q => tT_weak (fun ρ st => by rw [evC.eq_def]) q
  | .app ob ap a p, h => PT_weak (test_val (sndE o _ h) (by unfold Ex.e; intro _; rfl)) fun σ H Q q => tT_weak (fun ρ st => by rw [evC.eq_def]) q
  | .dct0 p, h => PT_weak (test_val (sndE o _ h) (by unfold Ex.e; intro _; rfl)) fun σ H Q q => tT_weak (fun ρ st => by rw [evC.eq_def]) q
  | .dct1 k v p, h => PT_weak (test_val (sndE o _ h) (by unfold Ex.e; intro _; rfl)) fun σ H Q q => tT_weak (fun ρ st => by rw [evC.eq_def]) q
end
end Ev

namespace Ev
open PySem PySem.Spec L2
def PostS (K : PySem.W.Frag) (r : Option Fl) (W : Wd) (xq : XQ) (D : Ends) : Prop := match r with
  | none => False
  | some (.nx ρ st) => ∀ W' σ', Ext W W' → Rep K st W' → RL K W' ρ σ' → D.nx σ' W'.H
  | some (.bk ρ st) => ∀ W' σ', Ext W W' → Rep K st W' → RL K W' ρ σ' → D.bk σ' W'.H
  | some (.ct ρ st) => ∀ W' σ', Ext W W' → Rep K st W' → RL K W' ρ σ' → D.ct σ' W'.H
  | some (.rt t st) => ∀ W' v, Ext W W' → Rep K st W' → RV K W' t v → D.rt v W'.H
  | some (.ex c st) => ∀ W', Ext W W' → Rep K st W' → xq c st W'
def tS (K : PySem.W.Frag) (xq : XQ) (f : Lo → Sto → Option Fl) : TS := fun D σ H => ∃ W ρ st, W.H = H ∧ Rep K st W ∧ RL K W ρ σ ∧ PostS K (f ρ st) W xq D
section
variable {K : PySem.W.Frag} {W W' : Wd} {xq : XQ} {r : Option Fl} {D : Ends} {α : Type}
theorem PostS.ext (h : PostS K r W xq D) (e : Ext W W') : PostS K r W' xq D := by
  cases r with
  | none => exact h
  | some f => cases f with
    | nx ρ st => exact fun W2 s2 e2 => h W2 s2 (e.trans e2)
    | bk ρ st => exact fun W2 s2 e2 => h W2 s2 (e.trans e2)
    | ct ρ st => exact fun W2 s2 e2 => h W2 s2 (e.trans e2)
    | rt t st => exact fun W2 v2 e2 => h W2 v2 (e.trans e2)
    | ex cc st => exact fun W2 e2 => h W2 (e.trans e2)
theorem PostS.bndS {r : Re α} {f : α → Sto → Option Fl} (h : PostS K (bndS r f) W xq D) : Post K r W xq (fun a st1 W1 => PostS K (f a st1) W1 xq D) := by
  cases r with
  | none => exact h
  | some o => cases o with
    | ok a st => exact fun W2 e2 r2 => PostS.ext (show PostS K (f a st) W xq D from h) e2
    | ex cc st => exact h
theorem PostS.seqS {f : Lo → Sto → Option Fl} (h : PostS K (seqS r f) W xq D) : PostS K r W xq { D with nx := tS K xq f D } := by
  cases r with
  | none => exact h
  | some o => cases o with
    | nx ρ st => exact fun W2 s2 e2 r2 l2 => ⟨W2, ρ, st, rfl, r2, l2, PostS.ext (show PostS K (f ρ st) W xq D from h) e2⟩
    | bk ρ st => exact h
    | ct ρ st => exact h
    | rt t st => exact h
    | ex cc st => exact h
/-- forgetting what was made since there were n -/
abbrev Wd.cut (W : Wd) (n : Nat) : Wd := { W with n := n }
mutual
theorem RV.cut {n : Nat} : ∀ {t : T} {v : V}, RV K W t v → t.blw n = true → RV K (W.cut n) t v
  | .non, _, h, _ => h
  | .bl _, _, h, _ => h
  | .int _, _, h, _ => h
  | .str _, _, h, _ => h
  | .tup xs, v, h, b => by
    unfold RV at h ⊢
    obtain ⟨a, vs, e1, h1, h2⟩ := h
    exact ⟨a, vs, e1, h1, RVs.cut h2 (by unfold T.blw at b; exact b)⟩
  | .ref i, v, h, b => by
    unfold RV at h ⊢
    unfold T.blw at b
    exact ⟨of_decide_eq_true b, h.2⟩
  | .exc _, _, h, _ => by unfold RV at h ⊢; exact h
theorem RVs.cut {n : Nat} : ∀ {ts : List T} {vs : List V}, RVs K W ts vs → T.blws n ts = true → RVs K (W.cut n) ts vs
  | [], _, h, _ => h
  | t :: r, vs, h, b => by
    unfold RVs at h ⊢
    unfold T.blws at b
    obtain ⟨b1, b2⟩ := and2 b
    obtain ⟨v, q, e1, h1, h2⟩ := h
    exact ⟨v, q, e1, RV.cut h1 b1, RVs.cut h2 b2⟩
end
theorem RK.cut {n : Nat} : ∀ {ts : List (Key × T)} {vs : List (Key × V)}, RK K W ts vs → (ts.all fun q => q.2.blw n) = true → RK K (W.cut n) ts vs
  | [], _, h, _ => h
  | t :: r, vs, h, b => by
    unfold RK at h ⊢
    rw [List.all_cons] at b
    obtain ⟨b1, b2⟩ := and2 b
    obtain ⟨v, q, e1, h1, h2⟩ := h
    exact ⟨v, q, e1, h1.cut b1, RK.cut h2 b2⟩
theorem RO.cut {n : Nat} {a : Addr} {o : O} (h : RO K W a o) (b : o.blw n = true) : RO K (W.cut n) a o := by
  cases o with
  | lst xs => obtain ⟨vs, h1, h2⟩ := h; exact ⟨vs, h1, h2.cut b⟩
  | fz xs => obtain ⟨vs, h1, h2⟩ := h; exact ⟨vs, h1, h2.cut b⟩
  | dk kvs => obtain ⟨vs, h1, h2⟩ := h; exact ⟨vs, h1, h2.cut b⟩
theorem Rep.cut {st st' : Sto} {n : Nat} (r : Rep K st W) (e : trimS n st = some st') : Rep K st' (W.cut n) ∧ st' = st.take n ∧ n ≤ st.length := by
  unfold trimS at e
  split at e
  · rename_i h
    cases e
    obtain ⟨h1, h2⟩ := and2 h
    have h2 := of_decide_eq_true h2
    have get : ∀ (i : Nat) (o : O), (st.take n)[i]? = some o → st[i]? = some o := fun i o q => by
      rw [List.getElem?_take] at q
      split at q
      · exact q
      · cases q
    refine ⟨⟨by simp [h2], fun i o q => (r.at_ i o (get i o q)).cut (List.all_eq_true.mp h1 o (List.mem_of_getElem? q)), fun i j o u q1 q2 m1 m2 q3 => r.inj i j o u (get i o q1) (get j u q2) m1 m2 q3⟩, rfl, h2⟩
  · cases e
theorem RL.cut {ρ : Lo} {σ : L2.St} {n : Nat} (l : RL K W ρ σ) : RL K (W.cut n) (trimL n ρ) σ := by
  refine ⟨by unfold trimL; rw [List.length_map]; exact l.1, fun i t e => ?_⟩
  unfold trimL at e
  rw [List.getElem?_map] at e
  cases q : ρ[i]? with
  | none => rw [q] at e; cases e
  | some o =>
    rw [q] at e
    cases o with
    | none => cases e
    | some u =>
      have e' : (if u.blw n then some u else none) = some t := Option.some.inj e
      split at e'
      · rename_i b
        cases e'
        obtain ⟨v, h1, h2⟩ := l.2 i _ q
        exact ⟨v, h1, h2.cut b⟩
      · cases e'
theorem Ext.cut {W0 : Wd} {n : Nat} (e : Ext W0 W) (h : W0.n ≤ n) : Ext W0 (W.cut n) := ⟨h, e.m, e.tup, e.frz, e.xt⟩
end
/-! ### targets -/
def okN (c : Cfg) (i : Nat) (x : Str) : Bool := c.N[i]? == some x && locB c.sc x
def okG (c : Cfg) : Tg → Bool
  | .nm i x _ => okN c i x
  | .tp xs _ _ => xs.all fun q => okN c q.1 q.2.1
section
variable {X : Cx} {c : Cfg} {Γ : Fns} {E : XK}
theorem pg_nm (o : XOk X c Γ E) (hs : c.stm = true) {i : Nat} {x : Str} {p : Pos} (h : okN c i x = true) : PG X (.Name x p) (gName i) := by
  obtain ⟨h1, h2⟩ := and2 h
  exact pg_name (by rw [o.N]; exact o.nd) (by rw [o.N]; exact beq_iff_eq.mp h1) (by rw [o.sc]; exact loc_of h2) (.inl ((o.stm hs).1 x))
theorem pgs_nms (o : XOk X c Γ E) (hs : c.stm = true) : ∀ (xs : List (Nat × Str × Pos)), (xs.all fun q => okN c q.1 q.2.1) = true → PGs X (xs.map fun q => .Name q.2.1 q.2.2) (gsOf xs)
  | [], _ => pgs_nil
  | q :: r, h => by
    rw [List.all_cons] at h
    obtain ⟨h1, h2⟩ := and2 h
    exact pgs_cons (pg_nm o hs h1) (pgs_nms o hs r h2)
theorem pg_sound (o : XOk X c Γ E) (hs : c.stm = true) (g : Tg) (h : okG c g = true) : PG X g.e (gOf X.K g) := by
  cases g with
  | nm i x p => exact pg_nm o hs h
  | tp xs k p => exact pg_tup o.calm (pgs_nms o hs xs h) (each_len _ xs) (each_idx _ xs)
/-! ### loops -/
theorem for_sound {K : PySem.W.Frag} {J : L2.It} {D : Ends} {W0 : Wd} {items : List T} {src : Sto → Bool} {trim : Bool} {g : Tg} {b : Lo → Sto → Option Fl} {ρ : Lo} {st : Sto} {σ : L2.St}
    (hgo : ∀ (i : Nat) (t : T) (W : Wd) (st : Sto), Ext W0 W → Rep K st W → src st = true → items[i]? = some t → J.go i W.H ∧ ∀ x H', J.yld i W.H x H' → H' = W.H ∧ RV K W t x)
    (hstop : ∀ (W : Wd) (st : Sto), Ext W0 W → Rep K st W → src st = true → J.stop items.length W.H)
    (r : Rep K st W0) (l : RL K W0 ρ σ) (p : PostS K (loopF src trim st.length g b items ρ st) W0 (xqE E) D) :
    ∃ Wi : Nat → Nat → L2.St → Hp → Prop, (∃ m, Wi 0 m σ W0.H) ∧ ∀ i m σ H, Wi i m σ H →
      (J.stop i H ∧ D.nx σ H) ∨ (J.go i H ∧ ∃ N : L2.St → Hp → Prop, (∀ σ' H', N σ' H' → ∃ m', m' < m ∧ Wi (i + 1) m' σ' H') ∧ ∀ x H', J.yld i H x H' → gOf K g x σ H' fun σ2 H2 => tS K (xqE E) b { D with nx := N, ct := N, bk := D.nx } σ2 H2) := by
  have key : ∀ i : Nat, i ≤ items.length → items.length - i + i = items.length := fun i h => by omega
  refine ⟨fun i m σ H => ∃ W ρ st', W.H = H ∧ Rep K st' W ∧ RL K W ρ σ ∧ Ext W0 W ∧ (trim = true → W.n = W0.n) ∧ i ≤ items.length ∧ m = items.length - i ∧ PostS K (loopF src trim st.length g b (items.drop i) ρ st') W (xqE E) D,
    ⟨_, W0, ρ, st, rfl, r, l, Ext.refl _, fun _ => rfl, Nat.zero_le _, rfl, p⟩, ?_⟩
  rintro i m σ H ⟨W, ρ, st', rfl, r, l, e0, ht, hi, rfl, p⟩
  by_cases hlt : i < items.length
  · have hd : items.drop i = items[i] :: items.drop (i + 1) := List.drop_eq_getElem_cons hlt
    rw [hd] at p
    unfold loopF at p
    split at p
    · rename_i hs
      have hit : items[i]? = some items[i] := List.getElem?_eq_getElem hlt
      obtain ⟨go, yld⟩ := hgo i items[i] W st' e0 r hs hit
      refine .inr ⟨go, fun σ' H' => ∃ W' ρ' st'', W'.H = H' ∧ Rep K st'' W' ∧ RL K W' ρ' σ' ∧ Ext W0 W' ∧ (trim = true → W'.n = W0.n) ∧ i + 1 ≤ items.length ∧ PostS K (loopF src trim st.length g b (items.drop (i + 1)) ρ' st'') W' (xqE E) D, fun σ' H' hN => ?_, fun x H' hy => ?_⟩
      · obtain ⟨W', ρ', st'', h1, h2, h3, h4, h5, h6, h7⟩ := hN
        exact ⟨items.length - (i + 1), by omega, W', ρ', st'', h1, h2, h3, h4, h5, h6, rfl, h7⟩
      · obtain ⟨rfl, hv⟩ := yld x H' hy
        split at p
        · exact p.elim
        · rename_i ρ1 eg
          refine g_set g eg hv l fun σ1 l1 => ⟨W, ρ1, st', rfl, r, l1, ?_⟩
          have again : ∀ {ρ' : Lo} {s2 : Sto}, PostS K ((turnEnd trim st.length ρ' s2).bind fun q => loopF src trim st.length g b (items.drop (i + 1)) q.1 q.2) W (xqE E) D →
              ∀ W' σ', Ext W W' → Rep K s2 W' → RL K W' ρ' σ' → ∃ W'' ρ'' st'', W''.H = W'.H ∧ Rep K st'' W'' ∧ RL K W'' ρ'' σ' ∧ Ext W0 W'' ∧ (trim = true → W''.n = W0.n) ∧ i + 1 ≤ items.length ∧ PostS K (loopF src trim st.length g b (items.drop (i + 1)) ρ'' st'') W'' (xqE E) D := fun {ρ' s2} p W' σ' e' r' l' => by
            unfold turnEnd at p
            cases trim with
            | false =>
              exact ⟨W', ρ', s2, rfl, r', l', e0.trans e', (fun z => by cases z), hlt, PostS.ext (show PostS K (loopF src false st.length g b (items.drop (i + 1)) ρ' s2) W (xqE E) D from p) e'⟩
            | true =>
              rw [if_pos rfl] at p
              cases q : trimS st.length s2 with
              | none => rw [q] at p; exact p.elim
              | some s3 =>
                rw [q] at p
                obtain ⟨r3, _, hn⟩ := r'.cut q
                have hsn : st.length = W0.n := by
                  have := ‹Rep K st W0›
                  exact this.len
                refine ⟨W'.cut st.length, _, s3, rfl, r3, l'.cut, (e0.trans e').cut (by rw [hsn]; exact Nat.le_refl _), fun _ => hsn, hlt, PostS.ext (show PostS K (loopF src true st.length g b (items.drop (i + 1)) _ s3) W (xqE E) D from p) (e'.cut (by rw [ht rfl, hsn]; exact Nat.le_refl _))⟩
          revert p
          cases b ρ1 st' with
          | none => intro p; exact p
          | some fl => cases fl with
            | nx ρ' s2 => intro p W' σ' e' r' l'; exact again p W' σ' e' r' l'
            | ct ρ' s2 => intro p W' σ' e' r' l'; exact again p W' σ' e' r' l'
            | bk ρ' s2 => intro p W' σ' e' r' l'; exact p W' σ' e' r' l'
            | rt t s2 => intro p; exact p
            | ex cc s2 => intro p; exact p
    · exact p.elim
  · have hi' : i = items.length := by omega
    subst hi'
    rw [List.drop_length] at p
    unfold loopF at p
    split at p
    · rename_i hs
      exact .inl ⟨hstop W st' e0 r hs, p W σ (Ext.refl _) r l⟩
    · exact p.elim
end
end Ev

namespace Ev
open PySem PySem.Spec L2
theorem PS_weak {X : Cx} {s : Stmt} {t t' : TS} (h : PS X s t') (q : ∀ D σ H, t D σ H → t' D σ H) : PS X s t := fun pins s σ H D I hw => h pins s σ H D I (q D σ H hw)
theorem PSs_weak {X : Cx} {s : List Stmt} {t t' : TS} (h : PSs X s t') (q : ∀ D σ H, t D σ H → t' D σ H) : PSs X s t := fun pins s σ H D I hw => h pins s σ H D I (q D σ H hw)
def notLc : Ex → Bool
  | .lc _ _ _ _ _ _ _ _ _ _ => false
  | _ => true
def isName : Ex → Bool
  | .tup _ _ _ => false
  | _ => true
def okI (c : Cfg) : It → Bool
  | .lst a => okE c a
  | .tup a => okE c a
  | .rng1 a _ _ => okE c a && c.bl.contains "range" && glB c.sc "range"
  | .rng2 a b _ _ => okE c a && okE c b && c.bl.contains "range" && glB c.sc "range"
def lclB (sc : Scope) (x : Str) : Bool := match sc.names.lookup x with
  | some .local => true
  | _ => false
mutual
def okS (c : Cfg) : Sx → Bool
  | .asg g a _ => notLc a && okG c g && okE c a && (match g with | .nm _ _ _ => true | .tp _ _ _ => isName a)
  | .par i x px j y py k pt a b k2 pt2 p => okN c i x && okN c j y && lclB c.sc x && lclB c.sc y && (i != j) && (x != y) && (px.line == py.line) && okE c a && okE c b && !([a.e, b.e].all (foldedForSure 8)) && !([a.e, b.e].all (constantsAlone 8))
  | .put o i _ a _ => notLc a && okE c o && okE c i && okE c a
  | .exp a _ => notLc a && okE c a
  | .ret a _ => okE c a
  | .ife k a b _ => okE c k && okSs c a && okSs c b
  | .whl k b _ => okE c k && okSs c b
  | .fr g it b _ _ => okG c g && okI c it && okSs c b
  | .brk _ => true
  | .con _ => true
  | .pas _ => true
  | .rse cx _ a _ _ => c.xc.contains cx && glB c.sc (xname cx) && nmB (xname cx) && okE c a
  | .tre f x _ a xs _ _ cx _ i n j v _ _ _ _ _ => c.fn.contains (f, x) && glB c.sc x && nmB x && okE c a && okEs c xs && c.xc.contains cx && glB c.sc (xname cx) && nmB (xname cx) && c.N[i]? == some n && c.N[j]? == some v && lclB c.sc n && lclB c.sc v && nmB n
def okSs (c : Cfg) : List Sx → Bool
  | [] => true
  | x :: r => okS c x && okSs c r
end
section
variable {X : Cx} {c : Cfg} {Γ : Fns} {E : XK}
theorem swaps_plain (x : Ex) (hn : notLc x = true) (t : Expr) (ln : Nat) (env : Env) : swapsWith x.e (some t) ln env = pure false := by
  cases x <;> first | (cases hn; done) | (unfold Ex.e; cases t <;> rfl)
theorem swaps_none (x : Ex) (hn : notLc x = true) (ln : Nat) (env : Env) : swapsWith x.e none ln env = pure false := by
  cases x <;> first | (cases hn; done) | (unfold Ex.e; rfl)
theorem stores_plain (x : Ex) (h : isName x = true) (t : Expr) (env : Env) : swappedStores [t] x.e env = pure none := by
  cases x <;> first | (cases h; done) | (unfold Ex.e; cases t <;> rfl)
theorem lcl_of {sc : Scope} {x : Str} (h : lclB sc x = true) : sc.names.lookup x = some .local := by
  unfold lclB at h
  split at h
  · assumption
  · cases h
theorem stores_par {x y : Str} {px py pt pt2 : Pos} {kt k2 : Nat} {a b : Ex} {env : Env} (hk : env.scope.kind = .function) (hx : env.scope.names.lookup x = some .local) (hy : env.scope.names.lookup y = some .local) (hxy : x ≠ y) (hl : px.line = py.line)
    (hf : [a.e, b.e].all (foldedForSure 8) = false) (hc : [a.e, b.e].all (constantsAlone 8) = false) :
    swappedStores [.Tuple [.Name x px, .Name y py] kt pt] (.Tuple [a.e, b.e] k2 pt2) env = pure (some [x, y]) := by
  have hb : env.blockKind = .function := by unfold Env.blockKind; rw [hk]; rfl
  have h1 : (env.kindOf x == some .local) = true := by unfold Env.kindOf; rw [hx]; rfl
  have h2 : (env.kindOf y == some .local) = true := by unfold Env.kindOf; rw [hy]; rfl
  have hn : ([x, y] : List Str).eraseDups.length = 2 := by
    have hyx : (y == x) = false := beq_eq_false_iff_ne.mpr (Ne.symm hxy)
    simp [List.eraseDups_cons, hyx]
  have nm : ∀ (P : Str → Pos → Option Str), P x px = some x → P y py = some y → List.filterMap (fun e => match e with | .Name id pos => P id pos | _ => none) [Expr.Name x px, Expr.Name y py] = [x, y] := fun P e1 e2 => by
    simp [e1, e2]
  have hnm := nm (fun id pos => if (env.kindOf id == some NameKind.local && pos.line == (Option.map (fun x => x.pos.line) [Expr.Name x px, Expr.Name y py].head?).getD 0) = true then some id else none) (by
      show (if (env.kindOf x == some NameKind.local && px.line == px.line) = true then some x else none) = some x
      rw [h1]; simp) (by
      show (if (env.kindOf y == some NameKind.local && py.line == px.line) = true then some y else none) = some y
      rw [h2, hl]; simp)
  unfold swappedStores
  dsimp only
  rw [if_neg (show ¬ _ from by rw [hb]; simp), if_neg (show ¬ _ from by
    intro h
    simp only [List.any_cons, List.any_nil, Bool.or_false, Bool.or_eq_true] at h
    rcases h with h | h
    · cases a <;> (unfold Ex.e at h; cases h)
    · cases b <;> (unfold Ex.e at h; cases h))]
  first
    | rw [hnm]
    | (have hnm' : List.filterMap _ [Expr.Name x px, Expr.Name y py] = [x, y] := hnm; rw [hnm'])
    | (erw [hnm])
  rw [if_neg (show ¬ _ from by rw [hn]; simp), hf, hc]
  rfl
end
end Ev

namespace Ev
open PySem PySem.Spec L2
section
variable {X : Cx} {c : Cfg} {Γ : Fns} {E : XK}
theorem postS_pair {K : PySem.W.Frag} {W : Wd} {xq : XQ} {ra : Re T} {fb : Sto → Re T} {g : T → T → Sto → Option Fl} {D : Ends} (h : PostS K (bndS ra fun x st => bndS (fb st) fun y st => g x y st) W xq D) :
    Post K (bnd ra fun t st => bnd (bnd (fb st) fun t st => ok [t] st) fun ts st => ok (t :: ts) st) W xq (fun ts st2 W2 => ∃ x y, ts = [x, y] ∧ PostS K (g x y st2) W2 xq D) := by
  cases ra with
  | none => exact h
  | some q1 => cases q1 with
    | ex cc s1 => exact h
    | ok t s2 =>
      have h : PostS K (bndS (fb s2) fun y st => g t y st) W xq D := h
      show Post K (bnd (bnd (fb s2) fun t st => ok [t] st) fun ts st => ok (t :: ts) st) W xq _
      generalize fb s2 = q2 at h ⊢
      cases q2 with
      | none => exact h
      | some q2 => cases q2 with
        | ex cc s1 => exact h
        | ok u s3 => exact fun W2 e2 r2 => ⟨t, u, rfl, PostS.ext (show PostS K (g t u s3) W xq D from h) e2⟩
theorem put_plain (ob i : Ex) (pt : Pos) (env : Env) (v : Value) : assign (.Subscript ob.e i.e pt) env v = (do
      let ov ← holding [v] (eval ob.e env)
      let iv ← holding [v, ov] (eval i.e env)
      standAt pt
      holding [v, ov, iv] (setItem ov iv v)
      release [v, ov, iv] []) := by
  cases i <;> (unfold Ex.e; rfl)
/-- what a for walks -/
theorem it_sound (o : XOk X c Γ E) (hkind : True) (g : Tg) (b : Lo → Sto → Option Fl) (trim : Bool) : ∀ it : It, okI c it = true → ∃ wi : TI, PI X g.e it.e wi ∧
    ∀ D σ H, tS X.K (xqE E) (fun ρ st => bndS (evIt Γ it ρ st) fun q st => loopF q.2 trim st.length g b q.1 ρ st) D σ H → tFor wi (gOf X.K g) (tS X.K (xqE E) b) D σ H
  | .lst a, h => by
    unfold okI at h
    refine ⟨iList X.K (tE X.K (xqE E) (ev Γ a)), pi_list (sndE o a h), fun D σ H ⟨W, ρ, st, e, r, l, p⟩ => ?_⟩
    subst e
    refine ⟨W, ρ, st, rfl, r, l, ?_⟩
    have p1 := p.bndS
    unfold evIt at p1
    refine p1.bnd.imp fun x st1 W1 e1 r1 p2 v hv => ?_
    split at p2
    · rename_i n
      split at p2
      · rename_i xs ex
        have hv' := hv
        unfold RV at hv'
        have p3 := p2.self r1
        dsimp only at p3
        refine ⟨W1.m n, hv'.2, ?_, for_sound (src := sameAt n xs) (fun i t W2 st2 e2 r2 hs ht => ?_) (fun W2 st2 e2 r2 hs => ?_) r1 (l.ext e1) p3⟩
        · obtain ⟨a', vs, e', h1, h2⟩ := seq_sound r1 hv ex
          rw [hv'.2] at e'; cases e'
          rcases h2 with h2 | h2
          · exact ⟨vs, h2⟩
          · unfold seq? at ex
            dsimp only at ex
            split at ex
            · rename_i eq
              obtain ⟨ws, g1, g2⟩ := r1.at_ _ _ eq
              exact ⟨ws, .inl (.inl g1)⟩
            · rename_i eq
              obtain ⟨ws, g1, g2⟩ := r1.at_ _ _ eq
              exact ⟨ws, Rep.fzL g1⟩
            · cases ex
        · have hm : W2.m n = W1.m n := e2.m n hv'.1
          have hq : ∃ vs, SqL X.K W2.H (W1.m n) vs ∧ RVs X.K W2 xs vs := by
            unfold sameAt at hs
            split at hs
            · rename_i ys eq
              obtain ⟨ws, g1, g2⟩ := r2.at_ _ _ eq
              rw [hm] at g1
              exact ⟨ws, .inl (.inl g1), by rw [eqLs_eq hs]; exact g2⟩
            · rename_i ys eq
              obtain ⟨ws, g1, g2⟩ := r2.at_ _ _ eq
              rw [hm] at g1
              exact ⟨ws, Rep.fzL g1, by rw [eqLs_eq hs]; exact g2⟩
            · cases hs
          obtain ⟨vs, h1, h2⟩ := hq
          obtain ⟨w, h3, h4⟩ := h2.get ht
          refine ⟨⟨vs, w, h1, h3⟩, fun x H' hy => ⟨hy.1, ?_⟩⟩
          have := hy.2 vs h1
          rw [h3] at this; cases this
          exact h4
        · have hm : W2.m n = W1.m n := e2.m n hv'.1
          unfold sameAt at hs
          split at hs
          · rename_i ys eq
            obtain ⟨ws, g1, g2⟩ := r2.at_ _ _ eq
            rw [hm] at g1
            exact ⟨ws, .inl (.inl g1), by rw [eqLs_eq hs, g2.length]; exact Nat.le_refl _⟩
          · rename_i ys eq
            obtain ⟨ws, g1, g2⟩ := r2.at_ _ _ eq
            rw [hm] at g1
            exact ⟨ws, Rep.fzL g1, by rw [eqLs_eq hs, g2.length]; exact Nat.le_refl _⟩
          · cases hs
      · exact p2.elim
    · exact p2.elim
  | .tup a, h => by
    unfold okI at h
    refine ⟨iTup X.K (tE X.K (xqE E) (ev Γ a)), pi_tup (sndE o a h), fun D σ H ⟨W, ρ, st, e, r, l, p⟩ => ?_⟩
    subst e
    refine ⟨W, ρ, st, rfl, r, l, ?_⟩
    have p1 := p.bndS
    unfold evIt at p1
    refine p1.bnd.imp fun x st1 W1 e1 r1 p2 v hv => ?_
    split at p2
    · rename_i xs
      have hv' := hv
      unfold RV at hv'
      obtain ⟨a', vs, rfl, h1, h2⟩ := hv'
      have p3 := p2.self r1
      dsimp only at p3
      refine ⟨a', rfl, ⟨vs, h1⟩, for_sound (src := fun _ => true) (fun i t W2 st2 e2 r2 hs ht => ?_) (fun W2 st2 e2 r2 hs => ?_) r1 (l.ext e1) p3⟩
      · obtain ⟨w, h3, h4⟩ := (h2.ext e2).get ht
        refine ⟨⟨vs, w, SqT.ext e2 h1, h3⟩, fun x H' hy => ⟨hy.1, ?_⟩⟩
        have := hy.2 vs (SqT.ext e2 h1)
        rw [h3] at this; cases this
        exact h4
      · exact ⟨vs, SqT.ext e2 h1, by rw [h2.length]; exact Nat.le_refl _⟩
    · exact p2.elim
  | .rng1 a pn p, h => by
    unfold okI at h
    obtain ⟨h, h3⟩ := and2 h
    obtain ⟨h1, h2⟩ := and2 h
    refine ⟨_, pi_range1 (gl_of o h3) (o.bl _ h2) (tA_cons (sndE o a h1) (tA_nil (X := X) (xq := xqE E))) (star a [] X.env), fun D σ H ⟨W, ρ, st, e, r, l, p⟩ => ?_⟩
    subst e
    refine ⟨W, ρ, st, rfl, r, l, ?_⟩
    have p1 := p.bndS
    unfold evIt at p1
    have p1 := p1.bnd
    show Post X.K (bnd (ev Γ a ρ st) fun t st => ok [t] st) W (xqE E) _
    generalize ev Γ a ρ st = q1 at p1 ⊢
    cases q1 with
    | none => exact p1
    | some q1 => cases q1 with
      | ex cc s1 => exact p1
      | ok t s2 =>
        show Post X.K (ok [t] s2) W (xqE E) _
        intro W2 e2 r2 vs hvs
        have p3 := p1 W2 e2 r2
        dsimp only at p3
        split at p3
        · rename_i j
          obtain ⟨hr, p3⟩ := p3.ifT
          have hr := of_decide_eq_true hr
          unfold RVs at hvs
          obtain ⟨v2, q2, rfl, m1, m2⟩ := hvs
          unfold RVs at m2; subst m2
          unfold RV at m1; subst m1
          have p4 := p3.self r2
          dsimp only at p4
          refine ⟨j, rfl, hr.1, hr.2, for_sound (src := fun _ => true) (fun i t W3 st3 e3 r3 hs ht => ?_) (fun W3 st3 e3 r3 hs => ?_) r2 (l.ext e2) p4⟩
          · rw [rngT_get] at ht
            split at ht
            · rename_i hi
              cases ht
              exact ⟨hi, fun x H' hy => ⟨hy.1, by rw [hy.2]; unfold RV; rfl⟩⟩
            · cases ht
          · rw [rngT_len]; exact Nat.le_refl _
        · exact p3.elim
  | .rng2 a b pn p, h => by
    unfold okI at h
    obtain ⟨h, h4⟩ := and2 h
    obtain ⟨h, h3⟩ := and2 h
    obtain ⟨h1, h2⟩ := and2 h
    refine ⟨_, pi_range2 (gl_of o h4) (o.bl _ h3) (tA_cons (sndE o a h1) (tA_cons (sndE o b h2) (tA_nil (X := X) (xq := xqE E)))) (by rw [star, star]; rfl) (star b [] X.env), fun D σ H ⟨W, ρ, st, e, r, l, p⟩ => ?_⟩
    subst e
    refine ⟨W, ρ, st, rfl, r, l, ?_⟩
    have p1 := p.bndS
    unfold evIt at p1
    refine (post_pair (fb := fun st => ev Γ b ρ st) p1).imp fun ts st2 W2 e2 r2 q vs hvs => ?_
    obtain ⟨x, y, rfl, p3⟩ := q
    obtain ⟨v, w, rfl, m1, m2⟩ := hvs.two
    split at p3
    · rename_i i j
      obtain ⟨hr, p3⟩ := p3.ifT
      obtain ⟨hr1, hr2⟩ := and2 hr
      have hr1 := of_decide_eq_true hr1
      have hr2 := of_decide_eq_true hr2
      unfold RV at m1 m2; subst m1; subst m2
      have p4 := p3.self r2
      dsimp only at p4
      refine ⟨i, j, rfl, ⟨hr1.1, hr1.2, hr2.1, hr2.2⟩, for_sound (src := fun _ => true) (fun i t W3 st3 e3 r3 hs ht => ?_) (fun W3 st3 e3 r3 hs => ?_) r2 (l.ext e2) p4⟩
      · rw [rngT_get] at ht
        split at ht
        · rename_i hi
          cases ht
          exact ⟨hi, fun x H' hy => ⟨hy.1, by rw [hy.2]; unfold RV; rfl⟩⟩
        · cases ht
      · rw [rngT_len]; exact Nat.le_refl _
    · exact p3.elim
theorem PS_nox {s : Stmt} {t : TS} (h : PS X.nox s t) : PS X s t := fun pins s σ H D I hw =>
  wpAny_mono (h pins s σ H D (I.wish _) hw) (fun _ _ q => q.unwish) fun _ _ z => False.elim z
theorem PostS.noEx {K : PySem.W.Frag} {W : Wd} {xq xq' : XQ} {r : Option Fl} {D : Ends} (h : PostS K (noEx r) W xq D) : PostS K r W xq' D := by
  cases r with
  | none => exact h
  | some f => cases f with
    | nx ρ st => exact h
    | bk ρ st => exact h
    | ct ρ st => exact h
    | rt t st => exact h
    | ex cc st => exact h.elim
mutual
theorem sndS (hs : c.stm = true) (F : Nat) : ∀ (x : Sx) (X : Cx) (E : XK) (o : XOk X c Γ E), okS c x = true → PS X x.s (tS X.K (xqE E) (exS Γ F x))
  | .asg g a p, X, E, o, h => by
    unfold okS at h
    obtain ⟨h, h3⟩ := and2 h
    obtain ⟨h1, h2⟩ := and2 h
    obtain ⟨h0, h1⟩ := and2 h1
    unfold Sx.s
    cases g with
    | nm i x px =>
      unfold Tg.e
      obtain ⟨k1, k2⟩ := and2 (show okN c i x = true from h1)
      refine PS_weak (ps_set (i := i) (by rw [o.N]; exact o.nd) (by rw [o.N]; exact beq_iff_eq.mp k1) (by rw [o.sc]; exact loc_of k2) (sndE o a h2) (swaps_plain a h0 _ _ _) (.inl ((o.stm hs).1 x))) fun D σ H ⟨W, ρ, st, e, r, l, q⟩ => ?_
      subst e
      unfold exS at q
      refine ⟨W, ρ, st, rfl, r, l, q.bndS.imp fun t st1 W1 e1 r1 q1 v hv => ?_⟩
      exact q1 W1 _ (Ext.refl _) r1 ((l.ext e1).set hv i)
    | tp xs k px =>
      refine PS_weak (ps_asg (sndE o a h2) (pg_sound o hs (.tp xs k px) h1) (show swapsWithSole [Tg.e (.tp xs k px)] a.e p.line X.env = pure false from by unfold swapsWithSole; exact swaps_plain a h0 _ _ _) (stores_plain a h3 _ _)) fun D σ H ⟨W, ρ, st, e, r, l, q⟩ => ?_
      subst e
      unfold exS at q
      refine ⟨W, ρ, st, rfl, r, l, q.bndS.imp fun t st1 W1 e1 r1 q1 v hv => ?_⟩
      cases e2 : Tg.set (.tp xs k px) t ρ with
      | none => rw [e2] at q1; exact q1.elim
      | some ρ' =>
        rw [e2] at q1
        exact g_set (.tp xs k px) e2 hv (l.ext e1) fun σ' l' => q1 W1 σ' (Ext.refl _) r1 l'
  | .par i x px j y py k pt a b k2 pt2 p, X, E, o, h => by
    unfold okS at h
    obtain ⟨h, g11⟩ := and2 h
    obtain ⟨h, g10⟩ := and2 h
    obtain ⟨h, g9⟩ := and2 h
    obtain ⟨h, g8⟩ := and2 h
    obtain ⟨h, g7⟩ := and2 h
    obtain ⟨h, g6⟩ := and2 h
    obtain ⟨h, g5⟩ := and2 h
    obtain ⟨h, g4⟩ := and2 h
    obtain ⟨h, g3⟩ := and2 h
    obtain ⟨g1, g2⟩ := and2 h
    obtain ⟨k1, k3⟩ := and2 g1
    obtain ⟨k4, k5⟩ := and2 g2
    unfold Sx.s
    have hx : X.env.scope.names.lookup x = some .local := by rw [o.sc]; exact lcl_of g3
    have hy : X.env.scope.names.lookup y = some .local := by rw [o.sc]; exact lcl_of g4
    intro pins s σ H D I q
    refine ps_par (i := i) (j := j) o.calm (by rw [o.N]; exact o.nd) (by rw [o.N]; exact beq_iff_eq.mp k1) (by rw [o.N]; exact beq_iff_eq.mp k4) (by simpa using g5) hx hy (tA_cons (sndE o a g8) (tA_cons (sndE o b g9) (tA_nil (X := X) (xq := xqE E))))
      (stores_par I.ok.kind hx hy (by simpa using g6) (beq_iff_eq.mp g7) (by simpa only [Bool.not_eq_true'] using g10) (by simpa only [Bool.not_eq_true'] using g11)) rfl pins s σ H D I ?_
    obtain ⟨W, ρ, st, e, r, l, q⟩ := q
    subst e
    unfold exS at q
    refine ⟨W, ρ, st, rfl, r, l, (postS_pair (fb := fun st => ev Γ b ρ st) q).imp fun ts st2 W2 e2 r2 q vs hvs => ?_⟩
    obtain ⟨x, y, rfl, p3⟩ := q
    obtain ⟨v, w, rfl, m1, m2⟩ := hvs.two
    exact ⟨v, w, rfl, p3 W2 _ (Ext.refl _) r2 (((l.ext e2).set m1 i).set m2 j)⟩
  | .put ob i pt a p, X, E, o, h => by
    unfold okS at h
    obtain ⟨h, h3⟩ := and2 h
    obtain ⟨h1, h2⟩ := and2 h
    obtain ⟨h0, h1⟩ := and2 h1
    unfold Sx.s
    refine PS_weak (ps_asg (sndE o a h3) (pg_sub (sndE o ob h1) (sndE o i h2) set_list (put_plain ob i pt X.env)) (show swapsWithSole [.Subscript ob.e i.e pt] a.e p.line X.env = pure false from by unfold swapsWithSole; exact swaps_plain a h0 _ _ _) (by cases a <;> (unfold Ex.e; rfl)) rfl) fun D σ H ⟨W, ρ, st, e, r, l, q⟩ => ?_
    subst e
    unfold exS at q
    refine ⟨W, ρ, st, rfl, r, l, q.bndS.imp fun t st1 W1 e1 r1 q1 v hv => ?_⟩
    refine ⟨W1, ρ, st1, rfl, r1, l.ext e1, q1.bndS.imp fun x st2 W2 e2 r2 q2 vx hvx => ?_⟩
    refine ⟨W2, ρ, st2, rfl, r2, (l.ext e1).ext e2, q2.bndS.imp fun y st3 W3 e3 r3 q3 vy hvy => ?_⟩
    split at q3
    · rename_i n k
      split at q3
      · rename_i xs ex
        split at q3
        · rename_i j ej
          unfold RV at hvy; subst hvy
          have hvx' := hvx.ext e3
          unfold RV at hvx'
          obtain ⟨us, k1, k2⟩ := r3.at_ _ _ ex
          have hv3 := (hv.ext e2).ext e3
          refine ⟨W3.m n, us, k, j, hvx'.2, rfl, k1, by rw [← k2.length]; exact ej, ?_⟩
          obtain ⟨rep, ext⟩ := r3.write (u := .lst (us.set j v)) (ob := .lst (xs.set j t)) ex rfl rfl ⟨_, upd_same, ((k2.set hv3 j).ext (Rep.writeX r3 ex rfl))⟩
          exact q3 _ σ ext rep ((((l.ext e1).ext e2).ext e3).ext ext)
        · exact q3.elim
      · exact q3.elim
    · exact q3.elim
  | .exp a p, X, E, o, h => by
    unfold okS at h
    obtain ⟨h0, h⟩ := and2 h
    unfold Sx.s
    refine PS_weak (ps_expr (sndE o a h) (swaps_none a h0 _ _)) fun D σ H ⟨W, ρ, st, e, r, l, q⟩ => ?_
    subst e
    unfold exS at q
    exact ⟨W, ρ, st, rfl, r, l, q.bndS.imp fun t st1 W1 e1 r1 q1 v hv => q1 W1 σ (Ext.refl _) r1 (l.ext e1)⟩
  | .ret a p, X, E, o, h => by
    unfold okS at h
    unfold Sx.s
    refine PS_weak (ps_ret (sndE o a h)) fun D σ H ⟨W, ρ, st, e, r, l, q⟩ => ?_
    subst e
    unfold exS at q
    exact ⟨W, ρ, st, rfl, r, l, q.bndS.imp fun t st1 W1 e1 r1 q1 v hv => q1 W1 v (Ext.refl _) r1 hv⟩
  | .ife k a b p, X, E, o, h => by
    unfold okS at h
    obtain ⟨h, h3⟩ := and2 h
    obtain ⟨h1, h2⟩ := and2 h
    unfold Sx.s
    refine PS_weak (ps_if (sndC o k h1) (sndSs hs F a X E o h2) (sndSs hs F b X E o h3)) fun D σ H ⟨W, ρ, st, e, r, l, q⟩ => ?_
    subst e
    unfold exS at q
    refine ⟨W, ρ, st, rfl, r, l, q.bndS.imp fun t st1 W1 e1 r1 q1 => ?_⟩
    cases t with
    | true => exact iteT ⟨W1, ρ, st1, rfl, r1, l.ext e1, q1⟩
    | false => exact iteF ⟨W1, ρ, st1, rfl, r1, l.ext e1, q1⟩
  | .whl k b p, X, E, o, h => by
    unfold okS at h
    obtain ⟨h1, h2⟩ := and2 h
    unfold Sx.s
    refine PS_weak (PS_nox (ps_while PassesOwn.never (sndC o.nox k h1) (sndSs hs F b X.nox E0 o.nox h2))) fun D σ H ⟨W, ρ, st, e, r, l, q⟩ => ?_
    subst e
    unfold exS at q
    have q := q.noEx (xq' := xqE E0)
    refine ⟨fun m σ H => ∃ W ρ st, W.H = H ∧ Rep X.K st W ∧ RL X.K W ρ σ ∧ PostS X.K (loopW (evC Γ k) (exSs Γ F b) m ρ st) W (xqE E0) D, ⟨F, W, ρ, st, rfl, r, l, q⟩, ?_⟩
    rintro m σ H ⟨W, ρ, st, rfl, r, l, q⟩
    cases m with
    | zero => exact q.elim
    | succ m =>
      unfold loopW at q
      refine ⟨W, ρ, st, rfl, r, l, q.bndS.imp fun t st1 W1 e1 r1 q1 => ?_⟩
      cases t with
      | false => exact iteF (q1 W1 σ (Ext.refl _) r1 (l.ext e1))
      | true =>
        refine iteT ⟨fun σ H => ∃ W ρ st, W.H = H ∧ Rep X.K st W ∧ RL X.K W ρ σ ∧ PostS X.K (loopW (evC Γ k) (exSs Γ F b) m ρ st) W (xqE E0) D, fun σ' H' hN => ⟨m, Nat.lt_succ_self _, hN⟩, W1, ρ, st1, rfl, r1, l.ext e1, ?_⟩
        rw [if_pos rfl] at q1
        revert q1
        cases exSs Γ F b ρ st1 with
        | none => exact id
        | some fl => cases fl with
          | nx ρ' s2 => intro q1 W' σ' e' r' l'; exact ⟨W', ρ', s2, rfl, r', l', PostS.ext (show PostS X.K (loopW (evC Γ k) (exSs Γ F b) m ρ' s2) W1 (xqE E0) D from q1) e'⟩
          | ct ρ' s2 => intro q1 W' σ' e' r' l'; exact ⟨W', ρ', s2, rfl, r', l', PostS.ext (show PostS X.K (loopW (evC Γ k) (exSs Γ F b) m ρ' s2) W1 (xqE E0) D from q1) e'⟩
          | bk ρ' s2 => exact id
          | rt t s2 => exact id
          | ex cc s2 => exact id
  | .fr g it b trim p, X, E, o, h => by
    unfold okS at h
    obtain ⟨h, h3⟩ := and2 h
    obtain ⟨h1, h2⟩ := and2 h
    unfold Sx.s
    obtain ⟨wi, hi, hw⟩ := it_sound o.nox trivial g (exSs Γ F b) trim it h2
    refine PS_weak (PS_nox (ps_for PassesOwn.never o.nox.calm hi (pg_sound o.nox hs g h1) (sndSs hs F b X.nox E0 o.nox h3) ?_)) fun D σ H ⟨W, ρ, st, e, r, l, q⟩ => ?_
    · intro x
      cases it with
      | lst a => exact folded_plain a _ _
      | tup a => exact folded_plain a _ _
      | rng1 a pn p => rfl
      | rng2 a b pn p => rfl
    · subst e
      unfold exS at q
      exact hw D σ W.H ⟨W, ρ, st, rfl, r, l, q.noEx⟩
  | .brk p, X, E, o, h => by
    unfold Sx.s
    exact PS_weak ps_break fun D σ H ⟨W, ρ, st, e, r, l, q⟩ => by
      subst e; unfold exS at q; exact q W σ (Ext.refl _) r l
  | .con p, X, E, o, h => by
    unfold Sx.s
    exact PS_weak ps_continue fun D σ H ⟨W, ρ, st, e, r, l, q⟩ => by
      subst e; unfold exS at q; exact q W σ (Ext.refl _) r l
  | .pas p, X, E, o, h => by
    unfold Sx.s
    exact PS_weak ps_pass fun D σ H ⟨W, ρ, st, e, r, l, q⟩ => by
      subst e; unfold exS at q; exact q W σ (Ext.refl _) r l
  | .rse cx np a cp p, X, E, o, h => by
    unfold okS at h
    obtain ⟨h, h4⟩ := and2 h
    obtain ⟨h, h3⟩ := and2 h
    obtain ⟨h1, h2⟩ := and2 h
    obtain ⟨n1, n2, n3⟩ := nm_of h3
    have kn := o.xk cx h1
    unfold Sx.s
    refine PS_weak (ps_raise (c := cx) o.xp o.calm (gl_of o h2) (o.xm cx kn) kn (o.xf.ns cx kn) (o.xf.ei cx kn) (tA_cons (sndE o a h4) (tA_nil (X := X) (xq := xqE E))) n1 (star a _ X.env) rfl) fun D σ H ⟨W, ρ, st, e, r, l, q⟩ => ?_
    subst e
    unfold exS at q
    refine ⟨W, ρ, st, rfl, r, l, ?_⟩
    have q1 := q.bndS
    show Post X.K (bnd (ev Γ a ρ st) fun t st => ok [t] st) W (xqE E) _
    generalize ev Γ a ρ st = r1 at q1 ⊢
    cases r1 with
    | none => exact q1
    | some r1 => cases r1 with
      | ex cc s1 => exact q1
      | ok t s1 =>
        show Post X.K (ok [t] s1) W (xqE E) _
        intro W1 e1 r1 vs hv
        exact ⟨by rw [← hv.length]; exact (by decide : 1 ≤ sizeLine), q1 W1 e1 r1 W1 (Ext.refl _) r1⟩
  | .tre f x pn a xs pc pe cx px i n j v pv p1 pa ph p, X, E, o, h => by
    unfold okS at h
    obtain ⟨h, h13⟩ := and2 h
    obtain ⟨h, h12⟩ := and2 h
    obtain ⟨h, h11⟩ := and2 h
    obtain ⟨h, h10⟩ := and2 h
    obtain ⟨h, h9⟩ := and2 h
    obtain ⟨h, h8⟩ := and2 h
    obtain ⟨h, h7⟩ := and2 h
    obtain ⟨h, h6⟩ := and2 h
    obtain ⟨h, h5⟩ := and2 h
    obtain ⟨h, h4⟩ := and2 h
    obtain ⟨h, h3⟩ := and2 h
    obtain ⟨h1, h2⟩ := and2 h
    obtain ⟨n1, n2, n3⟩ := nm_of h3
    obtain ⟨m1, m2, m3⟩ := nm_of h8
    obtain ⟨k1, k2, k3⟩ := nm_of h13
    have kn := o.xk cx h6
    obtain ⟨k, fa, fd, ps, G, hr, hm, hk, hb⟩ := (o.fn f x h1).ex
    unfold Sx.s
    refine PS_weak (ps_try (can := fun c => subX c cx = true) (i := i) (j := j) G hr (gl_of o h2) hm hk hb (tA_cons (X := X.nox) (sndE o.nox a h4) (sndEs o.nox xs h5)) n1 (star a _ X.env) (star_any xs pc X.env) (by rfl) (o.stm hs).2.1 (o.stm hs).2.2 o.calm (gl_of o h7) (o.xm cx kn) m1 ⟨o.xf.ok cx kn, o.xf.ty cx kn⟩
      (fun c hc hs => o.xf.mr c hc cx kn hs) (by rw [o.N]; exact o.nd) (by rw [o.N]; exact beq_iff_eq.mp h9) (by rw [o.N]; exact beq_iff_eq.mp h10) (by rw [o.sc]; exact lcl_of h11) (by rw [o.sc]; exact lcl_of h12) k1 k2) fun D σ H ⟨W, ρ, st, e, r, l, q⟩ => ?_
    subst e
    unfold exS at q
    refine ⟨W, ρ, st, rfl, r, l, ?_⟩
    show Post X.K (bnd (ev Γ a ρ st) fun t st => bnd (evs Γ xs ρ st) fun ts st => ok (t :: ts) st) W (xqE E0) _
    generalize (bnd (ev Γ a ρ st) fun t st => bnd (evs Γ xs ρ st) fun ts st => ok (t :: ts) st) = r1 at q ⊢
    unfold tryF at q
    cases r1 with
    | none => exact q.elim
    | some r1 => cases r1 with
      | ex cc s1 => exact q.elim
      | ok ts s1 =>
        intro W1 e1 r1 vs hv
        refine ⟨W1, s1, ts, rfl, r1, hv, ?_⟩
        dsimp only at q
        generalize Γ f ts s1 = r2 at q ⊢
        cases r2 with
        | none => exact q.elim
        | some r2 => cases r2 with
          | ok t s2 => exact fun W2 e2 r2 v hv => q W2 σ (e1.trans e2) r2 ((l.ext e1).ext e2)
          | ex cc s2 =>
            dsimp only at q
            intro W2 e2 r2
            split at q
            · rename_i hs
              refine ⟨cc, rfl, hs, fun ad hc hn => ?_⟩
              have e3 : Ext W2 (W2.lay ad (IsX X.K cc ad)) := Ext.lay hn
              have hx : RV X.K (W2.lay ad (IsX X.K cc ad)) (.exc cc) (.ref ad) := by
                unfold RV
                exact ⟨ad, rfl, upd_same, hc⟩
              exact q (W2.lay ad (IsX X.K cc ad)) _ ((e1.trans e2).trans e3) (r2.lay hn) (RL.setN ((((((l.ext e1).ext e2).ext e3).set hx i).set hx j)) i)
            · exact q.elim
theorem sndSs (hs : c.stm = true) (F : Nat) : ∀ (xs : List Sx) (X : Cx) (E : XK) (o : XOk X c Γ E), okSs c xs = true → PSs X (Sx.ss xs) (tS X.K (xqE E) (exSs Γ F xs))
  | [], X, E, o, h => by
    unfold Sx.ss
    exact PSs_weak pss_nil fun D σ H ⟨W, ρ, st, e, r, l, q⟩ => by
      subst e; unfold exSs at q; exact q W σ (Ext.refl _) r l
  | x :: xs, X, E, o, h => by
    unfold okSs at h
    obtain ⟨h1, h2⟩ := and2 h
    unfold Sx.ss
    exact PSs_weak (pss_cons (sndS hs F x X E o h1) (sndSs hs F xs X E o h2)) fun D σ H ⟨W, ρ, st, e, r, l, q⟩ => by
      subst e; unfold exSs at q; exact ⟨W, ρ, st, rfl, r, l, q.seqS⟩
end
end
end Ev

namespace Ev
open PySem PySem.Spec L2 PyProof.Rows PySem.W
theorem end_sound {K : PySem.W.Frag} {W W' : Wd} {xq : XQ} {md : Md} {n : Nat} {t : T} {st' : Sto} {v : V} {Q : VK} (hn : n = W.n) (e : Ext W W') (r : Rep K st' W') (hv : RV K W' t v)
    (p : Post K (endF md n t st') W xq (fun t _ W'' => ∀ v, RV K W'' t v → Q v W''.H)) : Q v W'.H := by
  unfold endF at p
  split at p
  · exact p W' e r v hv
  · split at p
    · rename_i hb
      cases q : trimS n st' with
      | none => rw [q] at p; exact p.elim
      | some s2 =>
        rw [q] at p
        obtain ⟨r2, _, _⟩ := r.cut q
        exact p (W'.cut n) (e.cut (by rw [hn]; exact Nat.le_refl _)) r2 v (hv.cut hb)
    · exact p.elim
  · split at p
    · rename_i i
      split at p
      · rename_i hi
        split at p
        · rename_i xs ex
          split at p
          · rename_i hb
            cases q : trimS n st' with
            | none => rw [q] at p; exact p.elim
            | some s2 =>
              rw [q] at p
              obtain ⟨r2, e2, hl⟩ := r.cut q
              obtain ⟨vs, g1, g2⟩ := r.at_ _ _ ex
              have hlen : s2.length = n := by rw [e2]; simp [hl]
              let W2 : Wd := { H := W'.H, m := fun j => if j = n then W'.m i else W'.m j, n := n + 1 }
              have ee : Ext (W'.cut n) W2 := ⟨Nat.le_succ _, fun j hj => if_neg (Nat.ne_of_lt hj), fun _ _ h => h, fun _ _ _ h => h, fun _ _ h => h⟩
              have e0 : Ext W W2 := (e.cut (n := n) (by rw [hn]; exact Nat.le_refl _)).trans ee
              have get : ∀ (j : Nat) (o : O), s2[j]? = some o → st'[j]? = some o ∧ j < n := fun j o h => by
                have hj : j < s2.length := (List.getElem?_eq_some_iff.mp h).1
                rw [e2, List.getElem?_take] at h
                rw [hlen] at hj
                rw [if_pos hj] at h
                exact ⟨h, hj⟩
              have key : ∀ (j : Nat) (o : O), (s2 ++ [O.lst xs])[j]? = some o → (j < n ∧ s2[j]? = some o ∧ st'[j]? = some o ∧ W2.m j = W'.m j) ∨ (j = n ∧ o = .lst xs ∧ W2.m j = W'.m i) := fun j o h => by
                by_cases hj : j < n
                · rw [List.getElem?_append_left (by rw [hlen]; exact hj)] at h
                  exact .inl ⟨hj, h, (get j o h).1, if_neg (Nat.ne_of_lt hj)⟩
                · have hj2 : j = n := by
                    have := (List.getElem?_eq_some_iff.mp h).1
                    rw [List.length_append, hlen] at this
                    simp at this; omega
                  subst hj2
                  rw [List.getElem?_append_right (by rw [hlen]; exact Nat.le_refl _), hlen] at h
                  simp at h
                  exact .inr ⟨rfl, h.symm, if_pos rfl⟩
              have rep : Rep K (s2 ++ [O.lst xs]) W2 := by
                refine ⟨by rw [List.length_append, hlen]; rfl, fun j o h => ?_, fun j k o u h1 h2 m1 m2 h3 => ?_⟩
                · rcases key j o h with ⟨a1, a2, a3, a4⟩ | ⟨a1, a2, a3⟩
                  · rw [a4]
                    exact (r2.at_ j o a2).ext' ee fun _ _ z => z
                  · rw [a3, a2]
                    exact ⟨vs, g1, (g2.cut hb).ext ee⟩
                · rcases key j o h1 with ⟨a1, a2, a3, a4⟩ | ⟨a1, a2, a3⟩
                  · rcases key k u h2 with ⟨b1, b2, b3, b4⟩ | ⟨b1, b2, b3⟩
                    · rw [a4, b4] at h3
                      exact r.inj j k o u a3 b3 m1 m2 h3
                    · rw [a4, b3] at h3
                      have := r.inj j i o _ a3 ex m1 rfl h3
                      omega
                  · rcases key k u h2 with ⟨b1, b2, b3, b4⟩ | ⟨b1, b2, b3⟩
                    · rw [a3, b4] at h3
                      have := r.inj i k _ u ex b3 rfl m2 h3
                      omega
                    · rw [a1, b1]
              refine p W2 e0 rep v ?_
              unfold RV at hv ⊢
              exact ⟨Nat.lt_succ_self _, by rw [hv.2]; show V.ref (W'.m i) = .ref (if n = n then W'.m i else _); rw [if_pos rfl]⟩
          · exact p.elim
        · exact p.elim
      · exact p.elim
    · exact p.elim
section
variable {P : Program} {w : World} {K : PySem.W.Frag} {mg : Str → Option Value} {base : Heap}
theorem Fun.okX {x qual : Str} {st : Stmt} {f : Addr} {fd : FuncData} {N ps : List Str} {k : Nat} {sp : Sp} (F : Fun K x qual st f fd) (S : FnScope N ps (defScope st)) (len : ∀ vs H Q E, sp vs H Q E → vs.length = ps.length)
    (hbody : ∀ (cdv : Value) (A : Around) (outer : List Env) (s : Shared) (H : Hp) (vs : List V) (Q : VK) (E : XK), Room k (A.deeper (envOfC qual (defScope st) s.heap.objs.size f cdv)) → sp vs H Q E →
      ∃ t, PSs (cxOf (CXE P w K) P w K mg base N qual (defScope st) f cdv A outer s H E) (defBody st) t ∧ t { nx := fun _ H' => Q .non H', rt := Q } (start N vs) H) : FnOk P w K mg base (CXE P w K) (k + 1) f fd ps sp := by
  obtain ⟨oc, od, kV, doc, pm, an, cdv, ct, osl, rfl, lk, hcd⟩ := F.ex
  exact fn_of lk hcd S len fun A outer s H vs Q E hr hsp => hbody cdv A outer s H vs Q E hr hsp
/-- a def that may be called, as the module has it -/
structure Has (P : Program) (w : World) (K : PySem.W.Frag) (mg : Str → Option Value) (base : Heap) (k : Nat) (x : Str) (g : List T → Sto → Re T) : Prop where
  ex : ∃ (k' : Nat) (f : Addr) (fd : FuncData) (ps : List Str), k' ≤ k ∧ FnOk P w K mg base (CXE P w K) k' f fd ps (spOf K g) ∧ mg x = some (.ref f) ∧ PySem.W.keepIn K (.ref f) = true ∧ Binds K fd ps []
theorem fn_sound {f : Fn} {Γ : Fns} {Fu k : Nat} {x qual : Str} {stt : Stmt} {fa : Addr} {fd : FuncData} {N ps bl : List Str} {gi : List (Str × Int)} {fns : List (Nat × Str)} {xc : List Nat} (F : Fun K x qual stt fa fd) (S : FnScope N ps (defScope stt))
    (hb : defBody stt = Sx.ss f.body) (hok : okSs ⟨N, defScope stt, bl, gi, fns, xc, true⟩ f.body = true) (hps : f.ps = ps.length) (hns : f.ns = N.length)
    (hbl : ∀ x ∈ bl, mg x = none) (hgi : ∀ p ∈ gi, ∃ t, mg p.1 = some (.int p.2 t))
    (hfn : ∀ p ∈ fns, Has P w K mg base k p.2 (Γ p.1)) (xf : XFs K) (xm : ∀ d ∈ xcs K, mg (xname d) = some (.ref (cA K d))) (xk : (xc.all fun d => (xcs K).contains d) = true) : FnOk P w K mg base (CXE P w K) (k + 1) fa fd ps (spOf K (run Γ Fu f)) := by
  refine Fun.okX F S (fun vs H Q E h => ?_) (fun cdv A outer s H vs Q E hr h => ?_)
  · obtain ⟨W, st, ts, rfl, r, hv, p⟩ := h
    unfold run at p
    obtain ⟨hl, _⟩ := p.ifT
    rw [← hv.length, hl, hps]
  · obtain ⟨W, st, ts, rfl, r, hv, p⟩ := h
    have o : XOk (cxOf (CXE P w K) P w K mg base N qual (defScope stt) fa cdv A outer s W.H E) ⟨N, defScope stt, bl, gi, fns, xc, true⟩ Γ E :=
      { N := rfl, sc := rfl, nd := S.nd, calm := rfl, un := hr.units, bl := fun x hx => hbl x (List.contains_iff_mem.mp hx), gi := fun x i hx => hgi (x, i) (List.contains_iff_mem.mp hx), xp := ⟨passes_fn, fun _ _ _ _ _ _ _ _ kn I M q => raised_fn kn I M q⟩, stm := fun _ => ⟨fun _ => rfl, rfl, rfl⟩, xf := xf, xm := xm, xk := fun d hd => List.contains_iff_mem.mp (List.all_eq_true.mp xk d (List.contains_iff_mem.mp hd)),
        fn := fun g y hg => by
          obtain ⟨k', f', fd', ps', hk, G, h1, h2, h3⟩ := (hfn (g, y) (List.contains_iff_mem.mp hg)).ex
          exact ⟨⟨k', f', fd', ps', G, hr.mono hk, h1, h2, h3⟩⟩ }
    refine ⟨tS K (xqE E) (exSs Γ Fu f.body), by rw [hb]; exact sndSs rfl Fu f.body _ _ o hok, W, ts.map some ++ List.replicate (f.ns - f.ps) none, st, rfl, r, ?_, ?_⟩
    · have hpl : ps.length ≤ N.length := by have := congrArg List.length S.pre; rw [List.length_take] at this; omega
      unfold run at p
      obtain ⟨hl, _⟩ := p.ifT
      have hvl := hv.length
      unfold L2.start
      refine ⟨by simp [hvl, hps, hns, hl] <;> omega, fun i t e => ?_⟩
      by_cases hi : i < ts.length
      · rw [List.getElem?_append_left (by simpa using hi), List.getElem?_map] at e
        cases q : ts[i]? with
        | none => rw [q] at e; cases e
        | some u =>
          rw [q] at e
          have e' : u = t := Option.some.inj (Option.some.inj e)
          subst e'
          obtain ⟨v, h1, h2⟩ := hv.get q
          refine ⟨v, ?_, h2⟩
          rw [List.getElem?_append_left (by rw [List.length_map, ← hvl]; exact hi), List.getElem?_map, h1]
          rfl
      · rw [List.getElem?_append_right (by simpa using hi), List.getElem?_replicate] at e
        split at e <;> cases e
    · unfold run at p
      obtain ⟨hl, p⟩ := p.ifT
      revert p
      cases exSs Γ Fu f.body (ts.map some ++ List.replicate (f.ns - f.ps) none) st with
      | none => exact id
      | some fl => cases fl with
        | nx ρ' s2 => intro p W' σ' e' r' l'; exact end_sound (v := .non) r.len e' r' (by unfold RV; rfl) p
        | rt t s2 => intro p W' v e' r' hv'; exact end_sound r.len e' r' hv' p
        | bk ρ' s2 => intro p; exact False.elim p
        | ct ρ' s2 => intro p; exact False.elim p
        | ex cc s2 =>
          intro p W' e' r'
          dsimp only at p
          cases q : trimS st.length s2 with
          | none => rw [q] at p; exact p.elim
          | some s3 =>
            rw [q] at p
            obtain ⟨r3, _, _⟩ := r'.cut q
            exact p (W'.cut st.length) (e'.cut (by rw [r.len]; exact Nat.le_refl _)) r3
theorem Has.mk' {k k' : Nat} {x : Str} {g : List T → Sto → Re T} {f : Addr} {fd : FuncData} {ps : List Str} (G : FnOk P w K mg base (CXE P w K) k' f fd ps (spOf K g)) (hm : mg x = some (.ref f)) (kp : PySem.W.keepIn K (.ref f) = true) (hb : Binds K fd ps []) (hk : k' ≤ k) : Has P w K mg base k x g := ⟨⟨k', f, fd, ps, hk, G, hm, kp, hb⟩⟩
/-- law's promise -/
def spLaw (K : PySem.W.Frag) : Sp := fun vs H Q _ => ∃ (a : Addr) (ns : List Int), vs = [.ref a] ∧ Only H ∧ SqL K H a (ns.map V.int) ∧ ns.length ≤ 63 ∧ ∀ H', Q (.bl true) H'
theorem RVs_ints {K : PySem.W.Frag} {W : Wd} : ∀ ns : List Int, RVs K W (ns.map T.int) (ns.map V.int)
  | [] => RVs.nil
  | n :: r => RVs.cons (by unfold RV; rfl) (RVs_ints r)
theorem law_sound {f : Fn} {Γ : Fns} {Fu k : Nat} {fa : Addr} {fd : FuncData} (F : FnOk P w K mg base (CXE P w K) k fa fd ["script"] (spOf K (run Γ Fu f)))
    (h : ∀ ns : List Int, ns.length ≤ 63 → ∃ st', run Γ Fu f [.ref 0] [.fz (ns.map T.int)] = some (.ok (.bl true) st')) : FnOk P w K mg base (CXE P w K) k fa fd ["script"] (spLaw K) := by
  refine F.imp fun vs H Q E q => ?_
  obtain ⟨a, ns, rfl, hO, hS, hl, hq⟩ := q
  obtain ⟨st', e⟩ := h ns hl
  refine ⟨⟨H, fun _ => a, 1⟩, [.fz (ns.map T.int)], [.ref 0], rfl, ⟨rfl, fun i o e => ?_, fun i j o u e1 e2 _ _ _ => ?_⟩, RVs.cons (by unfold RV; exact ⟨Nat.zero_lt_one, rfl⟩) RVs.nil, by rw [e]; exact fun W' e' r' v hv => by unfold RV at hv; subst hv; exact hq _⟩
  · have hi : i = 0 := by
      have := (List.getElem?_eq_some_iff.mp e).1
      simpa using this
    subst hi
    simp at e; subst e
    refine ⟨ns.map V.int, ?_, RVs_ints ns⟩
    rcases hS with (h1 | ⟨o, h1⟩) | h1
    · rcases hO a with h2 | ⟨o, xs, h2⟩
      · rw [h2] at h1; cases h1
      · rw [h2] at h1; cases h1
    · exact .inl ⟨o, h1⟩
    · exact .inr h1
  · have hi : i = 0 := by
      have := (List.getElem?_eq_some_iff.mp e1).1
      simpa using this
    have hj : j = 0 := by
      have := (List.getElem?_eq_some_iff.mp e2).1
      simpa using this
    rw [hi, hj]
theorem walk {l : PySem.W.OpenLaw} {q : Program} {loose : List Str} {XP : (Str → Option Value) → Heap → Prop} {YP : World → Heap → Prop} {d : DefRec} {K : Params → PySem.W.Frag} {k : Nat} (hn : l.most = some 63) (hdf : d.params.defaults = []) (hr : Room k callerA)
    (hY : ∀ (w : World) (h : Heap), YP w h → (K w.params).In h)
    (F : ∀ (w : World) (mg : Str → Option Value) (fa : Addr) (h : Heap), (K w.params).In h → h.Ns mainGlobals mg → mg d.name = some (.ref fa) →
      ∃ fd : FuncData, (∀ (s : Shared) (u : Value), BindsTo s fd ⟨[u], []⟩ [("script", u)]) ∧ ∀ base : Heap, (K w.params).In base → base.Ns mainGlobals mg → FnOk l.prog w (K w.params) mg base (CXE l.prog w (K w.params)) k fa fd ["script"] (spLaw (K w.params))) :
    PySem.W.WalkO q loose XP YP l.row.toRowW d [] (fun f vs => PySem.call f vs) :=
  L2.walk_of (n := 63) (k := k) (x := "script") (CX := fun w => CXE l.prog w (K w.params)) (sp := fun w => spLaw (K w.params)) hn (by decide) hdf hr hY F (fun _ _ a ns hl hO hS => ⟨a, ns, rfl, hO, hS, hl, fun _ => rfl⟩) fun _ _ _ _ _ z => by obtain ⟨_, _, _, _, _, _, _, _, _, q⟩ := z; exact q
end
def FU : Nat := 100000
end Ev

namespace Ev
open PySem L2
/-- every number of a list in the store is below the store's length -/
def Cl (st : Sto) : Prop := st.all (O.blw st.length) = true
theorem gA0 {α : Type} (st xs : List α) : (st ++ xs)[st.length]? = xs[0]? := by
  rw [List.getElem?_append_right (Nat.le_refl _), Nat.sub_self]
theorem gA {α : Type} (st xs : List α) (k : Nat) : (st ++ xs)[st.length + k]? = xs[k]? := by
  rw [List.getElem?_append_right (Nat.le_add_right _ _), Nat.add_sub_cancel_left]
theorem sA0 {α : Type} (st xs : List α) (v : α) : (st ++ xs).set st.length v = st ++ xs.set 0 v := by
  rw [List.set_append_right _ _ (Nat.le_refl _), Nat.sub_self]
theorem sA {α : Type} (st xs : List α) (k : Nat) (v : α) : (st ++ xs).set (st.length + k) v = st ++ xs.set k v := by
  rw [List.set_append_right _ _ (Nat.le_add_right _ _), Nat.add_sub_cancel_left]
theorem gL {α : Type} {st xs : List α} {i : Nat} (h : i < st.length) : (st ++ xs)[i]? = st[i]? := List.getElem?_append_left h
theorem trimS_app {st : Sto} (h : Cl st) (xs : Sto) : trimS st.length (st ++ xs) = some st := by
  unfold trimS
  rw [List.take_left']
  · rw [if_pos]
    rw [Bool.and_eq_true]
    exact ⟨h, by simp⟩
  · rfl
theorem trimS_self {st : Sto} (h : Cl st) : trimS st.length st = some st := by
  have := trimS_app h []
  rwa [List.append_nil] at this
theorem bndS_ok {α : Type} (a : α) (st : Sto) (f : α → Sto → Option Fl) : bndS (some (.ok a st)) f = f a st := rfl
theorem seqS_nx (ρ : Lo) (st : Sto) (f : Lo → Sto → Option Fl) : seqS (some (.nx ρ st)) f = f ρ st := rfl
theorem seqS_rt (t : T) (st : Sto) (f : Lo → Sto → Option Fl) : seqS (some (.rt t st)) f = some (.rt t st) := rfl
theorem seqS_none (f : Lo → Sto → Option Fl) : seqS none f = none := rfl
theorem bndS_none {α : Type} (f : α → Sto → Option Fl) : bndS (none : Re α) f = none := rfl
theorem okd {α : Type} (a : α) (st : Sto) : ok a st = some (.ok a st) := rfl
/-- one statement, then the rest -/
theorem exSs_cons (Γ : Fns) (F : Nat) (x : Sx) (r : List Sx) (ρ : Lo) (st : Sto) : exSs Γ F (x :: r) ρ st = seqS (exS Γ F x ρ st) fun ρ st => exSs Γ F r ρ st := by
  rw [exSs]
theorem exSs_nil (Γ : Fns) (F : Nat) (ρ : Lo) (st : Sto) : exSs Γ F [] ρ st = some (.nx ρ st) := by rw [exSs]
/-- a def's run, by its body's end -/
theorem run_rt {Γ : Fns} {F : Nat} {f : Fn} {ts : List T} {st st' : Sto} {t : T} (hl : ts.length = f.ps) (h : exSs Γ F f.body (ts.map some ++ List.replicate (f.ns - f.ps) none) st = some (.rt t st')) : run Γ F f ts st = endF f.md st.length t st' := by
  unfold run
  rw [if_pos hl, h]
theorem end_pur {st : Sto} (h : Cl st) {t : T} (ht : t.blw st.length = true) (xs : Sto) : endF .pur st.length t (st ++ xs) = some (.ok t st) := by
  unfold endF
  dsimp only
  rw [if_pos ht, trimS_app h]
  rfl
theorem end_pur0 {st : Sto} (h : Cl st) {t : T} (ht : t.blw st.length = true) : endF .pur st.length t st = some (.ok t st) := by
  have := end_pur h ht []
  rwa [List.append_nil] at this
theorem end_frs0 {st : Sto} (h : Cl st) {us : List T} (hb : T.blws st.length us = true) (xs : Sto) : endF .frs st.length (.ref st.length) (st ++ .lst us :: xs) = some (.ok (.ref st.length) (st ++ [.lst us])) := by
  unfold endF
  dsimp only
  rw [if_pos (Nat.le_refl _), gA0]
  dsimp only [List.getElem?_cons_zero]
  rw [if_pos hb, trimS_app h]
  rfl
theorem blws_ints (n : Nat) : ∀ ns : List Int, T.blws n (ns.map T.int) = true
  | [] => by unfold T.blws; rfl
  | a :: r => by
    rw [List.map_cons]
    unfold T.blws
    rw [blws_ints n r]
    rfl
mutual
theorem blw_mono {n m : Nat} (h : n ≤ m) : ∀ t : T, t.blw n = true → t.blw m = true
  | .non, _ => by unfold T.blw; rfl
  | .bl _, _ => by unfold T.blw; rfl
  | .int _, _ => by unfold T.blw; rfl
  | .str _, _ => by unfold T.blw; rfl
  | .tup xs, e => by unfold T.blw at e ⊢; exact blws_mono h xs e
  | .ref i, e => by
    unfold T.blw at e ⊢
    exact decide_eq_true (Nat.lt_of_lt_of_le (of_decide_eq_true e) h)
  | .exc _, _ => by unfold T.blw; rfl
theorem blws_mono {n m : Nat} (h : n ≤ m) : ∀ ts : List T, T.blws n ts = true → T.blws m ts = true
  | [], _ => by unfold T.blws; rfl
  | t :: r, e => by
    unfold T.blws at e ⊢
    obtain ⟨e1, e2⟩ := and2 e
    rw [blw_mono h t e1, blws_mono h r e2]
    rfl
end
theorem oblw_mono {n m : Nat} (h : n ≤ m) (o : O) (e : o.blw n = true) : o.blw m = true := by
  cases o with
  | lst xs => exact blws_mono h xs e
  | fz xs => exact blws_mono h xs e
  | dk kvs =>
    refine List.all_eq_true.mpr fun q hq => ?_
    exact blw_mono h _ (List.all_eq_true.mp e q hq)
theorem Cl.app {st xs : Sto} (h : Cl st) (hx : xs.all (O.blw (st.length + xs.length)) = true) : Cl (st ++ xs) := by
  unfold Cl
  rw [List.all_append, Bool.and_eq_true, List.length_append]
  refine ⟨List.all_eq_true.mpr fun o ho => oblw_mono (Nat.le_add_right _ _) o (List.all_eq_true.mp h o ho), hx⟩
theorem Cl.ints {st : Sto} (h : Cl st) (ns : List Int) : Cl (st ++ [.lst (ns.map T.int)]) := h.app (by
  simp only [List.all_cons, List.all_nil, Bool.and_true]
  exact blws_ints _ ns)
theorem Cl.fz (ns : List Int) : Cl [.fz (ns.map T.int)] := by
  unfold Cl
  simp only [List.all_cons, List.all_nil, Bool.and_true]
  exact blws_ints _ ns
/-- the item of a list of ints -/
theorem atI_of {α : Type} {xs : List α} {i : Int} (h0 : 0 ≤ i) (h1 : i < xs.length) : atI xs i = xs[i.toNat]? := by
  unfold atI ixN
  rw [if_pos h0, if_pos h1]
  rfl
theorem small_of {i : Int} (h : i.natAbs < 18446744073709551616) : smallI i = true := decide_eq_true (by simpa using h)
theorem opF_mod {i j : Int} {st : Sto} (h : j ≠ 0) : opF .Mod (.int i) (.int j) st = ok (.int (i.fmod j)) st := if_pos h
theorem opF_div {i j : Int} {st : Sto} (h : j ≠ 0) (h2 : midI j = true) : opF .FloorDiv (.int i) (.int j) st = ok (.int (i.fdiv j)) st := if_pos ⟨h, h2⟩
theorem opF_mul {i j : Int} {st : Sto} (h : mulOk i j = true) : opF .Mult (.int i) (.int j) st = ok (.int (i * j)) st := if_pos h
theorem opF_pow {i j : Int} {st : Sto} (h : 0 ≤ j) (h2 : j ≤ 1000000) (h3 : smallI i = true) : opF .Pow (.int i) (.int j) st = ok (.int (i ^ j.toNat)) st := if_pos ⟨h, h2, h3⟩
theorem mulOk_l {i j : Int} (h : smallI i = true) : mulOk i j = true := by unfold mulOk; rw [h]; rfl
theorem mulOk_r {i j : Int} (h : smallI j = true) : mulOk i j = true := by unfold mulOk; rw [h, Bool.or_true]; rfl
theorem mulOk_m {i j : Int} (h : midI i = true) (h2 : midI j = true) : mulOk i j = true := by unfold mulOk; rw [h, h2]; simp
theorem mid_of {i : Int} (h : i.natAbs < 2 ^ 4000) : midI i = true := decide_eq_true h
theorem mid_small {i : Int} (h : smallI i = true) : midI i = true := by
  have h : i.natAbs < 2 ^ 64 := of_decide_eq_true h
  exact decide_eq_true (Nat.lt_of_lt_of_le h (Nat.pow_le_pow_right (by decide) (by decide)))
end Ev

namespace Ev
open PySem L2
theorem tyO_non (st : Sto) : tyOf .non st = some "NoneType" := rfl
theorem tyO_bl (b : Bool) (st : Sto) : tyOf (.bl b) st = some "bool" := rfl
theorem tyO_int (i : Int) (st : Sto) : tyOf (.int i) st = some "int" := rfl
theorem tyO_str (x : Str) (st : Sto) : tyOf (.str x) st = some "str" := rfl
theorem tyO_tup (xs : List T) (st : Sto) : tyOf (.tup xs) st = some "tuple" := rfl
theorem tyO_ref (n : Nat) (st : Sto) : tyOf (.ref n) st = (match st[n]? with | some (.lst _) => some "list" | some (.fz _) => some "list" | some (.dk _) => some "dict" | none => none) := rfl
theorem ty_NoneType_int : isTy "NoneType" .int = false := by decide
theorem ty_NoneType_bool : isTy "NoneType" .bool = false := by decide
theorem ty_NoneType_tuple : isTy "NoneType" .tuple = false := by decide
theorem ty_NoneType_list : isTy "NoneType" .list = false := by decide
theorem ty_NoneType_str : isTy "NoneType" .str = false := by decide
theorem ty_NoneType_dict : isTy "NoneType" .dict = false := by decide
theorem ty_bool_int : isTy "bool" .int = true := by decide
theorem ty_bool_bool : isTy "bool" .bool = true := by decide
theorem ty_bool_tuple : isTy "bool" .tuple = false := by decide
theorem ty_bool_list : isTy "bool" .list = false := by decide
theorem ty_bool_str : isTy "bool" .str = false := by decide
theorem ty_bool_dict : isTy "bool" .dict = false := by decide
theorem ty_int_int : isTy "int" .int = true := by decide
theorem ty_int_bool : isTy "int" .bool = false := by decide
theorem ty_int_tuple : isTy "int" .tuple = false := by decide
theorem ty_int_list : isTy "int" .list = false := by decide
theorem ty_int_str : isTy "int" .str = false := by decide
theorem ty_int_dict : isTy "int" .dict = false := by decide
theorem ty_str_int : isTy "str" .int = false := by decide
theorem ty_str_bool : isTy "str" .bool = false := by decide
theorem ty_str_tuple : isTy "str" .tuple = false := by decide
theorem ty_str_list : isTy "str" .list = false := by decide
theorem ty_str_str : isTy "str" .str = true := by decide
theorem ty_str_dict : isTy "str" .dict = false := by decide
theorem ty_tuple_int : isTy "tuple" .int = false := by decide
theorem ty_tuple_bool : isTy "tuple" .bool = false := by decide
theorem ty_tuple_tuple : isTy "tuple" .tuple = true := by decide
theorem ty_tuple_list : isTy "tuple" .list = false := by decide
theorem ty_tuple_str : isTy "tuple" .str = false := by decide
theorem ty_tuple_dict : isTy "tuple" .dict = false := by decide
theorem ty_list_int : isTy "list" .int = false := by decide
theorem ty_list_bool : isTy "list" .bool = false := by decide
theorem ty_list_tuple : isTy "list" .tuple = false := by decide
theorem ty_list_list : isTy "list" .list = true := by decide
theorem ty_list_str : isTy "list" .str = false := by decide
theorem ty_list_dict : isTy "list" .dict = false := by decide
theorem ty_dict_int : isTy "dict" .int = false := by decide
theorem ty_dict_bool : isTy "dict" .bool = false := by decide
theorem ty_dict_tuple : isTy "dict" .tuple = false := by decide
theorem ty_dict_list : isTy "dict" .list = false := by decide
theorem ty_dict_str : isTy "dict" .str = false := by decide
theorem ty_dict_dict : isTy "dict" .dict = true := by decide
theorem at_0 {α : Type} (x0 : α) (r : List α) : atI (x0 :: r) (0) = some x0 := by
  rw [atI_of (by decide) (by simp only [List.length_cons]; omega)]; rfl
theorem at_1 {α : Type} (x0 x1 : α) (r : List α) : atI (x0 :: x1 :: r) (1) = some x1 := by
  rw [atI_of (by decide) (by simp only [List.length_cons]; omega)]; rfl
theorem at_2 {α : Type} (x0 x1 x2 : α) (r : List α) : atI (x0 :: x1 :: x2 :: r) (2) = some x2 := by
  rw [atI_of (by decide) (by simp only [List.length_cons]; omega)]; rfl
theorem at_3 {α : Type} (x0 x1 x2 x3 : α) (r : List α) : atI (x0 :: x1 :: x2 :: x3 :: r) (3) = some x3 := by
  rw [atI_of (by decide) (by simp only [List.length_cons]; omega)]; rfl
theorem at_4 {α : Type} (x0 x1 x2 x3 x4 : α) (r : List α) : atI (x0 :: x1 :: x2 :: x3 :: x4 :: r) (4) = some x4 := by
  rw [atI_of (by decide) (by simp only [List.length_cons]; omega)]; rfl
theorem at_5 {α : Type} (x0 x1 x2 x3 x4 x5 : α) (r : List α) : atI (x0 :: x1 :: x2 :: x3 :: x4 :: x5 :: r) (5) = some x5 := by
  rw [atI_of (by decide) (by simp only [List.length_cons]; omega)]; rfl
theorem at_6 {α : Type} (x0 x1 x2 x3 x4 x5 x6 : α) (r : List α) : atI (x0 :: x1 :: x2 :: x3 :: x4 :: x5 :: x6 :: r) (6) = some x6 := by
  rw [atI_of (by decide) (by simp only [List.length_cons]; omega)]; rfl
theorem at_7 {α : Type} (x0 x1 x2 x3 x4 x5 x6 x7 : α) (r : List α) : atI (x0 :: x1 :: x2 :: x3 :: x4 :: x5 :: x6 :: x7 :: r) (7) = some x7 := by
  rw [atI_of (by decide) (by simp only [List.length_cons]; omega)]; rfl
theorem at_8 {α : Type} (x0 x1 x2 x3 x4 x5 x6 x7 x8 : α) (r : List α) : atI (x0 :: x1 :: x2 :: x3 :: x4 :: x5 :: x6 :: x7 :: x8 :: r) (8) = some x8 := by
  rw [atI_of (by decide) (by simp only [List.length_cons]; omega)]; rfl
theorem keyOf_int (i : Int) : keyOf (.int i) = some (.inl i) := rfl
theorem keyOf_str (x : Str) : keyOf (.str x) = some (.inr x) := rfl
theorem bTT : (true != true) = false := rfl
theorem bTF : (true != false) = true := rfl
theorem bFT : (false != true) = true := rfl
theorem bFF : (false != false) = false := rfl
theorem small10 : smallI 10 = true := by decide
theorem small2 : smallI 2 = true := by decide
theorem mid_10_57 : midI ((10 : Int) ^ 57) = true := by decide +kernel
/-- it comes to an end with a value for which Q holds -/
def Wp {α : Type} (r : Re α) (Q : α → Sto → Prop) : Prop := match r with
  | some (.ok a st) => Q a st
  | _ => False
def WpS (r : Option Fl) (N : Lo → Sto → Prop) (R : T → Sto → Prop) (B C : Lo → Sto → Prop) : Prop := match r with
  | some (.nx ρ st) => N ρ st
  | some (.rt t st) => R t st
  | some (.bk ρ st) => B ρ st
  | some (.ct ρ st) => C ρ st
  | _ => False
theorem wp_iff {α : Type} {r : Re α} {Q : α → Sto → Prop} : Wp r Q ↔ ∃ a st, r = some (.ok a st) ∧ Q a st := by
  unfold Wp
  cases r with
  | none => simp
  | some o => cases o with
    | ok a st =>
      constructor
      · intro h; exact ⟨a, st, rfl, h⟩
      · rintro ⟨b, s, e, h⟩; cases e; exact h
    | ex c st => constructor <;> intro h <;> (first | exact h.elim | (obtain ⟨_, _, e, _⟩ := h; cases e))
section
variable {α β : Type} {Γ : Fns} {F : Nat} {Q : T → Sto → Prop} {ρ : Lo} {st : Sto} {N : Lo → Sto → Prop} {R : T → Sto → Prop} {B C : Lo → Sto → Prop} {a b d : Ex} {p : Pos}
theorem wp_some {x : α} {Q : α → Sto → Prop} : Wp (some (.ok x st)) Q ↔ Q x st := Iff.rfl
theorem wp_ok {x : α} {Q : α → Sto → Prop} : Wp (ok x st) Q ↔ Q x st := Iff.rfl
theorem wp_none {Q : α → Sto → Prop} : Wp (none : Re α) Q ↔ False := Iff.rfl
theorem wp_bnd {r : Re α} {f : α → Sto → Re β} {Q : β → Sto → Prop} : Wp (bnd r f) Q ↔ Wp r (fun x st => Wp (f x st) Q) := by
  cases r with
  | none => exact Iff.rfl
  | some o => cases o <;> exact Iff.rfl
theorem wp_if {P : Prop} [Decidable P] {r : Re α} {Q : α → Sto → Prop} : Wp (if P then r else none) Q ↔ P ∧ Wp r Q := by
  by_cases h : P
  · rw [if_pos h]; exact ⟨fun x => ⟨h, x⟩, fun x => x.2⟩
  · rw [if_neg h]; exact ⟨fun x => x.elim, fun x => h x.1⟩
theorem Wp.imp {r : Re α} {Q Q' : α → Sto → Prop} (h : Wp r Q) (q : ∀ x st, Q x st → Q' x st) : Wp r Q' := by
  cases r with
  | none => exact h
  | some o => cases o with
    | ok a st => exact q _ _ h
    | ex c st => exact h
theorem wp_of {r : Re α} {x : α} {Q : α → Sto → Prop} (e : r = some (.ok x st)) (h : Q x st) : Wp r Q := by rw [e]; exact h
/-! expressions -/
theorem w_var {i : Nat} {x : Str} : Wp (ev Γ (.var i x p) ρ st) Q ↔ (match ρ[i]? with | some (some t) => Q t st | _ => False) := by
  unfold ev
  generalize ρ[i]? = o
  cases o with
  | none => exact Iff.rfl
  | some o => cases o <;> exact Iff.rfl
theorem w_int {i : Int} {k : Nat} : Wp (ev Γ (.int i k p) ρ st) Q ↔ Q (.int i) st := by unfold ev; exact Iff.rfl
theorem w_bl {i : Bool} {k : Nat} : Wp (ev Γ (.bl i k p) ρ st) Q ↔ Q (.bl i) st := by unfold ev; exact Iff.rfl
theorem w_non {k : Nat} : Wp (ev Γ (.non k p) ρ st) Q ↔ Q .non st := by unfold ev; exact Iff.rfl
theorem w_str {x : Str} {k : Nat} : Wp (ev Γ (.str x k p) ρ st) Q ↔ Q (.str x) st := by unfold ev; exact Iff.rfl
theorem w_glo {i : Int} {x : Str} : Wp (ev Γ (.glo i x p) ρ st) Q ↔ Q (.int i) st := by unfold ev; exact Iff.rfl
theorem w_bin {op : Operator} : Wp (ev Γ (.bin op a b p) ρ st) Q ↔ Wp (ev Γ a ρ st) fun x st => Wp (ev Γ b ρ st) fun y st => Wp (opF op x y st) Q := by
  conv => lhs; unfold ev
  simp only [wp_bnd]
theorem w_neg : Wp (ev Γ (.neg a p) ρ st) Q ↔ Wp (ev Γ a ρ st) fun x st => Wp (unF .USub x st) Q := by
  conv => lhs; unfold ev
  simp only [wp_bnd]
theorem w_cmp {op : CmpOp} : Wp (ev Γ (.cmp op a b p) ρ st) Q ↔ Wp (ev Γ a ρ st) fun x st => Wp (ev Γ b ρ st) fun y st => Wp (cmpF op x y st) Q := by
  conv => lhs; unfold ev
  simp only [wp_bnd]
theorem w_no : Wp (ev Γ (.no a p) ρ st) Q ↔ Wp (ev Γ a ρ st) fun x st => (match x with | .bl b => Q (.bl (!b)) st | _ => False) := by
  conv => lhs; unfold ev
  simp only [wp_bnd]
  constructor <;> intro h <;> refine h.imp fun x s q => ?_ <;> (cases x <;> exact q)
theorem w_and : Wp (ev Γ (.and a b p) ρ st) Q ↔ Wp (ev Γ a ρ st) fun x st => (match x with | .bl true => Wp (ev Γ b ρ st) Q | .bl false => Q (.bl false) st | _ => False) := by
  conv => lhs; unfold ev
  simp only [wp_bnd]
  constructor <;> intro h <;> refine h.imp fun x s q => ?_
  · cases x with | bl k => cases k <;> exact q | _ => exact q
  · cases x with | bl k => cases k <;> exact q | _ => exact q
theorem w_or : Wp (ev Γ (.or a b p) ρ st) Q ↔ Wp (ev Γ a ρ st) fun x st => (match x with | .bl true => Q (.bl true) st | .bl false => Wp (ev Γ b ρ st) Q | _ => False) := by
  conv => lhs; unfold ev
  simp only [wp_bnd]
  constructor <;> intro h <;> refine h.imp fun x s q => ?_
  · cases x with | bl k => cases k <;> exact q | _ => exact q
  · cases x with | bl k => cases k <;> exact q | _ => exact q
theorem w_tup {xs : List Ex} {k : Nat} : Wp (ev Γ (.tup xs k p) ρ st) Q ↔ Wp (evs Γ xs ρ st) fun ts st => ts.length ≤ sizeLine ∧ Q (.tup ts) st := by
  conv => lhs; unfold ev
  simp only [wp_bnd, wp_if, wp_ok]
theorem w_lst {xs : List Ex} : Wp (ev Γ (.lst xs p) ρ st) Q ↔ Wp (evs Γ xs ρ st) fun ts st => ts.length ≤ sizeLine ∧ Q (.ref st.length) (st ++ [.lst ts]) := by
  conv => lhs; unfold ev
  simp only [wp_bnd, wp_if, wp_ok]
theorem w_ix : Wp (ev Γ (.ix a b p) ρ st) Q ↔ Wp (ev Γ a ρ st) fun x st => Wp (ev Γ b ρ st) fun y st => Wp (ixF x y st) Q := by
  conv => lhs; unfold ev
  simp only [wp_bnd]
theorem w_slHi {p2 : Pos} : Wp (ev Γ (.slHi a b p2 p) ρ st) Q ↔ Wp (ev Γ a ρ st) fun x st => Wp (ev Γ b ρ st) fun y st => (match y with | .int i => Wp (slF x none (some i) st) Q | _ => False) := by
  conv => lhs; unfold ev
  simp only [wp_bnd]
  constructor <;> intro h <;> refine h.imp fun x s q => q.imp fun y s q => ?_ <;> (cases y <;> exact q)
theorem w_slLo {p2 : Pos} : Wp (ev Γ (.slLo a b p2 p) ρ st) Q ↔ Wp (ev Γ a ρ st) fun x st => Wp (ev Γ b ρ st) fun y st => (match y with | .int i => Wp (slF x (some i) none st) Q | _ => False) := by
  conv => lhs; unfold ev
  simp only [wp_bnd]
  constructor <;> intro h <;> refine h.imp fun x s q => q.imp fun y s q => ?_ <;> (cases y <;> exact q)
theorem w_call {f : Nat} {x : Str} {pn : Pos} {xs : List Ex} : Wp (ev Γ (.call f x pn a xs p) ρ st) Q ↔ Wp (ev Γ a ρ st) fun t st => Wp (evs Γ xs ρ st) fun ts st => Wp (Γ f (t :: ts) st) Q := by
  conv => lhs; unfold ev
  simp only [wp_bnd]
theorem w_bi {f : Bi} {pn : Pos} : Wp (ev Γ (.bi f pn a p) ρ st) Q ↔ Wp (ev Γ a ρ st) fun t st => Wp (biF f [t] st) Q := by
  conv => lhs; unfold ev
  simp only [wp_bnd]
theorem w_isi {ty : Ty} {pn pt : Pos} : Wp (ev Γ (.isi ty pn pt a p) ρ st) Q ↔ Wp (ev Γ a ρ st) fun t st => Wp (biF (.isi ty) [t] st) Q := by
  conv => lhs; unfold ev
  simp only [wp_bnd]
theorem w_app {ap : Pos} : Wp (ev Γ (.app a ap b p) ρ st) Q ↔ Wp (ev Γ a ρ st) fun x st => (match x with
    | .ref n => (match st[n]? with
      | some (.lst _) => Wp (ev Γ b ρ st) fun t st => (match st[n]? with
        | some (.lst xs) => xs.length < sizeLine ∧ Q .non (st.set n (.lst (xs ++ [t])))
        | _ => False)
      | _ => False)
    | _ => False) := by
  conv => lhs; unfold ev
  simp only [wp_bnd]
  have key : ∀ (n : Nat) (t : T) (s : Sto), Wp (match s[n]? with | some (O.lst xs) => if xs.length < sizeLine then ok T.non (List.set s n (.lst (xs ++ [t]))) else none | x => none) Q ↔ (match s[n]? with | some (.lst xs) => xs.length < sizeLine ∧ Q .non (s.set n (.lst (xs ++ [t]))) | _ => False) := fun n t s => by
    split
    · rw [wp_if, wp_ok]
    · exact Iff.rfl
  constructor <;> intro h <;> refine h.imp fun x s q => ?_
  · cases x <;> first | exact q | skip
    rename_i n
    dsimp only at q ⊢
    revert q
    cases s[n]? with
    | none => exact id
    | some o => cases o with
      | lst ys => dsimp only; rw [wp_bnd]; exact fun q => q.imp fun t s2 q2 => (key _ t s2).mp q2
      | fz ys => exact id
      | dk ys => exact id
  · cases x <;> first | exact q | skip
    rename_i n
    dsimp only at q ⊢
    revert q
    cases s[n]? with
    | none => exact id
    | some o => cases o with
      | lst ys => dsimp only; rw [wp_bnd]; exact fun q => q.imp fun t s2 q2 => (key _ t s2).mpr q2
      | fz ys => exact id
      | dk ys => exact id
theorem w_dct0 : Wp (ev Γ (.dct0 p) ρ st) Q ↔ Q (.ref st.length) (st ++ [.dk []]) := by unfold ev; exact Iff.rfl
theorem w_dct1 : Wp (ev Γ (.dct1 a b p) ρ st) Q ↔ Wp (ev Γ a ρ (st ++ [.dk []])) fun x s1 => Wp (ev Γ b ρ s1) fun y s2 => (match keyOf x, s2[st.length]? with
    | some key, some (.dk []) => Q (.ref st.length) (s2.set st.length (.dk [(key, y)]))
    | _, _ => False) := by
  conv => lhs; unfold ev
  simp only [wp_bnd]
  have key : ∀ (o : Option Key) (u : Option O) (y : T) (s2 : Sto), Wp (match o, u with | some key, some (O.dk []) => ok (T.ref st.length) (List.set s2 st.length (O.dk [(key, y)])) | x, x_1 => none) Q ↔ (match o, u with | some key, some (.dk []) => Q (.ref st.length) (s2.set st.length (.dk [(key, y)])) | _, _ => False) := fun o u y s2 => by
    cases o with
    | none => cases u with
      | none => exact Iff.rfl
      | some u => cases u <;> exact Iff.rfl
    | some o => cases u with
      | none => exact Iff.rfl
      | some u => cases u with
        | lst xs => exact Iff.rfl
        | fz xs => exact Iff.rfl
        | dk kvs => cases kvs <;> exact Iff.rfl
  constructor <;> intro h <;> refine h.imp fun x s q => q.imp fun y s2 q => ?_
  · exact (key _ _ _ _).mp q
  · exact (key _ _ _ _).mpr q
theorem w_nil {Q : List T → Sto → Prop} : Wp (evs Γ [] ρ st) Q ↔ Q [] st := by unfold evs; exact Iff.rfl
theorem w_cons {x : Ex} {r : List Ex} {Q : List T → Sto → Prop} : Wp (evs Γ (x :: r) ρ st) Q ↔ Wp (ev Γ x ρ st) fun t st => Wp (evs Γ r ρ st) fun ts st => Q (t :: ts) st := by
  conv => lhs; unfold evs
  simp only [wp_bnd, wp_ok]
/-! operations -/
theorem o_add {i j : Int} : Wp (opF .Add (.int i) (.int j) st) Q ↔ Q (.int (i + j)) st := Iff.rfl
theorem o_sub {i j : Int} : Wp (opF .Sub (.int i) (.int j) st) Q ↔ Q (.int (i - j)) st := Iff.rfl
theorem o_mul {i j : Int} : Wp (opF .Mult (.int i) (.int j) st) Q ↔ mulOk i j = true ∧ Q (.int (i * j)) st := wp_if
theorem o_div {i j : Int} : Wp (opF .FloorDiv (.int i) (.int j) st) Q ↔ (j ≠ 0 ∧ midI j = true) ∧ Q (.int (i.fdiv j)) st := wp_if
theorem o_mod {i j : Int} : Wp (opF .Mod (.int i) (.int j) st) Q ↔ j ≠ 0 ∧ Q (.int (i.fmod j)) st := wp_if
theorem o_pow {i j : Int} : Wp (opF .Pow (.int i) (.int j) st) Q ↔ (0 ≤ j ∧ j ≤ 1000000 ∧ smallI i = true) ∧ Q (.int (i ^ j.toNat)) st := wp_if
theorem o_cat {n m : Nat} : Wp (opF .Add (.ref n) (.ref m) st) Q ↔ (match st[n]?, st[m]? with
    | some (.lst xs), some (.lst ys) => xs.length + ys.length ≤ sizeLine ∧ Q (.ref st.length) (st ++ [.lst (xs ++ ys)])
    | _, _ => False) := by
  unfold opF
  dsimp only
  generalize st[n]? = o
  generalize st[m]? = u
  cases o with
  | none => cases u with
    | none => exact Iff.rfl
    | some u => cases u <;> exact Iff.rfl
  | some o => cases u with
    | none => cases o <;> exact Iff.rfl
    | some u => cases o <;> cases u <;> first | exact Iff.rfl | exact wp_if
theorem o_neg {i : Int} : Wp (unF .USub (.int i) st) Q ↔ Q (.int (-i)) st := Iff.rfl
theorem c_lt {i j : Int} : Wp (cmpF .Lt (.int i) (.int j) st) Q ↔ Q (.bl (decide (i < j))) st := Iff.rfl
theorem c_le {i j : Int} : Wp (cmpF .LtE (.int i) (.int j) st) Q ↔ Q (.bl (decide (i ≤ j))) st := Iff.rfl
theorem c_gt {i j : Int} : Wp (cmpF .Gt (.int i) (.int j) st) Q ↔ Q (.bl (decide (j < i))) st := Iff.rfl
theorem c_ge {i j : Int} : Wp (cmpF .GtE (.int i) (.int j) st) Q ↔ Q (.bl (decide (j ≤ i))) st := Iff.rfl
theorem c_eq {i j : Int} : Wp (cmpF .Eq (.int i) (.int j) st) Q ↔ Q (.bl (decide (i = j))) st := Iff.rfl
theorem c_ne {i j : Int} : Wp (cmpF .NotEq (.int i) (.int j) st) Q ↔ Q (.bl (!decide (i = j))) st := Iff.rfl
theorem c_isnot {i j : Bool} : Wp (cmpF .IsNot (.bl i) (.bl j) st) Q ↔ Q (.bl (i != j)) st := Iff.rfl
theorem c_is {i j : Bool} : Wp (cmpF .Is (.bl i) (.bl j) st) Q ↔ Q (.bl (i == j)) st := Iff.rfl
theorem b_absI {i : Int} : Wp (biF .abs [.int i] st) Q ↔ Q (.int (if i < 0 then -i else i)) st := Iff.rfl
theorem b_intI {i : Int} : Wp (biF .int [.int i] st) Q ↔ Q (.int i) st := Iff.rfl
theorem b_intB {i : Bool} : Wp (biF .int [.bl i] st) Q ↔ Q (.int (if i then 1 else 0)) st := Iff.rfl
theorem b_strI {i : Int} : Wp (biF .str [.int i] st) Q ↔ i.natAbs.log2 < 1920 ∧ Q (.str (toString i)) st := wp_if
theorem b_lenT {xs : List T} : Wp (biF .len [.tup xs] st) Q ↔ Q (.int xs.length) st := Iff.rfl
theorem b_lenR {n : Nat} : Wp (biF .len [.ref n] st) Q ↔ (match st[n]? with | some (.lst xs) => Q (.int xs.length) st | some (.fz xs) => Q (.int xs.length) st | _ => False) := by
  unfold biF seq?
  dsimp only
  generalize st[n]? = o
  cases o with
  | none => exact Iff.rfl
  | some o => cases o <;> exact Iff.rfl
theorem b_isi {ty : Ty} {t : T} : Wp (biF (.isi ty) [t] st) Q ↔ (match tyOf t st with | some h => Q (.bl (isTy h ty)) st | none => False) := by
  unfold biF
  dsimp only
  generalize tyOf t st = o
  cases o <;> exact Iff.rfl
theorem x_tup {xs : List T} {i : Int} : Wp (ixF (.tup xs) (.int i) st) Q ↔ (match atI xs i with | some t => Q t st | none => False) := by
  unfold ixF seq?
  dsimp only
  generalize atI xs i = o
  cases o <;> exact Iff.rfl
theorem x_ref {n : Nat} {i : Int} : Wp (ixF (.ref n) (.int i) st) Q ↔ (match st[n]? with
    | some (.lst xs) => (match atI xs i with | some t => Q t st | none => False)
    | some (.fz xs) => (match atI xs i with | some t => Q t st | none => False)
    | _ => False) := by
  unfold ixF seq?
  dsimp only
  generalize st[n]? = o
  cases o with
  | none => exact Iff.rfl
  | some o => cases o with
    | lst xs => dsimp only; cases atI xs i <;> exact Iff.rfl
    | fz xs => dsimp only; cases atI xs i <;> exact Iff.rfl
    | dk kvs => exact Iff.rfl
theorem l_ref {n : Nat} {lo hi : Option Int} : Wp (slF (.ref n) lo hi st) Q ↔ (match st[n]? with
    | some (.lst xs) => Q (.ref st.length) (st ++ [.lst (cutT xs lo hi)])
    | some (.fz xs) => Q (.ref st.length) (st ++ [.lst (cutT xs lo hi)])
    | _ => False) := by
  unfold slF
  dsimp only
  generalize st[n]? = o
  cases o with
  | none => exact Iff.rfl
  | some o => cases o <;> exact Iff.rfl
theorem cutT_ints (ns : List Int) (lo hi : Option Int) : ∃ ms : List Int, cutT (ns.map T.int) lo hi = ms.map T.int ∧ ms.length ≤ ns.length := by
  unfold cutT
  refine ⟨(ns.drop _).take _, by rw [List.map_take, List.map_drop], ?_⟩
  rw [List.length_take, List.length_drop]
  omega
/-! tests -/
variable {q : Bool → Sto → Prop}
theorem k_no : Wp (evC Γ (.no a p) ρ st) q ↔ Wp (evC Γ a ρ st) fun b st => q (!b) st := by
  conv => lhs; unfold evC
  simp only [wp_bnd, wp_ok]
theorem wp_ite {P : Prop} [Decidable P] {r s : Re α} {Q : α → Sto → Prop} : Wp (if P then r else s) Q ↔ if P then Wp r Q else Wp s Q := by
  by_cases h : P
  · rw [if_pos h, if_pos h]
  · rw [if_neg h, if_neg h]
theorem k_and : Wp (evC Γ (.and a b p) ρ st) q ↔ Wp (evC Γ a ρ st) fun k st => if k = true then Wp (evC Γ b ρ st) q else q false st := by
  conv => lhs; unfold evC
  simp only [wp_bnd, wp_ok, wp_ite]
theorem k_or : Wp (evC Γ (.or a b p) ρ st) q ↔ Wp (evC Γ a ρ st) fun k st => if k = true then q true st else Wp (evC Γ b ρ st) q := by
  conv => lhs; unfold evC
  simp only [wp_bnd, wp_ok, wp_ite]
theorem k_and3 : Wp (evC Γ (.and3 a b d p) ρ st) q ↔ Wp (evC Γ a ρ st) fun k st => if k = true then (Wp (evC Γ b ρ st) fun k st => if k = true then Wp (evC Γ d ρ st) q else q false st) else q false st := by
  conv => lhs; unfold evC
  simp only [wp_bnd, wp_ok, wp_ite]
theorem k_or3 : Wp (evC Γ (.or3 a b d p) ρ st) q ↔ Wp (evC Γ a ρ st) fun k st => if k = true then q true st else (Wp (evC Γ b ρ st) fun k st => if k = true then q true st else Wp (evC Γ d ρ st) q) := by
  conv => lhs; unfold evC
  simp only [wp_bnd, wp_ok, wp_ite]
theorem k_or4 {e : Ex} : Wp (evC Γ (.or4 a b d e p) ρ st) q ↔ Wp (evC Γ a ρ st) fun k st => if k = true then q true st else (Wp (evC Γ b ρ st) fun k st => if k = true then q true st else Wp (evC Γ d ρ st) fun k st => if k = true then q true st else Wp (evC Γ e ρ st) q) := by
  conv => lhs; unfold evC
  simp only [wp_bnd, wp_ok, wp_ite]
theorem k_and4 {e : Ex} : Wp (evC Γ (.and4 a b d e p) ρ st) q ↔ Wp (evC Γ a ρ st) fun k st => if k = true then (Wp (evC Γ b ρ st) fun k st => if k = true then (Wp (evC Γ d ρ st) fun k st => if k = true then Wp (evC Γ e ρ st) q else q false st) else q false st) else q false st := by
  conv => lhs; unfold evC
  simp only [wp_bnd, wp_ok, wp_ite]
theorem k_cmp {op : CmpOp} : Wp (evC Γ (.cmp op a b p) ρ st) q ↔ Wp (ev Γ a ρ st) fun x st => Wp (ev Γ b ρ st) fun y st => Wp (cmpF op x y st) fun t st => (match t with | .bl k => q k st | _ => False) := by
  conv => lhs; unfold evC
  simp only [wp_bnd]
  constructor <;> intro h <;> refine h.imp fun x s q => q.imp fun y s q => q.imp fun t s q => ?_ <;> (cases t <;> exact q)
theorem tru_wp {t : T} : Wp (truF t st) q ↔ (match t with | .bl b => q b st | .non => q false st | .int i => q (i != 0) st | _ => False) := by
  cases t <;> exact Iff.rfl
theorem tru_bl {b : Bool} : Wp (truF (.bl b) st) q ↔ q b st := Iff.rfl
theorem tru_non : Wp (truF .non st) q ↔ q false st := Iff.rfl
theorem tru_int {i : Int} : Wp (truF (.int i) st) q ↔ q (i != 0) st := Iff.rfl
theorem k_call {f : Nat} {x : Str} {pn : Pos} {xs : List Ex} : Wp (evC Γ (.call f x pn a xs p) ρ st) q ↔ Wp (ev Γ (.call f x pn a xs p) ρ st) fun t st => Wp (truF t st) q := by
  rw [evC.eq_def]
  simp only [wp_bnd]
theorem k_isi {ty : Ty} {pn pt : Pos} : Wp (evC Γ (.isi ty pn pt a p) ρ st) q ↔ Wp (ev Γ (.isi ty pn pt a p) ρ st) fun t st => Wp (truF t st) q := by
  rw [evC.eq_def]
  simp only [wp_bnd]
theorem k_var {i : Nat} {x : Str} : Wp (evC Γ (.var i x p) ρ st) q ↔ Wp (ev Γ (.var i x p) ρ st) fun t st => Wp (truF t st) q := by
  rw [evC.eq_def]
  simp only [wp_bnd]
/-! statements -/
theorem WpS.imp {r : Option Fl} {N' : Lo → Sto → Prop} {R' : T → Sto → Prop} {B' C' : Lo → Sto → Prop} (h : WpS r N R B C) (h1 : ∀ ρ st, N ρ st → N' ρ st) (h2 : ∀ t st, R t st → R' t st) (h3 : ∀ ρ st, B ρ st → B' ρ st) (h4 : ∀ ρ st, C ρ st → C' ρ st) : WpS r N' R' B' C' := by
  cases r with
  | none => exact h
  | some o => cases o with
    | nx ρ st => exact h1 _ _ h
    | rt t st => exact h2 _ _ h
    | bk ρ st => exact h3 _ _ h
    | ct ρ st => exact h4 _ _ h
    | ex c st => exact h
theorem s_bnd {r : Re α} {f : α → Sto → Option Fl} : WpS (bndS r f) N R B C ↔ Wp r fun x st => WpS (f x st) N R B C := by
  cases r with
  | none => exact Iff.rfl
  | some o => cases o <;> exact Iff.rfl
theorem s_cons {x : Sx} {r : List Sx} : WpS (exSs Γ F (x :: r) ρ st) N R B C ↔ WpS (exS Γ F x ρ st) (fun ρ st => WpS (exSs Γ F r ρ st) N R B C) R B C := by
  rw [exSs_cons]
  cases exS Γ F x ρ st with
  | none => exact Iff.rfl
  | some o => cases o <;> exact Iff.rfl
theorem s_nil : WpS (exSs Γ F [] ρ st) N R B C ↔ N ρ st := by rw [exSs_nil]; exact Iff.rfl
theorem s_asg {i : Nat} {x : Str} {px : Pos} : WpS (exS Γ F (.asg (.nm i x px) a p) ρ st) N R B C ↔ Wp (ev Γ a ρ st) fun t st => N (ρ.set i (some t)) st := by
  unfold exS
  rw [s_bnd]
  exact Iff.rfl
theorem s_asgT {xs : List (Nat × Str × Pos)} {k : Nat} {px : Pos} : WpS (exS Γ F (.asg (.tp xs k px) a p) ρ st) N R B C ↔ Wp (ev Γ a ρ st) fun t st => (match t with | .tup ts => (match setMany xs ts ρ with | some ρ' => N ρ' st | none => False) | _ => False) := by
  unfold exS
  rw [s_bnd]
  constructor <;> intro h <;> refine h.imp fun x s q => ?_
  · cases x <;> first | exact q.elim | skip
    dsimp only
    simp only [Tg.set] at q
    split <;> rename_i e <;> (rw [e] at q; exact q)
  · cases x <;> first | exact q.elim | skip
    dsimp only at q
    simp only [Tg.set]
    split at q
    · rename_i e; rw [e]; exact q
    · exact q.elim
theorem s_par {i j : Nat} {x y : Str} {px py pt pt2 : Pos} {k k2 : Nat} : WpS (exS Γ F (.par i x px j y py k pt a b k2 pt2 p) ρ st) N R B C ↔ Wp (ev Γ a ρ st) fun t st => Wp (ev Γ b ρ st) fun u st => N ((ρ.set i (some t)).set j (some u)) st := by
  unfold exS
  rw [s_bnd]
  simp only [s_bnd]
  exact Iff.rfl
theorem s_exp : WpS (exS Γ F (.exp a p) ρ st) N R B C ↔ Wp (ev Γ a ρ st) fun t st => N ρ st := by
  unfold exS
  rw [s_bnd]
  exact Iff.rfl
theorem s_ret : WpS (exS Γ F (.ret a p) ρ st) N R B C ↔ Wp (ev Γ a ρ st) R := by
  unfold exS
  rw [s_bnd]
  exact Iff.rfl
theorem s_ife {x y : List Sx} : WpS (exS Γ F (.ife a x y p) ρ st) N R B C ↔ Wp (evC Γ a ρ st) fun k st => if k = true then WpS (exSs Γ F x ρ st) N R B C else WpS (exSs Γ F y ρ st) N R B C := by
  unfold exS
  rw [s_bnd]
  constructor <;> intro h <;> refine h.imp fun k s q => ?_ <;> (cases k <;> exact q)
theorem s_put {o i : Ex} {pt : Pos} : WpS (exS Γ F (.put o i pt a p) ρ st) N R B C ↔ Wp (ev Γ a ρ st) fun t st => Wp (ev Γ o ρ st) fun x st => Wp (ev Γ i ρ st) fun y st => (match x, y with
    | .ref n, .int k => (match st[n]? with
      | some (.lst xs) => (match ixN xs.length k with
        | some j => N ρ (st.set n (.lst (xs.set j t)))
        | none => False)
      | _ => False)
    | _, _ => False) := by
  unfold exS
  rw [s_bnd]
  simp only [s_bnd]
  constructor <;> intro h <;> refine h.imp fun t s1 q1 => q1.imp fun x s2 q2 => q2.imp fun y s q => ?_
  all_goals
    clear q1 q2 h
    cases x <;> cases y <;> first | exact q.elim | skip
    rename_i n k
    dsimp only at q ⊢
    revert q
    cases s[n]? with
    | none => exact id
    | some o => cases o with
      | lst xs => dsimp only; cases ixN xs.length k <;> exact id
      | fz xs => exact id
      | dk xs => exact id
theorem s_noEx {r : Option Fl} : WpS (noEx r) N R B C ↔ WpS r N R B C := by
  cases r with
  | none => exact Iff.rfl
  | some o => cases o <;> exact Iff.rfl
theorem s_for {g : Tg} {it : It} {x : List Sx} {tr : Bool} : WpS (exS Γ F (.fr g it x tr p) ρ st) N R B C ↔ Wp (evIt Γ it ρ st) fun q st => WpS (loopF q.2 tr st.length g (exSs Γ F x) q.1 ρ st) N R B C := by
  unfold exS
  rw [s_noEx, s_bnd]
theorem s_whl {x : List Sx} : WpS (exS Γ F (.whl a x p) ρ st) N R B C ↔ WpS (loopW (evC Γ a) (exSs Γ F x) F ρ st) N R B C := by
  unfold exS
  exact s_noEx
/-- the outcome of a call within a try -/
def TryP (cx : Nat) (r : Re T) (P : Sto → Prop) (X : Nat → Sto → Prop) : Prop := match r with
  | some (.ok _ st) => P st
  | some (.ex c st) => subX c cx = true ∧ X c st
  | none => False
theorem s_tre {f cx i j : Nat} {x n v : Str} {pn pc pe px pv p1 pa ph : Pos} {xs : List Ex} : WpS (exS Γ F (.tre f x pn a xs pc pe cx px i n j v pv p1 pa ph p) ρ st) N R B C ↔ Wp (ev Γ a ρ st) fun t st => Wp (evs Γ xs ρ st) fun ts st => TryP cx (Γ f (t :: ts) st) (fun st => N ρ st) (fun c st => N (((ρ.set i (some (.exc c))).set j (some (.exc c))).set i none) st) := by
  unfold exS
  cases ev Γ a ρ st with
  | none => exact Iff.rfl
  | some r1 => cases r1 with
    | ex c s1 => exact Iff.rfl
    | ok t s1 =>
      simp only [bnd_ok, wp_ok, wp_some]
      cases evs Γ xs ρ s1 with
      | none => exact Iff.rfl
      | some r2 => cases r2 with
        | ex c s2 => exact Iff.rfl
        | ok ts s2 =>
          simp only [bnd_ok, wp_ok, wp_some]
          show WpS (match Γ f (t :: ts) s2 with
            | some (.ok _ st) => some (.nx ρ st)
            | some (.ex c st) => if subX c cx = true then some (.nx (((ρ.set i (some (.exc c))).set j (some (.exc c))).set i none) st) else none
            | none => none) N R B C ↔ TryP cx (Γ f (t :: ts) s2) _ _
          cases Γ f (t :: ts) s2 with
          | none => exact Iff.rfl
          | some r3 => cases r3 with
            | ok u s3 => exact Iff.rfl
            | ex c s3 =>
              show WpS (if subX c cx = true then _ else none) N R B C ↔ (subX c cx = true ∧ _)
              by_cases hs : subX c cx = true
              · rw [if_pos hs]; exact ⟨fun q => ⟨hs, q⟩, fun q => q.2⟩
              · rw [if_neg hs]; exact ⟨fun q => q.elim, fun q => hs q.1⟩
/-- an exception comes out -/
def Xp (r : Re T) (Q : Nat → Sto → Prop) : Prop := match r with
  | some (.ex c st) => Q c st
  | _ => False
def XpS (r : Option Fl) (Q : Nat → Sto → Prop) : Prop := match r with
  | some (.ex c st) => Q c st
  | _ => False
theorem try_x {cx : Nat} {r : Re T} {P : Sto → Prop} {X : Nat → Sto → Prop} (h : Xp r fun c st => subX c cx = true ∧ X c st) : TryP cx r P X := by
  cases r with
  | none => exact h
  | some o => cases o with
    | ok a st => exact h.elim
    | ex c st => exact h
theorem try_ok {cx : Nat} {r : Re T} {P : Sto → Prop} {X : Nat → Sto → Prop} (h : Wp r fun _ st => P st) : TryP cx r P X := by
  cases r with
  | none => exact h
  | some o => cases o with
    | ok a st => exact h
    | ex c st => exact h.elim
theorem Xp.imp {r : Re T} {Q Q' : Nat → Sto → Prop} (h : Xp r Q) (q : ∀ c st, Q c st → Q' c st) : Xp r Q' := by
  cases r with
  | none => exact h
  | some o => cases o with
    | ok a st => exact h
    | ex c st => exact q _ _ h
theorem xs_rse {cx : Nat} {np cp : Pos} {r : List Sx} {Q : Nat → Sto → Prop} (h : Wp (ev Γ a ρ st) fun _ st => Q cx st) : XpS (exSs Γ F (.rse cx np a cp p :: r) ρ st) Q := by
  rw [exSs_cons]
  unfold exS
  revert h
  cases ev Γ a ρ st with
  | none => exact id
  | some o => cases o <;> first | exact id | exact False.elim
theorem xs_ife {x y r : List Sx} {Q : Nat → Sto → Prop} (h : Wp (evC Γ a ρ st) fun k st => k = true ∧ XpS (exSs Γ F x ρ st) Q) : XpS (exSs Γ F (.ife a x y p :: r) ρ st) Q := by
  rw [exSs_cons]
  unfold exS
  revert h
  cases evC Γ a ρ st with
  | none => exact id
  | some o => cases o with
    | ex c s => exact False.elim
    | ok k s =>
      rintro ⟨rfl, h⟩
      show XpS (seqS (exSs Γ F x ρ s) _) Q
      revert h
      cases exSs Γ F x ρ s with
      | none => exact id
      | some f => cases f <;> first | exact id | exact False.elim
theorem xs_ret {f : Nat} {x : Str} {pn pc : Pos} {xs : List Ex} {r : List Sx} {Q : Nat → Sto → Prop} (h : Wp (ev Γ a ρ st) fun t st => Wp (evs Γ xs ρ st) fun ts st => Xp (Γ f (t :: ts) st) Q) : XpS (exSs Γ F (.ret (.call f x pn a xs pc) p :: r) ρ st) Q := by
  rw [exSs_cons]
  unfold exS ev
  revert h
  cases ev Γ a ρ st with
  | none => exact id
  | some o => cases o with
    | ex c s => exact False.elim
    | ok t s =>
      simp only [bnd_ok, wp_ok, wp_some]
      cases evs Γ xs ρ s with
      | none => exact id
      | some o => cases o with
        | ex c s => exact False.elim
        | ok ts s2 =>
          simp only [bnd_ok, wp_ok, wp_some]
          cases Γ f (t :: ts) s2 with
          | none => exact id
          | some o => cases o <;> first | exact id | exact False.elim
theorem run_xp {f : Fn} {ts : List T} {Q : Nat → Sto → Prop} (hl : ts.length = f.ps) (h : XpS (exSs Γ F f.body (ts.map some ++ List.replicate (f.ns - f.ps) none) st) fun c st' => ∃ st'', trimS st.length st' = some st'' ∧ Q c st'') : Xp (run Γ F f ts st) Q := by
  unfold run
  rw [if_pos hl]
  revert h
  cases exSs Γ F f.body (ts.map some ++ List.replicate (f.ns - f.ps) none) st with
  | none => exact id
  | some o => cases o with
    | nx ρ st => exact False.elim
    | rt t st => exact False.elim
    | bk ρ st => exact False.elim
    | ct ρ st => exact False.elim
    | ex c st' =>
      rintro ⟨st'', e, q⟩
      show Xp ((trimS st.length st').map fun st'' => Out.ex c st'') Q
      rw [e]
      exact q
theorem wp_noXr {r : Re T} : Wp (noXr r) Q ↔ Wp r Q := by
  cases r with
  | none => exact Iff.rfl
  | some o => cases o <;> exact Iff.rfl
theorem w_lc {elt : Ex} {g : Tg} {k : IK} {pn pr : Pos} {sc : Scope} {own : List (Str × Nat)} : Wp (ev Γ (.lc elt g k a b pn pr sc own p) ρ st) Q ↔ Wp (itv k (fun st => ev Γ a ρ st) (fun st => ev Γ b ρ st) st) fun q st => Wp (lcF q.2 g (fun ρ st => ev Γ elt ρ st) st.length (wipeL ρ (own.map (·.2))) q.1 (st ++ [.lst []])) Q := by
  conv => lhs; unfold ev
  simp only [wp_bnd, wp_noXr]
theorem w_mm {mx : Bool} {pn : Pos} : Wp (ev Γ (.mm mx pn a b p) ρ st) Q ↔ Wp (ev Γ a ρ st) fun x st => Wp (ev Γ b ρ st) fun y st => (match x, y with | .int i, .int j => Q (.int (if mx then (if j > i then j else i) else (if j < i then j else i))) st | _, _ => False) := by
  conv => lhs; unfold ev
  simp only [wp_bnd]
  constructor <;> intro h <;> refine h.imp fun x s q => q.imp fun y s q => ?_ <;> (cases x <;> cases y <;> exact q)
theorem v_lst {fa fb : Sto → Re T} {Q : List T × (Sto → Bool) → Sto → Prop} : Wp (itv .lst fa fb st) Q ↔ Wp (fa st) fun x st => (match x with
    | .ref n => (match st[n]? with
      | some (.lst xs) => Q (xs, sameAt n xs) st
      | some (.fz xs) => Q (xs, sameAt n xs) st
      | _ => False)
    | _ => False) := by
  unfold itv
  simp only [wp_bnd]
  constructor <;> intro h <;> refine h.imp fun x s q => ?_
  · cases x <;> first | exact q | skip
    rename_i n
    unfold seq? at q
    dsimp only at q ⊢
    revert q
    cases s[n]? with
    | none => exact id
    | some o => cases o <;> exact id
  · cases x <;> first | exact q | skip
    rename_i n
    unfold seq?
    dsimp only at q ⊢
    revert q
    cases s[n]? with
    | none => exact id
    | some o => cases o <;> exact id
theorem v_tup {fa fb : Sto → Re T} {Q : List T × (Sto → Bool) → Sto → Prop} : Wp (itv .tup fa fb st) Q ↔ Wp (fa st) fun x st => (match x with | .tup xs => Q (xs, fun _ => true) st | _ => False) := by
  unfold itv
  simp only [wp_bnd]
  constructor <;> intro h <;> refine h.imp fun x s q => ?_ <;> (cases x <;> exact q)
theorem v_rng1 {fa fb : Sto → Re T} {Q : List T × (Sto → Bool) → Sto → Prop} : Wp (itv .rng1 fa fb st) Q ↔ Wp (fa st) fun x st => (match x with | .int j => rngOk j = true ∧ Q (rngT 0 j.toNat, fun _ => true) st | _ => False) := by
  unfold itv
  simp only [wp_bnd]
  constructor <;> intro h <;> refine h.imp fun x s q => ?_
  · cases x <;> first | exact q | exact wp_if.mp q
  · cases x <;> first | exact q | exact wp_if.mpr q
theorem v_rng2 {fa fb : Sto → Re T} {Q : List T × (Sto → Bool) → Sto → Prop} : Wp (itv .rng2 fa fb st) Q ↔ Wp (fa st) fun x st => Wp (fb st) fun y st => (match x, y with | .int i, .int j => (rngOk i && rngOk j) = true ∧ Q (rngT i (j - i).toNat, fun _ => true) st | _, _ => False) := by
  unfold itv
  simp only [wp_bnd]
  constructor <;> intro h <;> refine h.imp fun x s q => q.imp fun y s q => ?_
  · cases x <;> cases y <;> first | exact q | exact wp_if.mp q
  · cases x <;> cases y <;> first | exact q | exact wp_if.mpr q
theorem b_all {n : Nat} : Wp (biF .all [.ref n] st) Q ↔ (match lbools n st with | some bs => Q (.bl (bs.all id)) st | none => False) := by
  unfold biF
  dsimp only
  cases lbools n st <;> exact Iff.rfl
theorem b_any {n : Nat} : Wp (biF .any [.ref n] st) Q ↔ (match lbools n st with | some bs => Q (.bl (bs.any id)) st | none => False) := by
  unfold biF
  dsimp only
  cases lbools n st <;> exact Iff.rfl
/-- a list comprehension whose elements make nothing that stays -/
theorem lc_wp {src : Sto → Bool} {g : Tg} {f : Lo → Sto → Re T} {ρ0 : Lo} {ts : List T} {n : Nat} (hn : n = st.length) (P : Nat → List T → Prop) (h0 : P 0 []) (hsrc : ∀ acc, src (st ++ [.lst acc]) = true) (hlen : ts.length ≤ 1000) (hP : ∀ i acc, P i acc → acc.length = i)
    (turn : ∀ (i : Nat) (t : T) (acc : List T), ts[i]? = some t → P i acc → ∃ ρ1, g.set t ρ0 = some ρ1 ∧ Wp (f ρ1 (st ++ [.lst acc])) fun y s => s = st ++ [.lst acc] ∧ P (i + 1) (acc ++ [y]))
    (fin : ∀ acc, P ts.length acc → Q (.ref st.length) (st ++ [.lst acc])) : Wp (lcF src g f n ρ0 ts (st ++ [.lst []])) Q := by
  subst hn
  have key : ∀ (us : List T) (i : Nat) (acc : List T), ts.drop i = us → i ≤ ts.length → P i acc → Wp (lcF src g f st.length ρ0 us (st ++ [.lst acc])) Q := by
    intro us
    induction us with
    | nil =>
      intro i acc e hi hp
      have : i = ts.length := by
        have := congrArg List.length e
        rw [List.length_drop, List.length_nil] at this
        omega
      subst this
      unfold lcF
      rw [if_pos (hsrc acc)]
      exact fin acc hp
    | cons t us ih =>
      intro i acc e hi hp
      have hlt : i < ts.length := by
        have := congrArg List.length e
        rw [List.length_drop, List.length_cons] at this
        omega
      have ht : ts[i]? = some t := by
        have := congrArg (·[0]?) e
        simpa [List.getElem?_drop] using this
      have hd : ts.drop (i + 1) = us := by
        have := congrArg List.tail e
        simpa [List.tail_drop] using this
      obtain ⟨ρ1, eg, w⟩ := turn i t acc ht hp
      unfold lcF
      rw [if_pos (hsrc acc), eg]
      dsimp only
      rw [wp_bnd]
      refine w.imp fun y s q => ?_
      obtain ⟨rfl, hp'⟩ := q
      rw [gA0]
      dsimp only [List.getElem?_cons_zero]
      rw [if_pos (show acc.length < sizeLine from Nat.lt_of_lt_of_le (show acc.length < 1001 by rw [hP i acc hp]; omega) (by decide)), sA0]
      exact ih (i + 1) (acc ++ [y]) hd hlt hp'
  exact key ts 0 [] rfl (Nat.zero_le _) h0
theorem w_isx {cx : Nat} {pn pt : Pos} : Wp (ev Γ (.isx cx pn pt a p) ρ st) Q ↔ Wp (ev Γ a ρ st) fun t st => Wp (isxF [cx] t st) Q := by
  conv => lhs; unfold ev
  simp only [wp_bnd]
theorem w_isv {pn pt : Pos} : Wp (ev Γ (.isv pn pt a p) ρ st) Q ↔ Wp (ev Γ a ρ st) fun t st => Wp (isvF t st) Q := by
  conv => lhs; unfold ev
  simp only [wp_bnd]
theorem w_isxs {cs : List (Nat × Pos)} {k : Nat} {pn pt : Pos} : Wp (ev Γ (.isxs cs k pt pn a p) ρ st) Q ↔ Wp (ev Γ a ρ st) fun t st => cs.length ≤ 1000 ∧ Wp (isxF (cs.map (·.1)) t st) Q := by
  conv => lhs; unfold ev
  simp only [wp_bnd, wp_if]
theorem f_isx {cs : List Nat} {c : Nat} : Wp (isxF cs (.exc c) st) Q ↔ Q (.bl (cs.any (subX c))) st := Iff.rfl
theorem f_isv {c : Nat} : Wp (isvF (.exc c) st) Q ↔ Q (.bl true) st := Iff.rfl
theorem w_and3 {d : Ex} : Wp (ev Γ (.and3 a b d p) ρ st) Q ↔ Wp (ev Γ a ρ st) fun x st => (match x with | .bl true => Wp (ev Γ b ρ st) (fun y st => (match y with | .bl true => Wp (ev Γ d ρ st) Q | .bl false => Q (.bl false) st | _ => False)) | .bl false => Q (.bl false) st | _ => False) := by
  conv => lhs; unfold ev
  simp only [wp_bnd]
  constructor <;> intro h <;> refine h.imp fun x s q => ?_
  · cases x with
    | bl k => cases k with
      | false => exact q
      | true =>
        dsimp only at q ⊢
        rw [wp_bnd] at q
        refine q.imp fun y s q => ?_
        cases y with | bl k => cases k <;> exact q | _ => exact q
    | _ => exact q
  · cases x with
    | bl k => cases k with
      | false => exact q
      | true =>
        dsimp only at q ⊢
        rw [wp_bnd]
        refine q.imp fun y s q => ?_
        cases y with | bl k => cases k <;> exact q | _ => exact q
    | _ => exact q
theorem k_isx {cx : Nat} {pn pt : Pos} {q : Bool → Sto → Prop} : Wp (evC Γ (.isx cx pn pt a p) ρ st) q ↔ Wp (ev Γ (.isx cx pn pt a p) ρ st) fun t st => Wp (truF t st) q := by
  rw [evC.eq_def]
  simp only [wp_bnd]
theorem s_brk : WpS (exS Γ F (.brk p) ρ st) N R B C ↔ B ρ st := by unfold exS; exact Iff.rfl
theorem s_con : WpS (exS Γ F (.con p) ρ st) N R B C ↔ C ρ st := by unfold exS; exact Iff.rfl
theorem s_pas : WpS (exS Γ F (.pas p) ρ st) N R B C ↔ N ρ st := by unfold exS; exact Iff.rfl
theorem i_lst {Q : List T × (Sto → Bool) → Sto → Prop} : Wp (evIt Γ (.lst a) ρ st) Q ↔ Wp (ev Γ a ρ st) fun x st => (match x with
    | .ref n => (match st[n]? with | some (.lst xs) => Q (xs, sameAt n xs) st | some (.fz xs) => Q (xs, sameAt n xs) st | _ => False)
    | _ => False) := by
  unfold evIt
  simp only [wp_bnd]
  constructor <;> intro h <;> refine h.imp fun x s q => ?_
  all_goals (cases x <;> first | exact q.elim | skip)
  all_goals
    unfold seq? at *
    dsimp only at q ⊢
    revert q
    rename_i n
    generalize s[n]? = o
    cases o with
    | none => exact id
    | some o => cases o <;> exact id
theorem i_tup {Q : List T × (Sto → Bool) → Sto → Prop} : Wp (evIt Γ (.tup a) ρ st) Q ↔ Wp (ev Γ a ρ st) fun x st => (match x with
    | .tup xs => Q (xs, fun _ => true) st
    | _ => False) := by
  unfold evIt
  simp only [wp_bnd]
  constructor <;> intro h <;> refine h.imp fun x s q => ?_ <;> (cases x <;> exact q)
theorem i_rng1 {pn : Pos} {Q : List T × (Sto → Bool) → Sto → Prop} : Wp (evIt Γ (.rng1 a pn p) ρ st) Q ↔ Wp (ev Γ a ρ st) fun x st => (match x with
    | .int j => rngOk j = true ∧ Q (rngT 0 j.toNat, fun _ => true) st
    | _ => False) := by
  unfold evIt
  simp only [wp_bnd]
  constructor <;> intro h <;> refine h.imp fun x s q => ?_
  all_goals (cases x <;> first | exact q | skip)
  · exact wp_if.mp q
  · exact wp_if.mpr q
theorem i_rng2 {pn : Pos} {Q : List T × (Sto → Bool) → Sto → Prop} : Wp (evIt Γ (.rng2 a b pn p) ρ st) Q ↔ Wp (ev Γ a ρ st) fun x st => Wp (ev Γ b ρ st) fun y st => (match x, y with
    | .int i, .int j => (rngOk i && rngOk j) = true ∧ Q (rngT i (j - i).toNat, fun _ => true) st
    | _, _ => False) := by
  unfold evIt
  simp only [wp_bnd]
  constructor <;> intro h <;> refine h.imp fun x s q => q.imp fun y s q => ?_
  all_goals (cases x <;> cases y <;> first | exact q | skip)
  · exact wp_if.mp q
  · exact wp_if.mpr q
/-- a for, by what holds ahead of each turn -/
theorem for_wp {src : Sto → Bool} {tr : Bool} {n : Nat} {g : Tg} {x : Lo → Sto → Option Fl} {ts : List T} (P : Nat → Lo → Sto → Prop) (h0 : P 0 ρ st)
    (hs : ∀ (i : Nat) (t : T) (ρ : Lo) (st : Sto), ts[i]? = some t → P i ρ st → src st = true ∧ ∃ ρ1, g.set t ρ = some ρ1 ∧ WpS (x ρ1 st) (fun ρ' st' => ∃ q, turnEnd tr n ρ' st' = some q ∧ P (i + 1) q.1 q.2) R N (fun ρ' st' => ∃ q, turnEnd tr n ρ' st' = some q ∧ P (i + 1) q.1 q.2))
    (hd : ∀ ρ st, P ts.length ρ st → src st = true ∧ N ρ st) : WpS (loopF src tr n g x ts ρ st) N R B C := by
  have key : ∀ (us : List T) (i : Nat) (ρ : Lo) (st : Sto), ts.drop i = us → i ≤ ts.length → P i ρ st → WpS (loopF src tr n g x us ρ st) N R B C := by
    intro us
    induction us with
    | nil =>
      intro i ρ st hu hi hp
      have : i = ts.length := by
        have := congrArg List.length hu
        rw [List.length_drop] at this
        simp at this
        omega
      subst this
      obtain ⟨h1, h2⟩ := hd ρ st hp
      unfold loopF
      rw [if_pos h1]
      exact h2
    | cons t us ih =>
      intro i ρ st hu hi hp
      have hlt : i < ts.length := by
        have := congrArg List.length hu
        rw [List.length_drop] at this
        simp at this
        omega
      have ht : ts[i]? = some t := by
        have := congrArg (fun l => l[0]?) hu
        simpa [List.getElem?_drop] using this
      have hu' : ts.drop (i + 1) = us := by
        have := congrArg List.tail hu
        simpa [List.tail_drop] using this
      obtain ⟨h1, ρ1, h2, h3⟩ := hs i t ρ st ht hp
      unfold loopF
      rw [if_pos h1, h2]
      dsimp only
      revert h3
      cases x ρ1 st with
      | none => exact id
      | some o => cases o with
        | nx ρ' st' =>
          rintro ⟨q, e, hp'⟩
          dsimp only
          rw [e]
          exact ih (i + 1) q.1 q.2 hu' hlt hp'
        | ct ρ' st' =>
          rintro ⟨q, e, hp'⟩
          dsimp only
          rw [e]
          exact ih (i + 1) q.1 q.2 hu' hlt hp'
        | bk ρ' st' => exact id
        | rt t st' => exact id
        | ex c st' => exact id
  exact key ts 0 ρ st rfl (Nat.zero_le _) h0
/-- a def by its body -/
theorem run_wp {f : Fn} {ts : List T} {Q : T → Sto → Prop} (hl : ts.length = f.ps) (h : WpS (exSs Γ F f.body (ts.map some ++ List.replicate (f.ns - f.ps) none) st) (fun _ st' => Wp (endF f.md st.length .non st') Q) (fun t st' => Wp (endF f.md st.length t st') Q) (fun _ _ => False) (fun _ _ => False)) : Wp (run Γ F f ts st) Q := by
  unfold run
  rw [if_pos hl]
  revert h
  cases exSs Γ F f.body (ts.map some ++ List.replicate (f.ns - f.ps) none) st with
  | none => exact id
  | some o => cases o with
    | nx ρ st => exact id
    | rt t st => exact id
    | bk ρ st => exact False.elim
    | ct ρ st => exact False.elim
    | ex c st => exact False.elim
theorem e_pur {t : T} {xs : Sto} {Q : T → Sto → Prop} (hc : Cl st) (ht : t.blw st.length = true) (h : Q t st) : Wp (endF .pur st.length t (st ++ xs)) Q := wp_of (end_pur hc ht xs) h
theorem e_pur0 {t : T} {Q : T → Sto → Prop} (hc : Cl st) (ht : t.blw st.length = true) (h : Q t st) : Wp (endF .pur st.length t st) Q := wp_of (end_pur0 hc ht) h
theorem e_frs {us : List T} {xs : Sto} {Q : T → Sto → Prop} (hc : Cl st) (hb : T.blws st.length us = true) (h : Q (.ref st.length) (st ++ [.lst us])) : Wp (endF .frs st.length (.ref st.length) (st ++ .lst us :: xs)) Q := wp_of (end_frs0 hc hb xs) h
end
end Ev

namespace K02
open PySem L2 Ev
def top (i : Nat) : Stmt := PySem.Challenge.pw_farshells_k02_ratios_reckoned.main.body.getD i (.Pass ⟨0, 0, 0, 0⟩)
def b_is_whole : List Sx := [.ret (.and (.isi .int ⟨10, 11, 10, 21⟩ ⟨10, 29, 10, 32⟩ (.var 0 "thing" ⟨10, 22, 10, 27⟩) ⟨10, 11, 10, 33⟩) (.no (.isi .bool ⟨10, 43, 10, 53⟩ ⟨10, 61, 10, 65⟩ (.var 0 "thing" ⟨10, 54, 10, 59⟩) ⟨10, 43, 10, 66⟩) ⟨10, 39, 10, 66⟩) ⟨10, 11, 10, 67⟩) ⟨10, 4, 10, 67⟩]
def f_is_whole : Fn := ⟨"is_whole", 1, 1, .pur, b_is_whole⟩
theorem hb_is_whole : defBody (top 5) = Sx.ss b_is_whole := by kernel_rfl
theorem sc_is_whole : FnScope ["thing"] ["thing"] (defScope (top 5)) := ⟨rfl, rfl, rfl, by decide +kernel, rfl, by decide +kernel, by decide +kernel⟩
theorem ok_is_whole : okSs ⟨["thing"], defScope (top 5), ["bool", "int", "isinstance"], [], [], [], true⟩ b_is_whole = true := by decide +kernel
def G_is_whole : Fns := fun i => match i with | _ => fun _ _ => none
def s_is_whole : List T → Sto → Re T := run G_is_whole FU f_is_whole
def c_greatest_common_1 : Ex := .cmp .NotEq (.var 1 "other" ⟨12, 10, 12, 15⟩) (.int (0) 0 ⟨12, 19, 12, 20⟩) ⟨12, 10, 12, 20⟩
def b_greatest_common_1 : List Sx := [.par 0 "one" ⟨13, 8, 13, 11⟩ 1 "other" ⟨13, 13, 13, 18⟩ 0 ⟨13, 8, 13, 18⟩ (.var 1 "other" ⟨13, 22, 13, 27⟩) (.bin .Mod (.var 0 "one" ⟨13, 29, 13, 32⟩) (.var 1 "other" ⟨13, 35, 13, 40⟩) ⟨13, 29, 13, 40⟩) 0 ⟨13, 21, 13, 41⟩ ⟨13, 8, 13, 41⟩]
def b_greatest_common : List Sx := [.whl c_greatest_common_1 b_greatest_common_1 ⟨12, 4, 13, 41⟩,
  .ret (.bi .abs ⟨14, 11, 14, 14⟩ (.var 0 "one" ⟨14, 15, 14, 18⟩) ⟨14, 11, 14, 19⟩) ⟨14, 4, 14, 19⟩]
def f_greatest_common : Fn := ⟨"greatest_common", 2, 2, .pur, b_greatest_common⟩
theorem hb_greatest_common : defBody (top 6) = Sx.ss b_greatest_common := by kernel_rfl
theorem sc_greatest_common : FnScope ["one", "other"] ["one", "other"] (defScope (top 6)) := ⟨rfl, rfl, rfl, by decide +kernel, rfl, by decide +kernel, by decide +kernel⟩
theorem ok_greatest_common : okSs ⟨["one", "other"], defScope (top 6), ["abs"], [], [], [], true⟩ b_greatest_common = true := by decide +kernel
def G_greatest_common : Fns := fun i => match i with | _ => fun _ _ => none
def s_greatest_common : List T → Sto → Re T := run G_greatest_common FU f_greatest_common
def b_is_ratio : List Sx := [.ife (.no (.and (.isi .tuple ⟨16, 12, 16, 22⟩ ⟨16, 30, 16, 35⟩ (.var 0 "thing" ⟨16, 23, 16, 28⟩) ⟨16, 12, 16, 36⟩) (.cmp .Eq (.bi .len ⟨16, 41, 16, 44⟩ (.var 0 "thing" ⟨16, 45, 16, 50⟩) ⟨16, 41, 16, 51⟩) (.int (2) 0 ⟨16, 55, 16, 56⟩) ⟨16, 41, 16, 56⟩) ⟨16, 12, 16, 56⟩) ⟨16, 7, 16, 57⟩) [.ret (.bl false 0 ⟨17, 15, 17, 20⟩) ⟨17, 8, 17, 20⟩] [] ⟨16, 4, 17, 20⟩,
  .ife (.no (.and (.call 0 "is_whole" ⟨18, 12, 18, 20⟩ (.ix (.var 0 "thing" ⟨18, 21, 18, 26⟩) (.int (0) 0 ⟨18, 27, 18, 28⟩) ⟨18, 21, 18, 29⟩) [] ⟨18, 12, 18, 30⟩) (.call 0 "is_whole" ⟨18, 35, 18, 43⟩ (.ix (.var 0 "thing" ⟨18, 44, 18, 49⟩) (.int (1) 0 ⟨18, 50, 18, 51⟩) ⟨18, 44, 18, 52⟩) [] ⟨18, 35, 18, 53⟩) ⟨18, 12, 18, 53⟩) ⟨18, 7, 18, 54⟩) [.ret (.bl false 0 ⟨19, 15, 19, 20⟩) ⟨19, 8, 19, 20⟩] [] ⟨18, 4, 19, 20⟩,
  .ret (.and (.cmp .GtE (.ix (.var 0 "thing" ⟨20, 11, 20, 16⟩) (.int (1) 0 ⟨20, 17, 20, 18⟩) ⟨20, 11, 20, 19⟩) (.int (1) 0 ⟨20, 23, 20, 24⟩) ⟨20, 11, 20, 24⟩) (.cmp .Eq (.call 1 "greatest_common" ⟨20, 29, 20, 44⟩ (.ix (.var 0 "thing" ⟨20, 45, 20, 50⟩) (.int (0) 0 ⟨20, 51, 20, 52⟩) ⟨20, 45, 20, 53⟩) [.ix (.var 0 "thing" ⟨20, 55, 20, 60⟩) (.int (1) 0 ⟨20, 61, 20, 62⟩) ⟨20, 55, 20, 63⟩] ⟨20, 29, 20, 64⟩) (.int (1) 0 ⟨20, 68, 20, 69⟩) ⟨20, 29, 20, 69⟩) ⟨20, 11, 20, 69⟩) ⟨20, 4, 20, 69⟩]
def f_is_ratio : Fn := ⟨"is_ratio", 1, 1, .pur, b_is_ratio⟩
theorem hb_is_ratio : defBody (top 7) = Sx.ss b_is_ratio := by kernel_rfl
theorem sc_is_ratio : FnScope ["thing"] ["thing"] (defScope (top 7)) := ⟨rfl, rfl, rfl, by decide +kernel, rfl, by decide +kernel, by decide +kernel⟩
theorem ok_is_ratio : okSs ⟨["thing"], defScope (top 7), ["isinstance", "len", "tuple"], [], [(1, "greatest_common"), (0, "is_whole")], [], true⟩ b_is_ratio = true := by decide +kernel
def G_is_ratio : Fns := fun i => match i with | 0 => s_is_whole | 1 => s_greatest_common | _ => fun _ _ => none
def s_is_ratio : List T → Sto → Re T := run G_is_ratio FU f_is_ratio
def b_ratio_of : List Sx := [.ife (.cmp .Eq (.var 1 "bottom" ⟨22, 7, 22, 13⟩) (.int (0) 0 ⟨22, 17, 22, 18⟩) ⟨22, 7, 22, 18⟩) [.rse 1 ⟨23, 14, 23, 21⟩ (.str "nothing is a ratio by 0" 0 ⟨23, 22, 23, 47⟩) ⟨23, 14, 23, 48⟩ ⟨23, 8, 23, 48⟩] [] ⟨22, 4, 23, 48⟩,
  .asg (.nm 2 "common" ⟨24, 4, 24, 10⟩) (.call 1 "greatest_common" ⟨24, 13, 24, 28⟩ (.var 0 "top" ⟨24, 29, 24, 32⟩) [.var 1 "bottom" ⟨24, 34, 24, 40⟩] ⟨24, 13, 24, 41⟩) ⟨24, 4, 24, 41⟩,
  .ife (.cmp .Lt (.var 1 "bottom" ⟨25, 7, 25, 13⟩) (.int (0) 0 ⟨25, 16, 25, 17⟩) ⟨25, 7, 25, 17⟩) [.asg (.nm 2 "common" ⟨26, 8, 26, 14⟩) (.neg (.var 2 "common" ⟨26, 18, 26, 24⟩) ⟨26, 17, 26, 24⟩) ⟨26, 8, 26, 24⟩] [] ⟨25, 4, 26, 24⟩,
  .ret (.tup [.bin .FloorDiv (.var 0 "top" ⟨27, 12, 27, 15⟩) (.var 2 "common" ⟨27, 19, 27, 25⟩) ⟨27, 12, 27, 25⟩, .bin .FloorDiv (.var 1 "bottom" ⟨27, 27, 27, 33⟩) (.var 2 "common" ⟨27, 37, 27, 43⟩) ⟨27, 27, 27, 43⟩] 0 ⟨27, 11, 27, 44⟩) ⟨27, 4, 27, 44⟩]
def f_ratio_of : Fn := ⟨"ratio_of", 2, 3, .pur, b_ratio_of⟩
theorem hb_ratio_of : defBody (top 8) = Sx.ss b_ratio_of := by kernel_rfl
theorem sc_ratio_of : FnScope ["top", "bottom", "common"] ["top", "bottom"] (defScope (top 8)) := ⟨rfl, rfl, rfl, by decide +kernel, rfl, by decide +kernel, by decide +kernel⟩
theorem ok_ratio_of : okSs ⟨["top", "bottom", "common"], defScope (top 8), [], [], [(1, "greatest_common")], [1], true⟩ b_ratio_of = true := by decide +kernel
def G_ratio_of : Fns := fun i => match i with | 1 => s_greatest_common | _ => fun _ _ => none
def s_ratio_of : List T → Sto → Re T := run G_ratio_of FU f_ratio_of
def b_ratio_plus : List Sx := [.ret (.call 3 "ratio_of" ⟨29, 11, 29, 19⟩ (.bin .Add (.bin .Mult (.ix (.var 0 "one" ⟨29, 20, 29, 23⟩) (.int (0) 0 ⟨29, 24, 29, 25⟩) ⟨29, 20, 29, 26⟩) (.ix (.var 1 "other" ⟨29, 29, 29, 34⟩) (.int (1) 0 ⟨29, 35, 29, 36⟩) ⟨29, 29, 29, 37⟩) ⟨29, 20, 29, 37⟩) (.bin .Mult (.ix (.var 1 "other" ⟨29, 40, 29, 45⟩) (.int (0) 0 ⟨29, 46, 29, 47⟩) ⟨29, 40, 29, 48⟩) (.ix (.var 0 "one" ⟨29, 51, 29, 54⟩) (.int (1) 0 ⟨29, 55, 29, 56⟩) ⟨29, 51, 29, 57⟩) ⟨29, 40, 29, 57⟩) ⟨29, 20, 29, 57⟩) [.bin .Mult (.ix (.var 0 "one" ⟨29, 59, 29, 62⟩) (.int (1) 0 ⟨29, 63, 29, 64⟩) ⟨29, 59, 29, 65⟩) (.ix (.var 1 "other" ⟨29, 68, 29, 73⟩) (.int (1) 0 ⟨29, 74, 29, 75⟩) ⟨29, 68, 29, 76⟩) ⟨29, 59, 29, 76⟩] ⟨29, 11, 29, 77⟩) ⟨29, 4, 29, 77⟩]
def f_ratio_plus : Fn := ⟨"ratio_plus", 2, 2, .pur, b_ratio_plus⟩
theorem hb_ratio_plus : defBody (top 9) = Sx.ss b_ratio_plus := by kernel_rfl
theorem sc_ratio_plus : FnScope ["one", "other"] ["one", "other"] (defScope (top 9)) := ⟨rfl, rfl, rfl, by decide +kernel, rfl, by decide +kernel, by decide +kernel⟩
theorem ok_ratio_plus : okSs ⟨["one", "other"], defScope (top 9), [], [], [(3, "ratio_of")], [], true⟩ b_ratio_plus = true := by decide +kernel
def G_ratio_plus : Fns := fun i => match i with | 3 => s_ratio_of | _ => fun _ _ => none
def s_ratio_plus : List T → Sto → Re T := run G_ratio_plus FU f_ratio_plus
def b_ratio_times : List Sx := [.ret (.call 3 "ratio_of" ⟨31, 11, 31, 19⟩ (.bin .Mult (.ix (.var 0 "one" ⟨31, 20, 31, 23⟩) (.int (0) 0 ⟨31, 24, 31, 25⟩) ⟨31, 20, 31, 26⟩) (.ix (.var 1 "other" ⟨31, 29, 31, 34⟩) (.int (0) 0 ⟨31, 35, 31, 36⟩) ⟨31, 29, 31, 37⟩) ⟨31, 20, 31, 37⟩) [.bin .Mult (.ix (.var 0 "one" ⟨31, 39, 31, 42⟩) (.int (1) 0 ⟨31, 43, 31, 44⟩) ⟨31, 39, 31, 45⟩) (.ix (.var 1 "other" ⟨31, 48, 31, 53⟩) (.int (1) 0 ⟨31, 54, 31, 55⟩) ⟨31, 48, 31, 56⟩) ⟨31, 39, 31, 56⟩] ⟨31, 11, 31, 57⟩) ⟨31, 4, 31, 57⟩]
def f_ratio_times : Fn := ⟨"ratio_times", 2, 2, .pur, b_ratio_times⟩
theorem hb_ratio_times : defBody (top 10) = Sx.ss b_ratio_times := by kernel_rfl
theorem sc_ratio_times : FnScope ["one", "other"] ["one", "other"] (defScope (top 10)) := ⟨rfl, rfl, rfl, by decide +kernel, rfl, by decide +kernel, by decide +kernel⟩
theorem ok_ratio_times : okSs ⟨["one", "other"], defScope (top 10), [], [], [(3, "ratio_of")], [], true⟩ b_ratio_times = true := by decide +kernel
def G_ratio_times : Fns := fun i => match i with | 3 => s_ratio_of | _ => fun _ _ => none
def s_ratio_times : List T → Sto → Re T := run G_ratio_times FU f_ratio_times
def b_ratio_over : List Sx := [.ret (.call 3 "ratio_of" ⟨33, 11, 33, 19⟩ (.bin .Mult (.ix (.var 0 "one" ⟨33, 20, 33, 23⟩) (.int (0) 0 ⟨33, 24, 33, 25⟩) ⟨33, 20, 33, 26⟩) (.ix (.var 1 "other" ⟨33, 29, 33, 34⟩) (.int (1) 0 ⟨33, 35, 33, 36⟩) ⟨33, 29, 33, 37⟩) ⟨33, 20, 33, 37⟩) [.bin .Mult (.ix (.var 0 "one" ⟨33, 39, 33, 42⟩) (.int (1) 0 ⟨33, 43, 33, 44⟩) ⟨33, 39, 33, 45⟩) (.ix (.var 1 "other" ⟨33, 48, 33, 53⟩) (.int (0) 0 ⟨33, 54, 33, 55⟩) ⟨33, 48, 33, 56⟩) ⟨33, 39, 33, 56⟩] ⟨33, 11, 33, 57⟩) ⟨33, 4, 33, 57⟩]
def f_ratio_over : Fn := ⟨"ratio_over", 2, 2, .pur, b_ratio_over⟩
theorem hb_ratio_over : defBody (top 11) = Sx.ss b_ratio_over := by kernel_rfl
theorem sc_ratio_over : FnScope ["one", "other"] ["one", "other"] (defScope (top 11)) := ⟨rfl, rfl, rfl, by decide +kernel, rfl, by decide +kernel, by decide +kernel⟩
theorem ok_ratio_over : okSs ⟨["one", "other"], defScope (top 11), [], [], [(3, "ratio_of")], [], true⟩ b_ratio_over = true := by decide +kernel
def G_ratio_over : Fns := fun i => match i with | 3 => s_ratio_of | _ => fun _ _ => none
def s_ratio_over : List T → Sto → Re T := run G_ratio_over FU f_ratio_over
def b_law_mixed : List Sx := [.asg (.nm 2 "prime" ⟨36, 4, 36, 9⟩) (.ix (.lst [.int (2147483647) 0 ⟨36, 13, 36, 23⟩, .int (2147483629) 0 ⟨36, 25, 36, 35⟩, .int (2147483587) 0 ⟨36, 37, 36, 47⟩, .int (2147483579) 0 ⟨36, 49, 36, 59⟩, .int (2147483563) 0 ⟨36, 61, 36, 71⟩, .int (2147483549) 0 ⟨36, 73, 36, 83⟩, .int (2147483543) 0 ⟨36, 85, 36, 95⟩, .int (2147483497) 0 ⟨36, 97, 36, 107⟩] ⟨36, 12, 36, 108⟩) (.bin .Mod (.var 1 "k" ⟨36, 109, 36, 110⟩) (.int (8) 0 ⟨36, 113, 36, 114⟩) ⟨36, 109, 36, 114⟩) ⟨36, 12, 36, 115⟩) ⟨36, 4, 36, 115⟩,
  .asg (.nm 3 "part" ⟨37, 4, 37, 8⟩) (.bin .Mod (.bin .Add (.bin .Add (.bin .Mult (.bin .Mod (.var 0 "cell" ⟨37, 12, 37, 16⟩) (.int (1000000000000000009) 0 ⟨37, 19, 37, 38⟩) ⟨37, 12, 37, 38⟩) (.int (69621) 0 ⟨37, 41, 37, 46⟩) ⟨37, 12, 37, 46⟩) (.bin .Mult (.int (9241) 0 ⟨37, 49, 37, 53⟩) (.var 1 "k" ⟨37, 56, 37, 57⟩) ⟨37, 49, 37, 57⟩) ⟨37, 12, 37, 57⟩) (.int (1013) 0 ⟨37, 60, 37, 64⟩) ⟨37, 12, 37, 64⟩) (.var 2 "prime" ⟨37, 68, 37, 73⟩) ⟨37, 11, 37, 73⟩) ⟨37, 4, 37, 73⟩,
  .asg (.nm 3 "part" ⟨38, 4, 38, 8⟩) (.bin .Mod (.bin .Pow (.var 3 "part" ⟨38, 11, 38, 15⟩) (.int (3) 0 ⟨38, 19, 38, 20⟩) ⟨38, 11, 38, 20⟩) (.int (2305843009213693951) 0 ⟨38, 23, 38, 42⟩) ⟨38, 11, 38, 42⟩) ⟨38, 4, 38, 42⟩,
  .asg (.nm 3 "part" ⟨39, 4, 39, 8⟩) (.bin .Mod (.bin .Mult (.var 3 "part" ⟨39, 11, 39, 15⟩) (.var 3 "part" ⟨39, 18, 39, 22⟩) ⟨39, 11, 39, 22⟩) (.int (2305843009213693921) 0 ⟨39, 25, 39, 44⟩) ⟨39, 11, 39, 44⟩) ⟨39, 4, 39, 44⟩,
  .ret (.bin .FloorDiv (.bin .Mod (.bin .Mult (.bin .Add (.var 3 "part" ⟨40, 12, 40, 16⟩) (.bin .Mult (.int (59) 0 ⟨40, 19, 40, 21⟩) (.var 1 "k" ⟨40, 24, 40, 25⟩) ⟨40, 19, 40, 25⟩) ⟨40, 12, 40, 25⟩) (.int (40692) 0 ⟨40, 29, 40, 34⟩) ⟨40, 11, 40, 34⟩) (.int (2305843009213693951) 0 ⟨40, 37, 40, 56⟩) ⟨40, 11, 40, 56⟩) (.int (32) 0 ⟨40, 60, 40, 62⟩) ⟨40, 11, 40, 62⟩) ⟨40, 4, 40, 62⟩]
def f_law_mixed : Fn := ⟨"_law_mixed", 2, 4, .pur, b_law_mixed⟩
theorem hb_law_mixed : defBody (top 13) = Sx.ss b_law_mixed := by kernel_rfl
theorem sc_law_mixed : FnScope ["cell", "k", "prime", "part"] ["cell", "k"] (defScope (top 13)) := ⟨rfl, rfl, rfl, by decide +kernel, rfl, by decide +kernel, by decide +kernel⟩
theorem ok_law_mixed : okSs ⟨["cell", "k", "prime", "part"], defScope (top 13), [], [], [], [], true⟩ b_law_mixed = true := by decide +kernel
def G_law_mixed : Fns := fun i => match i with | _ => fun _ _ => none
def s_law_mixed : List T → Sto → Re T := run G_law_mixed FU f_law_mixed
def b_law_draws_2 : List Sx := [.asg (.nm 6 "number" ⟨53, 16, 53, 22⟩) (.bin .Add (.bin .Mult (.var 6 "number" ⟨53, 25, 53, 31⟩) (.bin .Pow (.int (10) 0 ⟨53, 34, 53, 36⟩) (.int (16) 0 ⟨53, 40, 53, 42⟩) ⟨53, 34, 53, 42⟩) ⟨53, 25, 53, 42⟩) (.bin .Mod (.call 7 "_law_mixed" ⟨53, 45, 53, 55⟩ (.var 0 "cell" ⟨53, 56, 53, 60⟩) [.bin .Add (.bin .Mult (.int (4) 0 ⟨53, 62, 53, 63⟩) (.var 5 "k" ⟨53, 66, 53, 67⟩) ⟨53, 62, 53, 67⟩) (.var 7 "j" ⟨53, 70, 53, 71⟩) ⟨53, 62, 53, 71⟩] ⟨53, 45, 53, 72⟩) (.bin .Pow (.int (10) 0 ⟨53, 75, 53, 77⟩) (.int (16) 0 ⟨53, 81, 53, 83⟩) ⟨53, 75, 53, 83⟩) ⟨53, 45, 53, 83⟩) ⟨53, 25, 53, 83⟩) ⟨53, 16, 53, 83⟩]
def b_law_draws_1 : List Sx := [.ife (.cmp .Gt (.var 4 "left" ⟨47, 11, 47, 15⟩) (.int (0) 0 ⟨47, 18, 47, 19⟩) ⟨47, 11, 47, 19⟩) [.exp (.app (.var 3 "found" ⟨48, 12, 48, 17⟩) ⟨48, 12, 48, 24⟩ (.bin .Mod (.var 4 "left" ⟨48, 25, 48, 29⟩) (.var 2 "base" ⟨48, 32, 48, 36⟩) ⟨48, 25, 48, 36⟩) ⟨48, 12, 48, 37⟩) ⟨48, 12, 48, 37⟩, .asg (.nm 4 "left" ⟨49, 12, 49, 16⟩) (.bin .FloorDiv (.var 4 "left" ⟨49, 19, 49, 23⟩) (.var 2 "base" ⟨49, 27, 49, 31⟩) ⟨49, 19, 49, 31⟩) ⟨49, 12, 49, 31⟩] [.asg (.nm 6 "number" ⟨51, 12, 51, 18⟩) (.int (0) 0 ⟨51, 21, 51, 22⟩) ⟨51, 12, 51, 22⟩, .fr (.nm 7 "j" ⟨52, 16, 52, 17⟩) (.rng1 (.bin .Add (.int (1) 0 ⟨52, 27, 52, 28⟩) (.bin .Mult (.int (3) 0 ⟨52, 31, 52, 32⟩) (.bi .int ⟨52, 35, 52, 38⟩ (.cmp .Gt (.var 2 "base" ⟨52, 39, 52, 43⟩) (.bin .Pow (.int (10) 0 ⟨52, 46, 52, 48⟩) (.int (16) 0 ⟨52, 52, 52, 54⟩) ⟨52, 46, 52, 54⟩) ⟨52, 39, 52, 54⟩) ⟨52, 35, 52, 55⟩) ⟨52, 31, 52, 55⟩) ⟨52, 27, 52, 55⟩) ⟨52, 21, 52, 26⟩ ⟨52, 21, 52, 56⟩) b_law_draws_2 false ⟨52, 12, 53, 83⟩, .exp (.app (.var 3 "found" ⟨54, 12, 54, 17⟩) ⟨54, 12, 54, 24⟩ (.bin .Mod (.var 6 "number" ⟨54, 25, 54, 31⟩) (.var 2 "base" ⟨54, 34, 54, 38⟩) ⟨54, 25, 54, 38⟩) ⟨54, 12, 54, 39⟩) ⟨54, 12, 54, 39⟩] ⟨47, 8, 54, 39⟩]
def b_law_draws : List Sx := [.asg (.nm 3 "found" ⟨42, 4, 42, 9⟩) (.lst [] ⟨42, 12, 42, 14⟩) ⟨42, 4, 42, 14⟩,
  .asg (.nm 4 "left" ⟨43, 4, 43, 8⟩) (.int (0) 0 ⟨43, 11, 43, 12⟩) ⟨43, 4, 43, 12⟩,
  .ife (.cmp .GtE (.var 0 "cell" ⟨44, 7, 44, 11⟩) (.bin .Pow (.int (10) 0 ⟨44, 15, 44, 17⟩) (.int (18) 0 ⟨44, 21, 44, 23⟩) ⟨44, 15, 44, 23⟩) ⟨44, 7, 44, 23⟩) [.asg (.nm 4 "left" ⟨45, 8, 45, 12⟩) (.bin .Sub (.var 0 "cell" ⟨45, 15, 45, 19⟩) (.bin .Pow (.int (10) 0 ⟨45, 22, 45, 24⟩) (.int (18) 0 ⟨45, 28, 45, 30⟩) ⟨45, 22, 45, 30⟩) ⟨45, 15, 45, 30⟩) ⟨45, 8, 45, 30⟩] [] ⟨44, 4, 45, 30⟩,
  .fr (.nm 5 "k" ⟨46, 8, 46, 9⟩) (.rng1 (.var 1 "many" ⟨46, 19, 46, 23⟩) ⟨46, 13, 46, 18⟩ ⟨46, 13, 46, 24⟩) b_law_draws_1 false ⟨46, 4, 54, 39⟩,
  .ret (.var 3 "found" ⟨55, 11, 55, 16⟩) ⟨55, 4, 55, 16⟩]
def f_law_draws : Fn := ⟨"_law_draws", 3, 8, .frs, b_law_draws⟩
theorem hb_law_draws : defBody (top 14) = Sx.ss b_law_draws := by kernel_rfl
theorem sc_law_draws : FnScope ["cell", "many", "base", "found", "left", "k", "number", "j"] ["cell", "many", "base"] (defScope (top 14)) := ⟨rfl, rfl, rfl, by decide +kernel, rfl, by decide +kernel, by decide +kernel⟩
theorem ok_law_draws : okSs ⟨["cell", "many", "base", "found", "left", "k", "number", "j"], defScope (top 14), ["int", "range"], [], [(7, "_law_mixed")], [], true⟩ b_law_draws = true := by decide +kernel
def G_law_draws : Fns := fun i => match i with | 7 => s_law_mixed | _ => fun _ _ => none
def s_law_draws : List T → Sto → Re T := run G_law_draws FU f_law_draws
def b_law_sized : List Sx := [.asg (.nm 2 "found" ⟨57, 4, 57, 9⟩) (.bin .Mod (.var 0 "number" ⟨57, 12, 57, 18⟩) (.ix (.lst [.int (4) 0 ⟨57, 22, 57, 23⟩, .int (40) 0 ⟨57, 25, 57, 27⟩, .bin .Pow (.int (10) 0 ⟨57, 29, 57, 31⟩) (.int (6) 0 ⟨57, 35, 57, 36⟩) ⟨57, 29, 57, 36⟩, .bin .Pow (.int (10) 0 ⟨57, 38, 57, 40⟩) (.int (20) 0 ⟨57, 44, 57, 46⟩) ⟨57, 38, 57, 46⟩, .bin .Pow (.int (10) 0 ⟨57, 48, 57, 50⟩) (.int (45) 0 ⟨57, 54, 57, 56⟩) ⟨57, 48, 57, 56⟩, .bin .Pow (.int (10) 0 ⟨57, 58, 57, 60⟩) (.int (60) 0 ⟨57, 64, 57, 66⟩) ⟨57, 58, 57, 66⟩] ⟨57, 21, 57, 67⟩) (.bin .Mod (.var 1 "way" ⟨57, 68, 57, 71⟩) (.int (6) 0 ⟨57, 74, 57, 75⟩) ⟨57, 68, 57, 75⟩) ⟨57, 21, 57, 76⟩) ⟨57, 12, 57, 76⟩) ⟨57, 4, 57, 76⟩,
  .ret (.ix (.lst [.var 2 "found" ⟨58, 12, 58, 17⟩, .bin .Sub (.int (0) 0 ⟨58, 19, 58, 20⟩) (.var 2 "found" ⟨58, 23, 58, 28⟩) ⟨58, 19, 58, 28⟩, .var 2 "found" ⟨58, 30, 58, 35⟩] ⟨58, 11, 58, 36⟩) (.bin .Mod (.bin .FloorDiv (.var 1 "way" ⟨58, 37, 58, 40⟩) (.int (6) 0 ⟨58, 44, 58, 45⟩) ⟨58, 37, 58, 45⟩) (.int (3) 0 ⟨58, 48, 58, 49⟩) ⟨58, 37, 58, 49⟩) ⟨58, 11, 58, 50⟩) ⟨58, 4, 58, 50⟩]
def f_law_sized : Fn := ⟨"_law_sized", 2, 3, .pur, b_law_sized⟩
theorem hb_law_sized : defBody (top 15) = Sx.ss b_law_sized := by kernel_rfl
theorem sc_law_sized : FnScope ["number", "way", "found"] ["number", "way"] (defScope (top 15)) := ⟨rfl, rfl, rfl, by decide +kernel, rfl, by decide +kernel, by decide +kernel⟩
theorem ok_law_sized : okSs ⟨["number", "way", "found"], defScope (top 15), [], [], [], [], true⟩ b_law_sized = true := by decide +kernel
def G_law_sized : Fns := fun i => match i with | _ => fun _ _ => none
def s_law_sized : List T → Sto → Re T := run G_law_sized FU f_law_sized
def c_law_common_1 : Ex := .cmp .Gt (.var 1 "other" ⟨61, 10, 61, 15⟩) (.int (0) 0 ⟨61, 18, 61, 19⟩) ⟨61, 10, 61, 19⟩
def b_law_common_1 : List Sx := [.par 0 "one" ⟨62, 8, 62, 11⟩ 1 "other" ⟨62, 13, 62, 18⟩ 0 ⟨62, 8, 62, 18⟩ (.var 1 "other" ⟨62, 22, 62, 27⟩) (.bin .Mod (.var 0 "one" ⟨62, 29, 62, 32⟩) (.var 1 "other" ⟨62, 35, 62, 40⟩) ⟨62, 29, 62, 40⟩) 0 ⟨62, 21, 62, 41⟩ ⟨62, 8, 62, 41⟩]
def b_law_common : List Sx := [.par 0 "one" ⟨60, 4, 60, 7⟩ 1 "other" ⟨60, 9, 60, 14⟩ 0 ⟨60, 4, 60, 14⟩ (.bi .abs ⟨60, 18, 60, 21⟩ (.var 0 "one" ⟨60, 22, 60, 25⟩) ⟨60, 18, 60, 26⟩) (.bi .abs ⟨60, 28, 60, 31⟩ (.var 1 "other" ⟨60, 32, 60, 37⟩) ⟨60, 28, 60, 38⟩) 0 ⟨60, 17, 60, 39⟩ ⟨60, 4, 60, 39⟩,
  .whl c_law_common_1 b_law_common_1 ⟨61, 4, 62, 41⟩,
  .ret (.var 0 "one" ⟨63, 11, 63, 14⟩) ⟨63, 4, 63, 14⟩]
def f_law_common : Fn := ⟨"_law_common", 2, 2, .pur, b_law_common⟩
theorem hb_law_common : defBody (top 16) = Sx.ss b_law_common := by kernel_rfl
theorem sc_law_common : FnScope ["one", "other"] ["one", "other"] (defScope (top 16)) := ⟨rfl, rfl, rfl, by decide +kernel, rfl, by decide +kernel, by decide +kernel⟩
theorem ok_law_common : okSs ⟨["one", "other"], defScope (top 16), ["abs"], [], [], [], true⟩ b_law_common = true := by decide +kernel
def G_law_common : Fns := fun i => match i with | _ => fun _ _ => none
def s_law_common : List T → Sto → Re T := run G_law_common FU f_law_common
def b_law_drawn : List Sx := [.asg (.nm 2 "top" ⟨65, 4, 65, 7⟩) (.call 9 "_law_sized" ⟨65, 10, 65, 20⟩ (.ix (.var 0 "draws" ⟨65, 21, 65, 26⟩) (.var 1 "at" ⟨65, 27, 65, 29⟩) ⟨65, 21, 65, 30⟩) [.ix (.var 0 "draws" ⟨65, 32, 65, 37⟩) (.bin .Add (.var 1 "at" ⟨65, 38, 65, 40⟩) (.int (1) 0 ⟨65, 43, 65, 44⟩) ⟨65, 38, 65, 44⟩) ⟨65, 32, 65, 45⟩] ⟨65, 10, 65, 46⟩) ⟨65, 4, 65, 46⟩,
  .asg (.nm 3 "bottom" ⟨66, 4, 66, 10⟩) (.mm true ⟨66, 13, 66, 16⟩ (.int (1) 0 ⟨66, 17, 66, 18⟩) (.call 9 "_law_sized" ⟨66, 20, 66, 30⟩ (.ix (.var 0 "draws" ⟨66, 31, 66, 36⟩) (.bin .Add (.var 1 "at" ⟨66, 37, 66, 39⟩) (.int (2) 0 ⟨66, 42, 66, 43⟩) ⟨66, 37, 66, 43⟩) ⟨66, 31, 66, 44⟩) [.bin .Mod (.ix (.var 0 "draws" ⟨66, 46, 66, 51⟩) (.bin .Add (.var 1 "at" ⟨66, 52, 66, 54⟩) (.int (3) 0 ⟨66, 57, 66, 58⟩) ⟨66, 52, 66, 58⟩) ⟨66, 46, 66, 59⟩) (.int (6) 0 ⟨66, 62, 66, 63⟩) ⟨66, 46, 66, 63⟩] ⟨66, 20, 66, 64⟩) ⟨66, 13, 66, 65⟩) ⟨66, 4, 66, 65⟩,
  .asg (.nm 4 "common" ⟨67, 4, 67, 10⟩) (.call 10 "_law_common" ⟨67, 13, 67, 24⟩ (.var 2 "top" ⟨67, 25, 67, 28⟩) [.var 3 "bottom" ⟨67, 30, 67, 36⟩] ⟨67, 13, 67, 37⟩) ⟨67, 4, 67, 37⟩,
  .ret (.tup [.bin .FloorDiv (.var 2 "top" ⟨68, 12, 68, 15⟩) (.var 4 "common" ⟨68, 19, 68, 25⟩) ⟨68, 12, 68, 25⟩, .bin .FloorDiv (.var 3 "bottom" ⟨68, 27, 68, 33⟩) (.var 4 "common" ⟨68, 37, 68, 43⟩) ⟨68, 27, 68, 43⟩] 0 ⟨68, 11, 68, 44⟩) ⟨68, 4, 68, 44⟩]
def f_law_drawn : Fn := ⟨"_law_drawn", 2, 5, .pur, b_law_drawn⟩
theorem hb_law_drawn : defBody (top 17) = Sx.ss b_law_drawn := by kernel_rfl
theorem sc_law_drawn : FnScope ["draws", "at", "top", "bottom", "common"] ["draws", "at"] (defScope (top 17)) := ⟨rfl, rfl, rfl, by decide +kernel, rfl, by decide +kernel, by decide +kernel⟩
theorem ok_law_drawn : okSs ⟨["draws", "at", "top", "bottom", "common"], defScope (top 17), ["max"], [], [(10, "_law_common"), (9, "_law_sized")], [], true⟩ b_law_drawn = true := by decide +kernel
def G_law_drawn : Fns := fun i => match i with | 9 => s_law_sized | 10 => s_law_common | _ => fun _ _ => none
def s_law_drawn : List T → Sto → Re T := run G_law_drawn FU f_law_drawn
def b_law_stands : List Sx := [.ife (.or3 (.cmp .IsNot (.call 2 "is_ratio" ⟨70, 7, 70, 15⟩ (.var 0 "found" ⟨70, 16, 70, 21⟩) [] ⟨70, 7, 70, 22⟩) (.bl true 0 ⟨70, 30, 70, 34⟩) ⟨70, 7, 70, 34⟩) (.cmp .NotEq (.call 10 "_law_common" ⟨70, 38, 70, 49⟩ (.ix (.var 0 "found" ⟨70, 50, 70, 55⟩) (.int (0) 0 ⟨70, 56, 70, 57⟩) ⟨70, 50, 70, 58⟩) [.ix (.var 0 "found" ⟨70, 60, 70, 65⟩) (.int (1) 0 ⟨70, 66, 70, 67⟩) ⟨70, 60, 70, 68⟩] ⟨70, 38, 70, 69⟩) (.int (1) 0 ⟨70, 73, 70, 74⟩) ⟨70, 38, 70, 74⟩) (.cmp .Lt (.ix (.var 0 "found" ⟨70, 78, 70, 83⟩) (.int (1) 0 ⟨70, 84, 70, 85⟩) ⟨70, 78, 70, 86⟩) (.int (1) 0 ⟨70, 89, 70, 90⟩) ⟨70, 78, 70, 90⟩) ⟨70, 7, 70, 90⟩) [.ret (.bl false 0 ⟨71, 15, 71, 20⟩) ⟨71, 8, 71, 20⟩] [] ⟨70, 4, 71, 20⟩,
  .ret (.cmp .Eq (.bin .Mult (.ix (.var 0 "found" ⟨72, 11, 72, 16⟩) (.int (0) 0 ⟨72, 17, 72, 18⟩) ⟨72, 11, 72, 19⟩) (.var 2 "bottom" ⟨72, 22, 72, 28⟩) ⟨72, 11, 72, 28⟩) (.bin .Mult (.var 1 "top" ⟨72, 32, 72, 35⟩) (.ix (.var 0 "found" ⟨72, 38, 72, 43⟩) (.int (1) 0 ⟨72, 44, 72, 45⟩) ⟨72, 38, 72, 46⟩) ⟨72, 32, 72, 46⟩) ⟨72, 11, 72, 46⟩) ⟨72, 4, 72, 46⟩]
def f_law_stands : Fn := ⟨"_law_stands", 3, 3, .pur, b_law_stands⟩
theorem hb_law_stands : defBody (top 18) = Sx.ss b_law_stands := by kernel_rfl
theorem sc_law_stands : FnScope ["found", "top", "bottom"] ["found", "top", "bottom"] (defScope (top 18)) := ⟨rfl, rfl, rfl, by decide +kernel, rfl, by decide +kernel, by decide +kernel⟩
theorem ok_law_stands : okSs ⟨["found", "top", "bottom"], defScope (top 18), [], [], [(10, "_law_common"), (2, "is_ratio")], [], true⟩ b_law_stands = true := by decide +kernel
def G_law_stands : Fns := fun i => match i with | 2 => s_is_ratio | 10 => s_law_common | _ => fun _ _ => none
def s_law_stands : List T → Sto → Re T := run G_law_stands FU f_law_stands
def b_law_refused : List Sx := [.asg (.nm 1 "caught" ⟨74, 4, 74, 10⟩) (.non 0 ⟨74, 13, 74, 17⟩) ⟨74, 4, 74, 17⟩,
  .tre 6 "ratio_over" ⟨76, 8, 76, 18⟩ (.var 0 "one" ⟨76, 19, 76, 22⟩) [.tup [.int (0) 0 ⟨76, 25, 76, 26⟩, .int (1) 0 ⟨76, 28, 76, 29⟩] 0 ⟨76, 24, 76, 30⟩] ⟨76, 8, 76, 31⟩ ⟨76, 8, 76, 31⟩ 0 ⟨77, 11, 77, 21⟩ 2 "e" 1 "caught" ⟨78, 8, 78, 14⟩ ⟨78, 17, 78, 18⟩ ⟨78, 8, 78, 18⟩ ⟨77, 4, 78, 18⟩ ⟨75, 4, 78, 18⟩,
  .ret (.and (.isx 1 ⟨79, 11, 79, 21⟩ ⟨79, 30, 79, 37⟩ (.var 1 "caught" ⟨79, 22, 79, 28⟩) ⟨79, 11, 79, 38⟩) (.no (.isx 2 ⟨79, 48, 79, 58⟩ ⟨79, 67, 79, 73⟩ (.var 1 "caught" ⟨79, 59, 79, 65⟩) ⟨79, 48, 79, 74⟩) ⟨79, 44, 79, 74⟩) ⟨79, 11, 79, 75⟩) ⟨79, 4, 79, 75⟩]
def f_law_refused : Fn := ⟨"_law_refused", 1, 3, .pur, b_law_refused⟩
theorem hb_law_refused : defBody (top 19) = Sx.ss b_law_refused := by kernel_rfl
theorem sc_law_refused : FnScope ["one", "caught", "e"] ["one"] (defScope (top 19)) := ⟨rfl, rfl, rfl, by decide +kernel, rfl, by decide +kernel, by decide +kernel⟩
theorem ok_law_refused : okSs ⟨["one", "caught", "e"], defScope (top 19), ["isinstance"], [], [(6, "ratio_over")], [0, 1, 2], true⟩ b_law_refused = true := by decide +kernel
def G_law_refused : Fns := fun i => match i with | 6 => s_ratio_over | _ => fun _ _ => none
def s_law_refused : List T → Sto → Re T := run G_law_refused FU f_law_refused
def b_law_right : List Sx := [.asg (.tp [(2, "a", ⟨81, 4, 81, 5⟩), (3, "b", ⟨81, 7, 81, 8⟩)] 0 ⟨81, 4, 81, 8⟩) (.var 0 "one" ⟨81, 11, 81, 14⟩) ⟨81, 4, 81, 14⟩,
  .asg (.tp [(4, "c", ⟨82, 4, 82, 5⟩), (5, "d", ⟨82, 7, 82, 8⟩)] 0 ⟨82, 4, 82, 8⟩) (.var 1 "other" ⟨82, 11, 82, 16⟩) ⟨82, 4, 82, 16⟩,
  .ife (.no (.call 12 "_law_stands" ⟨83, 11, 83, 22⟩ (.call 4 "ratio_plus" ⟨83, 23, 83, 33⟩ (.var 0 "one" ⟨83, 34, 83, 37⟩) [.var 1 "other" ⟨83, 39, 83, 44⟩] ⟨83, 23, 83, 45⟩) [.bin .Add (.bin .Mult (.var 2 "a" ⟨83, 47, 83, 48⟩) (.var 5 "d" ⟨83, 51, 83, 52⟩) ⟨83, 47, 83, 52⟩) (.bin .Mult (.var 4 "c" ⟨83, 55, 83, 56⟩) (.var 3 "b" ⟨83, 59, 83, 60⟩) ⟨83, 55, 83, 60⟩) ⟨83, 47, 83, 60⟩, .bin .Mult (.var 3 "b" ⟨83, 62, 83, 63⟩) (.var 5 "d" ⟨83, 66, 83, 67⟩) ⟨83, 62, 83, 67⟩] ⟨83, 11, 83, 68⟩) ⟨83, 7, 83, 68⟩) [.ret (.bl false 0 ⟨84, 15, 84, 20⟩) ⟨84, 8, 84, 20⟩] [] ⟨83, 4, 84, 20⟩,
  .ife (.no (.call 12 "_law_stands" ⟨85, 11, 85, 22⟩ (.call 5 "ratio_times" ⟨85, 23, 85, 34⟩ (.var 0 "one" ⟨85, 35, 85, 38⟩) [.var 1 "other" ⟨85, 40, 85, 45⟩] ⟨85, 23, 85, 46⟩) [.bin .Mult (.var 2 "a" ⟨85, 48, 85, 49⟩) (.var 4 "c" ⟨85, 52, 85, 53⟩) ⟨85, 48, 85, 53⟩, .bin .Mult (.var 3 "b" ⟨85, 55, 85, 56⟩) (.var 5 "d" ⟨85, 59, 85, 60⟩) ⟨85, 55, 85, 60⟩] ⟨85, 11, 85, 61⟩) ⟨85, 7, 85, 61⟩) [.ret (.bl false 0 ⟨86, 15, 86, 20⟩) ⟨86, 8, 86, 20⟩] [] ⟨85, 4, 86, 20⟩,
  .ife (.cmp .Eq (.var 4 "c" ⟨87, 7, 87, 8⟩) (.int (0) 0 ⟨87, 12, 87, 13⟩) ⟨87, 7, 87, 13⟩) [.ret (.call 13 "_law_refused" ⟨88, 15, 88, 27⟩ (.var 0 "one" ⟨88, 28, 88, 31⟩) [] ⟨88, 15, 88, 32⟩) ⟨88, 8, 88, 32⟩] [] ⟨87, 4, 88, 32⟩,
  .ret (.call 12 "_law_stands" ⟨89, 11, 89, 22⟩ (.call 6 "ratio_over" ⟨89, 23, 89, 33⟩ (.var 0 "one" ⟨89, 34, 89, 37⟩) [.var 1 "other" ⟨89, 39, 89, 44⟩] ⟨89, 23, 89, 45⟩) [.bin .Mult (.var 2 "a" ⟨89, 47, 89, 48⟩) (.var 5 "d" ⟨89, 51, 89, 52⟩) ⟨89, 47, 89, 52⟩, .bin .Mult (.var 3 "b" ⟨89, 54, 89, 55⟩) (.var 4 "c" ⟨89, 58, 89, 59⟩) ⟨89, 54, 89, 59⟩] ⟨89, 11, 89, 60⟩) ⟨89, 4, 89, 60⟩]
def f_law_right : Fn := ⟨"_law_right", 2, 6, .pur, b_law_right⟩
theorem hb_law_right : defBody (top 20) = Sx.ss b_law_right := by kernel_rfl
theorem sc_law_right : FnScope ["one", "other", "a", "b", "c", "d"] ["one", "other"] (defScope (top 20)) := ⟨rfl, rfl, rfl, by decide +kernel, rfl, by decide +kernel, by decide +kernel⟩
theorem ok_law_right : okSs ⟨["one", "other", "a", "b", "c", "d"], defScope (top 20), [], [], [(13, "_law_refused"), (12, "_law_stands"), (6, "ratio_over"), (4, "ratio_plus"), (5, "ratio_times")], [], true⟩ b_law_right = true := by decide +kernel
def G_law_right : Fns := fun i => match i with | 4 => s_ratio_plus | 5 => s_ratio_times | 6 => s_ratio_over | 12 => s_law_stands | 13 => s_law_refused | _ => fun _ _ => none
def s_law_right : List T → Sto → Re T := run G_law_right FU f_law_right
def b_law_1 : List Sx := [.asg (.nm 2 "draws" ⟨92, 8, 92, 13⟩) (.call 8 "_law_draws" ⟨92, 16, 92, 26⟩ (.var 1 "cell" ⟨92, 27, 92, 31⟩) [.int (8) 0 ⟨92, 33, 92, 34⟩, .bin .Pow (.int (10) 0 ⟨92, 36, 92, 38⟩) (.int (60) 0 ⟨92, 42, 92, 44⟩) ⟨92, 36, 92, 44⟩] ⟨92, 16, 92, 45⟩) ⟨92, 8, 92, 45⟩, .asg (.nm 3 "one" ⟨93, 8, 93, 11⟩) (.call 11 "_law_drawn" ⟨93, 14, 93, 24⟩ (.var 2 "draws" ⟨93, 25, 93, 30⟩) [.int (0) 0 ⟨93, 32, 93, 33⟩] ⟨93, 14, 93, 34⟩) ⟨93, 8, 93, 34⟩, .asg (.nm 4 "other" ⟨94, 8, 94, 13⟩) (.call 11 "_law_drawn" ⟨94, 16, 94, 26⟩ (.var 2 "draws" ⟨94, 27, 94, 32⟩) [.int (4) 0 ⟨94, 34, 94, 35⟩] ⟨94, 16, 94, 36⟩) ⟨94, 8, 94, 36⟩, .asg (.nm 5 "told" ⟨95, 8, 95, 12⟩) (.lst [.call 4 "ratio_plus" ⟨95, 16, 95, 26⟩ (.var 3 "one" ⟨95, 27, 95, 30⟩) [.var 4 "other" ⟨95, 32, 95, 37⟩] ⟨95, 16, 95, 38⟩, .call 5 "ratio_times" ⟨95, 40, 95, 51⟩ (.var 3 "one" ⟨95, 52, 95, 55⟩) [.var 4 "other" ⟨95, 57, 95, 62⟩] ⟨95, 40, 95, 63⟩] ⟨95, 15, 95, 64⟩) ⟨95, 8, 95, 64⟩, .asg (.nm 6 "pairs" ⟨96, 8, 96, 13⟩) (.lst [.tup [.var 3 "one" ⟨96, 18, 96, 21⟩, .var 4 "other" ⟨96, 23, 96, 28⟩] 0 ⟨96, 17, 96, 29⟩, .tup [.var 4 "other" ⟨96, 32, 96, 37⟩, .var 3 "one" ⟨96, 39, 96, 42⟩] 0 ⟨96, 31, 96, 43⟩, .tup [.var 3 "one" ⟨96, 46, 96, 49⟩, .var 3 "one" ⟨96, 51, 96, 54⟩] 0 ⟨96, 45, 96, 55⟩, .tup [.var 3 "one" ⟨96, 58, 96, 61⟩, .tup [.int (0) 0 ⟨96, 64, 96, 65⟩, .int (1) 0 ⟨96, 67, 96, 68⟩] 0 ⟨96, 63, 96, 69⟩] 0 ⟨96, 57, 96, 70⟩, .tup [.tup [.int (0) 0 ⟨96, 74, 96, 75⟩, .int (1) 0 ⟨96, 77, 96, 78⟩] 0 ⟨96, 73, 96, 79⟩, .var 4 "other" ⟨96, 81, 96, 86⟩] 0 ⟨96, 72, 96, 87⟩, .tup [.ix (.var 5 "told" ⟨96, 90, 96, 94⟩) (.int (0) 0 ⟨96, 95, 96, 96⟩) ⟨96, 90, 96, 97⟩, .ix (.var 5 "told" ⟨96, 99, 96, 103⟩) (.int (1) 0 ⟨96, 104, 96, 105⟩) ⟨96, 99, 96, 106⟩] 0 ⟨96, 89, 96, 107⟩] ⟨96, 16, 96, 108⟩) ⟨96, 8, 96, 108⟩, .ife (.no (.bi .all ⟨97, 15, 97, 18⟩ (.lc (.call 14 "_law_right" ⟨97, 20, 97, 30⟩ (.ix (.var 7 "pair" ⟨97, 31, 97, 35⟩) (.int (0) 0 ⟨97, 36, 97, 37⟩) ⟨97, 31, 97, 38⟩) [.ix (.var 7 "pair" ⟨97, 40, 97, 44⟩) (.int (1) 0 ⟨97, 45, 97, 46⟩) ⟨97, 40, 97, 47⟩] ⟨97, 20, 97, 48⟩) (.nm 7 "pair" ⟨97, 53, 97, 57⟩) .lst (.var 6 "pairs" ⟨97, 61, 97, 66⟩) (.non 0 ⟨0, 0, 0, 0⟩) ⟨0, 0, 0, 0⟩ ⟨0, 0, 0, 0⟩ { kind := .function, names := [(".0", .local), ("pair", .local), ("_law_right", .globalImplicit)], isGenerator := false, isCoroutine := false, more := [] } [("pair", 7)] ⟨97, 19, 97, 67⟩) ⟨97, 15, 97, 68⟩) ⟨97, 11, 97, 68⟩) [.ret (.bl false 0 ⟨98, 19, 98, 24⟩) ⟨98, 12, 98, 24⟩] [] ⟨97, 8, 98, 24⟩]
def b_law : List Sx := [.fr (.nm 1 "cell" ⟨91, 8, 91, 12⟩) (.lst (.bin .Add (.slHi (.var 0 "script" ⟨91, 16, 91, 22⟩) (.int (15) 0 ⟨91, 24, 91, 26⟩) ⟨91, 23, 91, 26⟩ ⟨91, 16, 91, 27⟩) (.lst [.bi .len ⟨91, 31, 91, 34⟩ (.var 0 "script" ⟨91, 35, 91, 41⟩) ⟨91, 31, 91, 42⟩] ⟨91, 30, 91, 43⟩) ⟨91, 16, 91, 43⟩)) b_law_1 true ⟨91, 4, 98, 24⟩,
  .ret (.bl true 0 ⟨99, 11, 99, 15⟩) ⟨99, 4, 99, 15⟩]
def f_law : Fn := ⟨"law", 1, 8, .pur, b_law⟩
theorem hb_law : defBody (top 21) = Sx.ss b_law := by kernel_rfl
theorem sc_law : FnScope ["script", "cell", "draws", "one", "other", "told", "pairs", "pair"] ["script"] (defScope (top 21)) := ⟨rfl, rfl, rfl, by decide +kernel, rfl, by decide +kernel, by decide +kernel⟩
theorem ok_law : okSs ⟨["script", "cell", "draws", "one", "other", "told", "pairs", "pair"], defScope (top 21), ["all", "len"], [], [(11, "_law_drawn"), (8, "_law_draws"), (14, "_law_right"), (4, "ratio_plus"), (5, "ratio_times")], [], true⟩ b_law = true := by decide +kernel
def G_law : Fns := fun i => match i with | 4 => s_ratio_plus | 5 => s_ratio_times | 8 => s_law_draws | 11 => s_law_drawn | 14 => s_law_right | _ => fun _ _ => none
def s_law : List T → Sto → Re T := run G_law FU f_law
end K02

namespace K02
open PySem L2 Ev
local macro_rules | `(tactic| walk_at "w") => `(tactic| simp only [↓w_var, ↓w_int, ↓w_bl, ↓w_non, ↓w_str, ↓w_glo, ↓w_bin, ↓w_neg, ↓w_cmp, ↓w_no, ↓w_and, ↓w_or, ↓w_tup, ↓w_lst, ↓w_ix, ↓w_slHi, ↓w_slLo, ↓w_call, ↓w_bi, ↓w_isi, ↓w_app, ↓w_isx, ↓w_lc, ↓w_mm, ↓v_lst, ↓v_tup, ↓v_rng1, ↓v_rng2, ↓b_all, ↓b_any, ↓w_isv, ↓w_isxs, ↓f_isx, ↓f_isv, ↓w_and3, ↓k_isx, ↓s_tre, ↓w_dct0, ↓w_dct1, ↓w_nil, ↓w_cons, ↓o_add, ↓o_sub, ↓o_mul, ↓o_div, ↓o_mod, ↓o_pow, ↓o_cat, ↓o_neg, ↓c_lt, ↓c_le, ↓c_gt, ↓c_ge, ↓c_eq, ↓c_ne, ↓c_is, ↓c_isnot, ↓b_absI, ↓b_intI, ↓b_intB, ↓b_strI, ↓b_lenT, ↓b_lenR, ↓b_isi, ↓x_tup, ↓x_ref, ↓l_ref, ↓k_no, ↓k_and, ↓k_or, ↓k_and3, ↓k_or3, ↓k_or4, ↓k_and4, ↓k_cmp, ↓k_call, ↓k_isi, ↓k_var, ↓tru_bl, ↓tru_non, ↓tru_int, ↓s_cons, ↓s_nil, ↓s_asg, ↓s_asgT, ↓s_par, ↓s_exp, ↓s_ret, ↓s_ife, ↓s_put, ↓s_for, ↓s_whl, ↓s_brk, ↓s_con, ↓s_pas, ↓i_lst, ↓i_tup, ↓i_rng1, ↓i_rng2, ↓wp_ok, ↓wp_some, tyO_non, tyO_bl, tyO_int, tyO_str, tyO_tup, tyO_ref, ty_NoneType_int, ty_NoneType_bool, ty_NoneType_tuple, ty_NoneType_list, ty_NoneType_str, ty_NoneType_dict, ty_bool_int, ty_bool_bool, ty_bool_tuple, ty_bool_list, ty_bool_str, ty_bool_dict, ty_int_int, ty_int_bool, ty_int_tuple, ty_int_list, ty_int_str, ty_int_dict, ty_str_int, ty_str_bool, ty_str_tuple, ty_str_list, ty_str_str, ty_str_dict, ty_tuple_int, ty_tuple_bool, ty_tuple_tuple, ty_tuple_list, ty_tuple_str, ty_tuple_dict, ty_list_int, ty_list_bool, ty_list_tuple, ty_list_list, ty_list_str, ty_list_dict, ty_dict_int, ty_dict_bool, ty_dict_tuple, ty_dict_list, ty_dict_str, ty_dict_dict, List.getElem?_cons_zero, List.getElem?_cons_succ, List.set_cons_zero, List.set_cons_succ, gA0, gA, sA0, sA, List.append_assoc, List.cons_append, List.nil_append, List.length_append, List.length_cons, List.length_nil, List.map_cons, List.map_nil, Nat.zero_add, Nat.reduceAdd, Nat.reduceSub, List.replicate_succ, List.replicate_zero, List.append_nil, setMany, Int.reduceToNat, decide_eq_true_eq, ne_eq, Bool.false_eq_true, if_false, if_true, Bool.not_true, Bool.not_false, at_0, at_1, at_2, at_3, at_4, at_5, at_6, at_7, at_8, Bool.and_true, Bool.true_and, Bool.and_false, Bool.false_and, Bool.or_true, Bool.true_or, Bool.or_false, Bool.false_or, Option.some.injEq, keyOf_int, keyOf_str, sizeLine_eq, Nat.reduceLeDiff, Nat.reduceLT, true_and, and_true, Int.reduceEq, not_false_eq_true, Int.reduceLE, Int.reduceLT, small10, small2, List.length_map, bTT, bTF, bFT, bFF, decide_true, decide_false])
theorem fmod_lt {b : Int} (hb : b ≠ 0) (a : Int) : (a.fmod b).natAbs < b.natAbs := by
  rcases Int.lt_or_gt_of_ne hb with h | h
  · have h1 := Int.fmod_lt_of_pos (-a) (show 0 < -b by omega)
    have h2 := Int.fmod_nonneg_of_pos (-a) (show 0 < -b by omega)
    have h3 : (-a).fmod (-b) = -(a.fmod b) := Int.neg_fmod_neg ..
    omega
  · have h1 := Int.fmod_lt_of_pos a h
    have h2 := Int.fmod_nonneg_of_pos a h
    omega
theorem gcd_fmod (a b : Int) : Int.gcd b (a.fmod b) = Int.gcd a b := by
  rw [Int.fmod_def, Int.gcd_sub_mul_left_right, Int.gcd_comm]
/-- two steps halve -/
theorem fmod_half {b : Int} (hb : b ≠ 0) (a : Int) (hc : a.fmod b ≠ 0) : 2 * (b.fmod (a.fmod b)).natAbs < b.natAbs := by
  have key : ∀ {b c : Int}, 0 < c → c < b → 2 * (b.fmod c).natAbs < b.natAbs := fun {b c} h1 h2 => by
    have e1 := Int.fmod_lt_of_pos b h1
    have e2 := Int.fmod_nonneg_of_pos b h1
    have e3 := Int.mul_fdiv_add_fmod b c
    have e4 : 1 ≤ b.fdiv c := by
      rw [Int.fdiv_eq_ediv_of_nonneg _ (by omega)]
      exact Int.le_ediv_of_mul_le h1 (by omega)
    have e5 : c ≤ c * b.fdiv c := by
      have := Int.mul_le_mul_of_nonneg_left e4 (Int.le_of_lt h1)
      omega
    omega
  rcases Int.lt_or_gt_of_ne hb with h | h
  · have h1 := Int.fmod_lt_of_pos (-a) (show 0 < -b by omega)
    have h2 := Int.fmod_nonneg_of_pos (-a) (show 0 < -b by omega)
    have h3 : (-a).fmod (-b) = -(a.fmod b) := Int.neg_fmod_neg ..
    have h4 := key (b := -b) (c := -(a.fmod b)) (by omega) (by omega)
    rw [Int.neg_fmod_neg] at h4
    omega
  · have h1 := Int.fmod_lt_of_pos a h
    have h2 := Int.fmod_nonneg_of_pos a h
    exact key (by omega) (by omega)
section
variable {c : Lo → Sto → Re Bool} {b : Lo → Sto → Option Fl} {st : Sto}
/-- Euclid's loop, whatever the names behind are -/
theorem euclid {ρ : Int → Int → Lo} (G : Int → Int → Prop) (hg : ∀ x y, G x y → y ≠ 0 → G y (x.fmod y)) (hc : ∀ x y, G x y → c (ρ x y) st = some (.ok (decide (y ≠ 0)) st)) (hb : ∀ x y, y ≠ 0 → b (ρ x y) st = some (.nx (ρ y (x.fmod y)) st)) :
    ∀ (n : Nat) (x y : Int), G x y → y.natAbs < 2 ^ n → ∀ k, 2 * n + 1 ≤ k → ∃ z, G z 0 ∧ loopW c b k (ρ x y) st = some (.nx (ρ z 0) st) ∧ z.natAbs = Int.gcd x y := by
  have one : ∀ (k : Nat) (x y : Int), G x y → y ≠ 0 → loopW c b (k + 1) (ρ x y) st = loopW c b k (ρ y (x.fmod y)) st := fun k x y g h => by
    rw [loopW, hc x y g, decide_eq_true h, bndS_ok, if_pos rfl, hb x y h]
  have zero : ∀ (k : Nat) (x : Int), G x 0 → loopW c b (k + 1) (ρ x 0) st = some (.nx (ρ x 0) st) := fun k x g => by
    rw [loopW, hc x 0 g, bndS_ok]
    rfl
  intro n
  induction n with
  | zero =>
    intro x y g hy k hk
    have : y = 0 := by omega
    subst this
    obtain ⟨k, rfl⟩ : ∃ j, k = j + 1 := ⟨k - 1, by omega⟩
    exact ⟨x, g, zero k x g, by rw [Int.gcd_zero]⟩
  | succ n ih =>
    intro x y g hy k hk
    obtain ⟨k, rfl⟩ : ∃ j, k = j + 2 := ⟨k - 2, by omega⟩
    by_cases h : y = 0
    · subst h
      exact ⟨x, g, zero (k + 1) x g, by rw [Int.gcd_zero]⟩
    · have g2 := hg x y g h
      rw [one (k + 1) x y g h]
      by_cases h2 : x.fmod y = 0
      · rw [h2] at g2
        refine ⟨y, g2, by rw [h2]; exact zero k y g2, ?_⟩
        rw [← gcd_fmod, h2, Int.gcd_zero]
      · rw [one k y _ g2 h2]
        obtain ⟨z, e0, e1, e2⟩ := ih (x.fmod y) (y.fmod (x.fmod y)) (hg _ _ g2 h2) (by have := fmod_half h x h2; rw [Nat.pow_succ] at hy; omega) k (by omega)
        exact ⟨z, e0, e1, by rw [e2, gcd_fmod, gcd_fmod]⟩
end
theorem gc_eq {st : Sto} (hc : Cl st) {x y : Int} (hy : y.natAbs < 2 ^ 4000) : s_greatest_common [.int x, .int y] st = some (.ok (.int (Int.gcd x y)) st) := by
  obtain ⟨z, _, e1, e2⟩ := euclid (st := st) (ρ := fun x y => [some (.int x), some (.int y)])
    (c := evC G_greatest_common c_greatest_common_1) (b := exSs G_greatest_common FU b_greatest_common_1) (fun _ _ => True) (fun _ _ _ _ => trivial)
    (fun x y _ => by
      show some (Out.ok (!decide (y = 0)) st) = _
      by_cases h : y = 0 <;> simp [h])
    (fun x y h => by
      show seqS (bndS (opF .Mod (.int x) (.int y) st) fun u st => some (.nx [some (.int y), some u] st)) _ = _
      rw [opF_mod h]
      rfl) 4000 x y trivial hy FU (by unfold FU; omega)
  unfold s_greatest_common
  rw [run_rt (t := .int (Int.gcd x y)) (st' := st) rfl]
  · exact end_pur0 hc rfl
  · show seqS (noEx (loopW _ _ FU [some (.int x), some (.int y)] st)) _ = _
    rw [e1]
    show some (Fl.rt (.int (if z < 0 then -z else z)) st) = _
    congr 3
    split <;> omega
/-- _law_mixed tells some whole number -/
theorem prime_at (k : Int) : ∃ p : Int, atI [T.int 2147483647, .int 2147483629, .int 2147483587, .int 2147483579, .int 2147483563, .int 2147483549, .int 2147483543, .int 2147483497] (k.fmod 8) = some (.int p) ∧ 0 < p ∧ p < 2147483648 := by
  have h1 := Int.fmod_lt_of_pos k (show (0 : Int) < 8 by decide)
  have h2 := Int.fmod_nonneg_of_pos k (show (0 : Int) < 8 by decide)
  generalize k.fmod 8 = r at h1 h2
  have : r = 0 ∨ r = 1 ∨ r = 2 ∨ r = 3 ∨ r = 4 ∨ r = 5 ∨ r = 6 ∨ r = 7 := by omega
  rcases this with rfl | rfl | rfl | rfl | rfl | rfl | rfl | rfl <;> exact ⟨_, rfl, by decide, by decide⟩
theorem mixed_wp {st : Sto} (hc : Cl st) (cell k : Int) {Q : T → Sto → Prop} (h : ∀ m, Q (.int m) st) : Wp (s_law_mixed [.int cell, .int k] st) Q := by
  obtain ⟨p, hp, hp1, hp2⟩ := prime_at k
  refine run_wp rfl ?_
  dsimp only [f_law_mixed, b_law_mixed]
  walk_at "w"
  rw [hp]
  walk_at "w"
  generalize hx : (cell.fmod 1000000000000000009 * 69621 + 9241 * k + 1013).fmod p = x
  have hx1 : x < p := by rw [← hx]; exact Int.fmod_lt_of_pos _ hp1
  have hx2 : 0 ≤ x := by rw [← hx]; exact Int.fmod_nonneg_of_pos _ hp1
  generalize hy : (x ^ 3).fmod 2305843009213693951 = y
  have hy1 : y < 2305843009213693951 := by rw [← hy]; exact Int.fmod_lt_of_pos _ (by decide)
  have hy2 : 0 ≤ y := by rw [← hy]; exact Int.fmod_nonneg_of_pos _ (by decide)
  refine ⟨mulOk_r (by decide), mulOk_l (by decide), by omega, small_of (by omega), mulOk_l (small_of (by omega)), mulOk_l (by decide), mulOk_r (by decide), mid_small (by decide), ?_⟩
  exact e_pur hc rfl (h _)
theorem mem_fmod {base : Int} (hb : 0 < base) {ds : List Int} (h : ∀ d ∈ ds, 0 ≤ d ∧ d < base) (x : Int) : ∀ d ∈ ds ++ [x.fmod base], 0 ≤ d ∧ d < base := fun d hd => by
  rcases List.mem_append.mp hd with q | q
  · exact h d q
  · rw [List.mem_singleton.mp q]
    exact ⟨Int.fmod_nonneg_of_pos x hb, Int.fmod_lt_of_pos x hb⟩
theorem ten16 : smallI ((10 : Int) ^ 16) = true := by decide +kernel
/-- the loop of _law_draws -/
theorem draws_loop {st : Sto} (hc : Cl st) (cell : Int) (n : Nat) (hn : n ≤ 1000) {base : Int} (hb : 0 < base) (hm : midI base = true) (left : Int) {w : Nat} {px : Pos} {N : Lo → Sto → Prop} {R : T → Sto → Prop} {B C : Lo → Sto → Prop}
    (h : ∀ (ds : List Int) (lf : Int) (k' u' j' : Option T), ds.length = n → (∀ d ∈ ds, 0 ≤ d ∧ d < base) → N [some (.int cell), some (.int n), some (.int base), some (.ref st.length), some (.int lf), k', u', j'] (st ++ [.lst (ds.map T.int)])) :
    WpS (loopF (fun _ => true) false w (.nm 5 "k" px) (exSs G_law_draws FU b_law_draws_1) (rngT 0 (n : Int).toNat) [some (.int cell), some (.int n), some (.int base), some (.ref st.length), some (.int left), none, none, none] (st ++ [.lst []])) N R B C := by
  refine for_wp (fun i ρ s => ∃ (ds : List Int) (lf : Int) (k' u' j' : Option T), ρ = [some (.int cell), some (.int n), some (.int base), some (.ref st.length), some (.int lf), k', u', j'] ∧ s = st ++ [.lst (ds.map T.int)] ∧ ds.length = i ∧ ∀ d ∈ ds, 0 ≤ d ∧ d < base)
    ⟨[], left, none, none, none, rfl, rfl, rfl, fun _ z => by cases z⟩ ?_ ?_
  · rintro i t ρ s ht ⟨ds, lf, k', u', j', rfl, rfl, hl, hd⟩
    rw [rngT_get] at ht
    split at ht <;> cases ht
    rename_i hi
    refine ⟨rfl, _, rfl, ?_⟩
    have hlen : ds.length < sizeLine := Nat.lt_of_lt_of_le (show ds.length < 1001 by omega) (by decide)
    have next : ∀ (x : Int) (lf : Int) (k' u' j' : Option T), ∃ q, turnEnd false w [some (.int cell), some (.int n), some (.int base), some (.ref st.length), some (.int lf), k', u', j'] (st ++ [.lst (ds.map T.int ++ [.int (x.fmod base)])]) = some q ∧
        ∃ (ds : List Int) (lf : Int) (k' u' j' : Option T), q.1 = [some (.int cell), some (.int n), some (.int base), some (.ref st.length), some (.int lf), k', u', j'] ∧ q.2 = st ++ [.lst (ds.map T.int)] ∧ ds.length = i + 1 ∧ ∀ d ∈ ds, 0 ≤ d ∧ d < base := fun x lf k' u' j' =>
      ⟨_, rfl, ds ++ [x.fmod base], lf, k', u', j', rfl, by rw [List.map_append]; rfl, by simp [hl], mem_fmod hb hd x⟩
    dsimp only [b_law_draws_1]
    walk_at "w"
    split
    · refine ⟨by omega, ?_⟩
      rw [← sizeLine_eq]
      exact ⟨hlen, ⟨⟨by omega, hm⟩, next lf _ _ _ _⟩⟩
    · refine ⟨mulOk_l (by decide), decide_eq_true (by split <;> omega), ?_⟩
      refine for_wp (fun _ ρ s => ∃ (num : Int) (j' : Option T), ρ = [some (.int cell), some (.int n), some (.int base), some (.ref st.length), some (.int lf), some (.int (0 + (i : Int))), some (.int num), j'] ∧ s = st ++ [.lst (ds.map T.int)]) ⟨0, j', rfl, rfl⟩ ?_ ?_
      · rintro i2 t2 ρ2 s2 ht2 ⟨num, j2, rfl, rfl⟩
        rw [rngT_get] at ht2
        have ht2 := (Option.ite_none_right_eq_some.mp ht2).2
        cases ht2
        refine ⟨rfl, _, rfl, ?_⟩
        dsimp only [b_law_draws_2]
        walk_at "w"
        refine ⟨mulOk_r ten16, mulOk_l (by decide), mixed_wp (hc.ints ds) _ _ fun mm => ?_⟩
        walk_at "w"
        exact ⟨by decide +kernel, _, rfl, _, _, rfl, rfl⟩
      · rintro ρ2 s2 ⟨num, j2, rfl, rfl⟩
        refine ⟨rfl, ?_⟩
        walk_at "w"
        refine ⟨by omega, ?_⟩
        rw [← sizeLine_eq]
        exact ⟨hlen, next num _ _ _ _⟩
  · rintro ρ s ⟨ds, lf, k', u', j', rfl, rfl, hl, hd⟩
    rw [rngT_len] at hl
    exact ⟨rfl, h ds lf k' u' j' (by omega) hd⟩
theorem draws_wp {st : Sto} (hc : Cl st) (cell : Int) (n : Nat) (hn : n ≤ 1000) {base : Int} (hb : 0 < base) (hm : midI base = true) {Q : T → Sto → Prop}
    (h : ∀ ds : List Int, ds.length = n → (∀ d ∈ ds, 0 ≤ d ∧ d < base) → Q (.ref st.length) (st ++ [.lst (ds.map T.int)])) : Wp (s_law_draws [.int cell, .int n, .int base] st) Q := by
  refine run_wp rfl ?_
  dsimp only [f_law_draws, b_law_draws]
  walk_at "w"
  have hr : rngOk n = true := decide_eq_true (by omega)
  split
  · refine ⟨hr, draws_loop hc cell n hn hb hm _ fun ds lf k' u' j' hl hd => ?_⟩
    walk_at "w"
    exact e_frs hc (blws_ints _ _) (h ds hl hd)
  · refine ⟨hr, draws_loop hc cell n hn hb hm _ fun ds lf k' u' j' hl hd => ?_⟩
    walk_at "w"
    exact e_frs hc (blws_ints _ _) (h ds hl hd)
/-! ### is_whole, is_ratio -/
theorem whole_wp {st : Sto} (hc : Cl st) {t : T} {ty : String} (ht : tyOf t st = some ty) {Q : T → Sto → Prop} (h : Q (.bl (isTy ty .int && !isTy ty .bool)) st) : Wp (s_is_whole [t] st) Q := by
  refine run_wp rfl ?_
  dsimp only [f_is_whole, b_is_whole]
  walk_at "w"
  rw [ht]
  dsimp only
  cases e : isTy ty .int with
  | true =>
    rw [e] at h
    exact e_pur0 hc rfl h
  | false =>
    rw [e] at h
    exact e_pur0 hc rfl h
theorem ratio_two {st : Sto} (hc : Cl st) {x y : Int} (hy : y.natAbs < 2 ^ 4000) {Q : T → Sto → Prop} (h : Q (.bl (decide (1 ≤ y) && decide (Int.gcd x y = 1))) st) : Wp (s_is_ratio [.tup [.int x, .int y]] st) Q := by
  refine run_wp rfl ?_
  dsimp only [f_is_ratio, b_is_ratio]
  walk_at "w"
  refine whole_wp hc rfl ?_
  walk_at "w"
  refine whole_wp hc rfl ?_
  walk_at "w"
  by_cases h1 : 1 ≤ y
  · rw [decide_eq_true h1] at h ⊢
    refine wp_of (gc_eq hc hy) ?_
    walk_at "w"
    refine e_pur0 hc rfl ?_
    have : decide ((Int.gcd x y : Int) = 1) = decide (Int.gcd x y = 1) := decide_eq_decide.mpr (by omega)
    rw [this]
    exact h
  · rw [decide_eq_false h1] at h ⊢
    exact e_pur0 hc rfl h
/-- a number mod one of three, and its sign -/
theorem pick3 {a b c : Int} (r : Int) (h0 : 0 ≤ r) (h1 : r < 3) : ∃ m, atI [T.int a, .int b, .int c] r = some (.int m) ∧ (m = a ∨ m = b ∨ m = c) := by
  have : r = 0 ∨ r = 1 ∨ r = 2 := by omega
  rcases this with rfl | rfl | rfl
  · exact ⟨a, rfl, .inl rfl⟩
  · exact ⟨b, rfl, .inr (.inl rfl)⟩
  · exact ⟨c, rfl, .inr (.inr rfl)⟩

theorem common_wp {st : Sto} (hc : Cl st) {x y : Int} (hy : y.natAbs < 2 ^ 4000) {Q : T → Sto → Prop} (h : Q (.int (Int.gcd x y)) st) : Wp (s_law_common [.int x, .int y] st) Q := by
  obtain ⟨z, g, e1, e2⟩ := euclid (st := st) (ρ := fun x y => [some (.int x), some (.int y)])
    (c := evC G_law_common c_law_common_1) (b := exSs G_law_common FU b_law_common_1) (fun x y => 0 ≤ x ∧ 0 ≤ y) (fun x y g h => ⟨g.2, Int.fmod_nonneg_of_pos x (by omega)⟩)
    (fun x y g => by
      show some (Out.ok (decide (0 < y)) st) = _
      congr 2
      exact decide_eq_decide.mpr (by omega))
    (fun x y h => by
      show seqS (bndS (opF .Mod (.int x) (.int y) st) fun u st => some (.nx [some (.int y), some u] st)) _ = _
      rw [opF_mod h]
      rfl) 4000 (if x < 0 then -x else x) (if y < 0 then -y else y) ⟨by split <;> omega, by split <;> omega⟩ (by split <;> omega) FU (by unfold FU; omega)
  refine run_wp rfl ?_
  dsimp only [f_law_common, b_law_common]
  walk_at "w"
  rw [e1]
  have hz : z = (Int.gcd x y : Int) := by
    have : z.natAbs = Int.gcd x y := by
      rw [e2, Int.gcd_eq_natAbs_gcd_natAbs, Int.gcd_eq_natAbs_gcd_natAbs]
      congr 1 <;> (split <;> omega)
    omega
  show Wp (endF .pur st.length (.int z) st) Q
  rw [hz]
  exact e_pur0 hc rfl h
theorem six (r : Int) (h0 : 0 ≤ r) (h1 : r < 6) : ∃ m : Int, atI [T.int 4, .int 40, .int (10 ^ 6), .int (10 ^ 20), .int (10 ^ 45), .int (10 ^ 60)] r = some (.int m) ∧ 0 < m ∧ m ≤ 10 ^ 60 := by
  have : r = 0 ∨ r = 1 ∨ r = 2 ∨ r = 3 ∨ r = 4 ∨ r = 5 := by omega
  rcases this with rfl | rfl | rfl | rfl | rfl | rfl
  · exact ⟨_, rfl, by decide, by decide +kernel⟩
  · exact ⟨_, rfl, by decide, by decide +kernel⟩
  · exact ⟨_, rfl, by decide +kernel, by decide +kernel⟩
  · exact ⟨_, rfl, by decide +kernel, by decide +kernel⟩
  · exact ⟨_, rfl, by decide +kernel, by decide +kernel⟩
  · exact ⟨_, rfl, by decide +kernel, by decide +kernel⟩
theorem sized_wp {st : Sto} (hc : Cl st) (n way : Int) {Q : T → Sto → Prop} (h : ∀ m : Int, m.natAbs < 10 ^ 60 → Q (.int m) st) : Wp (s_law_sized [.int n, .int way] st) Q := by
  refine run_wp rfl ?_
  dsimp only [f_law_sized, b_law_sized]
  walk_at "w"
  obtain ⟨m, e, hm1, hm2⟩ := six (way.fmod 6) (Int.fmod_nonneg_of_pos _ (by decide)) (Int.fmod_lt_of_pos _ (by decide))
  rw [e]
  walk_at "w"
  have q1 := Int.fmod_nonneg_of_pos n hm1
  have q2 := Int.fmod_lt_of_pos n hm1
  generalize n.fmod m = x at q1 q2 ⊢
  obtain ⟨y, e2, hy⟩ := pick3 (a := x) (b := 0 - x) (c := x) ((way.fdiv 6).fmod 3) (Int.fmod_nonneg_of_pos _ (by decide)) (Int.fmod_lt_of_pos _ (by decide))
  rw [e2]
  walk_at "w"
  have hb : (10 : Int) ^ 60 = 1000000000000000000000000000000000000000000000000000000000000 := by decide +kernel
  have hb' : (10 : Nat) ^ 60 = 1000000000000000000000000000000000000000000000000000000000000 := by decide +kernel
  rw [hb] at hm2
  exact ⟨by omega, mid_small (by decide), e_pur hc rfl (h y (by rw [hb']; omega))⟩
/-! ### ratio_of -/
def rc (x y : Int) : Int := if y < 0 then -(Int.gcd x y : Int) else Int.gcd x y
theorem rc_pos {x y : Int} (hy : y ≠ 0) : 0 < Int.gcd x y := Int.gcd_pos_of_ne_zero_right x hy
theorem rc_ne {x y : Int} (hy : y ≠ 0) : rc x y ≠ 0 := by
  have := rc_pos (x := x) hy
  unfold rc
  split <;> omega
theorem rc_abs {x y : Int} : (rc x y).natAbs = Int.gcd x y := by
  unfold rc
  split <;> omega
theorem rc_dvd {x y : Int} : rc x y ∣ x ∧ rc x y ∣ y := by
  unfold rc
  split
  · exact ⟨(Int.neg_dvd).mpr (Int.gcd_dvd_left x y), (Int.neg_dvd).mpr (Int.gcd_dvd_right x y)⟩
  · exact ⟨Int.gcd_dvd_left x y, Int.gcd_dvd_right x y⟩
structure Lowest (x y p q : Int) : Prop where
  pos : 0 < q
  co : Int.gcd p q = 1
  eq : p * y = x * q
  lep : p.natAbs ≤ x.natAbs
  leq : q.natAbs ≤ y.natAbs
theorem rc_low {x y : Int} (hy : y ≠ 0) : Lowest x y (x.fdiv (rc x y)) (y.fdiv (rc x y)) := by
  obtain ⟨⟨p, hp⟩, ⟨q, hq⟩⟩ := rc_dvd (x := x) (y := y)
  have hc := rc_ne (x := x) hy
  have ha := rc_abs (x := x) (y := y)
  have hg := rc_pos (x := x) hy
  generalize hcc : rc x y = c at *
  have e1 : x.fdiv c = p := by rw [hp, Int.mul_comm]; exact Int.mul_fdiv_cancel _ hc
  have e2 : y.fdiv c = q := by rw [hq, Int.mul_comm]; exact Int.mul_fdiv_cancel _ hc
  rw [e1, e2]
  have hs : (y < 0 ↔ c < 0) := by
    rw [← hcc]
    unfold rc
    split <;> omega
  have hq0 : 0 < q := by
    rcases Int.lt_or_gt_of_ne hc with h | h
    · have hy0 := hs.mpr h
      rcases Int.lt_trichotomy q 0 with z | z | z
      · have := Int.mul_pos_of_neg_of_neg h z
        omega
      · rw [z, Int.mul_zero] at hq; omega
      · exact z
    · rcases Int.lt_trichotomy q 0 with z | z | z
      · have := Int.mul_neg_of_pos_of_neg h z
        omega
      · rw [z, Int.mul_zero] at hq; omega
      · exact z
  refine ⟨hq0, ?_, ?_, ?_, ?_⟩
  · have : Int.gcd x y = c.natAbs * Int.gcd p q := by
      conv => lhs; rw [hp, hq]
      exact Int.gcd_mul_left ..
    rw [← ha] at this hg
    exact Nat.eq_of_mul_eq_mul_left hg (by rw [← this, Nat.mul_one])
  · conv => lhs; rw [hq]
    conv => rhs; rw [hp]
    rw [Int.mul_left_comm, ← Int.mul_assoc]
  · rw [hp, Int.natAbs_mul]
    exact Nat.le_mul_of_pos_left _ (by omega)
  · rw [hq, Int.natAbs_mul]
    exact Nat.le_mul_of_pos_left _ (by omega)
theorem rc_neg {x y : Int} (hy : y ≠ 0) : (0 - x).fdiv (rc (0 - x) (0 - y)) = x.fdiv (rc x y) ∧ (0 - y).fdiv (rc (0 - x) (0 - y)) = y.fdiv (rc x y) := by
  have e : rc (0 - x) (0 - y) = -(rc x y) := by
    have hg : Int.gcd (0 - x) (0 - y) = Int.gcd x y := by
      rw [Int.zero_sub, Int.zero_sub, Int.gcd_neg, Int.neg_gcd]
    unfold rc
    rw [hg]
    split <;> split <;> omega
  obtain ⟨⟨p, hp⟩, ⟨q, hq⟩⟩ := rc_dvd (x := x) (y := y)
  have hc := rc_ne (x := x) hy
  rw [e]
  generalize rc x y = c at *
  subst hp hq
  have hc' : -c ≠ 0 := by omega
  have t : ∀ r : Int, (0 - c * r).fdiv (-c) = (c * r).fdiv c := fun r => by
    rw [show 0 - c * r = r * -c by rw [Int.mul_neg, Int.mul_comm]; omega, Int.mul_fdiv_cancel _ hc', Int.mul_comm, Int.mul_fdiv_cancel _ hc]
  exact ⟨t p, t q⟩
theorem rc_zero {y : Int} (hy : y ≠ 0) : (0 : Int).fdiv (rc 0 y) = 0 ∧ y.fdiv (rc 0 y) = 1 := by
  have e : rc 0 y = y := by
    unfold rc
    rw [Int.gcd_zero_left]
    split <;> omega
  rw [e]
  exact ⟨Int.zero_fdiv y, Int.fdiv_self hy⟩
theorem ratio_of_wp {st : Sto} (hc : Cl st) {x y : Int} (hy : y ≠ 0) (hb : y.natAbs < 2 ^ 4000) {Q : T → Sto → Prop} (h : Q (.tup [.int (x.fdiv (rc x y)), .int (y.fdiv (rc x y))]) st) : Wp (s_ratio_of [.int x, .int y] st) Q := by
  have hg := rc_pos (x := x) hy
  have hle : Int.gcd x y ≤ y.natAbs := by
    rw [Int.gcd_eq_natAbs_gcd_natAbs]
    exact Nat.gcd_le_right _ (by omega)
  refine run_wp rfl ?_
  dsimp only [f_ratio_of, b_ratio_of]
  walk_at "w"
  rw [if_neg hy]
  refine wp_of (gc_eq hc hb) ?_
  walk_at "w"
  unfold rc at h
  split
  · rename_i hn
    rw [if_pos hn] at h
    refine ⟨⟨by omega, mid_of (by omega)⟩, ⟨by omega, mid_of (by omega)⟩, e_pur0 hc rfl h⟩
  · rename_i hn
    rw [if_neg hn] at h
    refine ⟨⟨by omega, mid_of (by omega)⟩, ⟨by omega, mid_of (by omega)⟩, e_pur0 hc rfl h⟩
theorem ratio_of_xp {st : Sto} (hc : Cl st) {x : Int} {Q : Nat → Sto → Prop} (h : Q 1 st) : Xp (s_ratio_of [.int x, .int 0] st) Q := by
  refine run_xp rfl (xs_ife ?_)
  dsimp only [f_ratio_of, b_ratio_of]
  walk_at "w"
  exact xs_rse (w_str.mpr ⟨st, trimS_self hc, h⟩)
theorem s_app {Γ : Fns} {F : Nat} {N : Lo → Sto → Prop} {R : T → Sto → Prop} {B C : Lo → Sto → Prop} : ∀ {xs ys : List Sx} {ρ : Lo} {st : Sto}, WpS (exSs Γ F xs ρ st) (fun ρ st => WpS (exSs Γ F ys ρ st) N R B C) R B C → WpS (exSs Γ F (xs ++ ys) ρ st) N R B C
  | [], ys, ρ, st, h => by rw [s_nil] at h; exact h
  | x :: xs, ys, ρ, st, h => by
    rw [List.cons_append, s_cons]
    rw [s_cons] at h
    exact h.imp (fun ρ st q => s_app q) (fun _ _ q => q) (fun _ _ q => q) fun _ _ q => q
theorem ten60 : (10 : Int) ^ 60 = 1000000000000000000000000000000000000000000000000000000000000 := by decide +kernel
theorem ten60n : (10 : Nat) ^ 60 = 1000000000000000000000000000000000000000000000000000000000000 := by decide +kernel
theorem ten50 : (10 : Int) ^ 50 = 100000000000000000000000000000000000000000000000000 := by decide +kernel
theorem ten50n : (10 : Nat) ^ 50 = 100000000000000000000000000000000000000000000000000 := by decide +kernel

theorem mid60 : midI ((10 : Int) ^ 60) = true := by decide +kernel
/-- a ratio of moderate size -/
structure Mod (B : Nat) (p q : Int) : Prop where
  pos : 0 < q
  p : p.natAbs < B
  q : q.natAbs < B
theorem bigB : (10 : Nat) ^ 130 < 2 ^ 4000 := by decide +kernel
theorem bigC : (10 : Nat) ^ 300 < 2 ^ 4000 := by decide +kernel
theorem mulB {a b : Int} {m n k : Nat} (ha : a.natAbs < m) (hb : b.natAbs < n) (h : m * n ≤ k) : (a * b).natAbs < k := by
  rw [Int.natAbs_mul]
  exact Nat.lt_of_lt_of_le (Nat.mul_lt_mul'' ha hb) h
section
variable {st : Sto} {a b c d : Int} {Q : T → Sto → Prop}
def xP (a b c d : Int) : Int := a * d + c * b
theorem plus_wp (hc : Cl st) (m1 : Mod (10 ^ 130) a b) (m2 : Mod (10 ^ 130) c d) (h : Q (.tup [.int ((a * d + c * b).fdiv (rc (a * d + c * b) (b * d))), .int ((b * d).fdiv (rc (a * d + c * b) (b * d)))]) st) : Wp (s_ratio_plus [.tup [.int a, .int b], .tup [.int c, .int d]] st) Q := by
  have md : ∀ {x : Int}, x.natAbs < 10 ^ 130 → midI x = true := fun h => mid_of (Nat.lt_trans h bigB)
  have hy : b * d ≠ 0 := by have := Int.mul_pos m1.pos m2.pos; omega
  refine run_wp rfl ?_
  dsimp only [f_ratio_plus, b_ratio_plus]
  walk_at "w"
  refine ⟨mulOk_m (md m1.p) (md m2.q), mulOk_m (md m2.p) (md m1.q), mulOk_m (md m1.q) (md m2.q), ?_⟩
  refine ratio_of_wp hc hy (Nat.lt_trans (mulB m1.q m2.q (k := 10 ^ 300) (by decide +kernel)) bigC) ?_
  exact e_pur0 hc rfl h
theorem times_wp (hc : Cl st) (m1 : Mod (10 ^ 130) a b) (m2 : Mod (10 ^ 130) c d) (h : Q (.tup [.int ((a * c).fdiv (rc (a * c) (b * d))), .int ((b * d).fdiv (rc (a * c) (b * d)))]) st) : Wp (s_ratio_times [.tup [.int a, .int b], .tup [.int c, .int d]] st) Q := by
  have md : ∀ {x : Int}, x.natAbs < 10 ^ 130 → midI x = true := fun h => mid_of (Nat.lt_trans h bigB)
  have hy : b * d ≠ 0 := by have := Int.mul_pos m1.pos m2.pos; omega
  refine run_wp rfl ?_
  dsimp only [f_ratio_times, b_ratio_times]
  walk_at "w"
  refine ⟨mulOk_m (md m1.p) (md m2.p), mulOk_m (md m1.q) (md m2.q), ?_⟩
  refine ratio_of_wp hc hy (Nat.lt_trans (mulB m1.q m2.q (k := 10 ^ 300) (by decide +kernel)) bigC) ?_
  exact e_pur0 hc rfl h
theorem over_wp (hc : Cl st) (m1 : Mod (10 ^ 130) a b) (m2 : Mod (10 ^ 130) c d) (h0 : c ≠ 0) (h : Q (.tup [.int ((a * d).fdiv (rc (a * d) (b * c))), .int ((b * c).fdiv (rc (a * d) (b * c)))]) st) : Wp (s_ratio_over [.tup [.int a, .int b], .tup [.int c, .int d]] st) Q := by
  have md : ∀ {x : Int}, x.natAbs < 10 ^ 130 → midI x = true := fun h => mid_of (Nat.lt_trans h bigB)
  have hy : b * c ≠ 0 := Int.mul_ne_zero (by have := m1.pos; omega) h0
  refine run_wp rfl ?_
  dsimp only [f_ratio_over, b_ratio_over]
  walk_at "w"
  refine ⟨mulOk_m (md m1.p) (md m2.q), mulOk_m (md m1.q) (md m2.p), ?_⟩
  refine ratio_of_wp hc hy (Nat.lt_trans (mulB m1.q m2.p (k := 10 ^ 300) (by decide +kernel)) bigC) ?_
  exact e_pur0 hc rfl h
theorem over_xp (hc : Cl st) {Q : Nat → Sto → Prop} (h : Q 1 st) : Xp (s_ratio_over [.tup [.int a, .int b], .tup [.int 0, .int 1]] st) Q := by
  refine run_xp rfl (xs_ret ?_)
  dsimp only [f_ratio_over, b_ratio_over]
  walk_at "w"
  refine ⟨mulOk_r (by decide), mulOk_r (by decide), ?_⟩
  rw [Int.mul_zero]
  exact ratio_of_xp hc ⟨st, trimS_self hc, h⟩
theorem refused_wp (hc : Cl st) (h : Q (.bl true) st) : Wp (s_law_refused [.tup [.int a, .int b]] st) Q := by
  refine run_wp rfl ?_
  dsimp only [f_law_refused, b_law_refused]
  walk_at "w"
  refine try_x (over_xp hc ⟨rfl, ?_⟩)
  show Wp (endF .pur st.length (.bl true) st) Q
  exact e_pur0 hc rfl h
theorem stands_wp (hc : Cl st) {x y p q : Int} (L : Lowest x y p q) (hp : midI p = true) (hq : q.natAbs < 2 ^ 4000) (hx : midI x = true) (hy : midI y = true) (h : Q (.bl true) st) : Wp (s_law_stands [.tup [.int p, .int q], .int x, .int y] st) Q := by
  have p1 := L.pos
  refine run_wp rfl ?_
  dsimp only [f_law_stands, b_law_stands]
  walk_at "w"
  refine ratio_two hc hq ?_
  rw [decide_eq_true (show 1 ≤ q by omega), decide_eq_true L.co]
  walk_at "w"
  refine common_wp hc hq ?_
  walk_at "w"
  rw [L.co]
  rw [if_neg (by simp), if_neg (by omega), decide_eq_true L.eq]
  exact ⟨mulOk_m hp hy, mulOk_m hx (mid_of hq), e_pur0 hc rfl h⟩
theorem right_wp (hc : Cl st) (m1 : Mod (10 ^ 130) a b) (m2 : Mod (10 ^ 130) c d) (h : Q (.bl true) st) : Wp (s_law_right [.tup [.int a, .int b], .tup [.int c, .int d]] st) Q := by
  have md : ∀ {x : Int}, x.natAbs < 10 ^ 130 → midI x = true := fun h => mid_of (Nat.lt_trans h bigB)
  have mc : ∀ {x : Int}, x.natAbs < 10 ^ 300 → midI x = true := fun h => mid_of (Nat.lt_trans h bigC)
  have ml : ∀ {x y : Int}, x.natAbs < 10 ^ 130 → y.natAbs < 10 ^ 130 → (x * y).natAbs < 10 ^ 260 := fun h1 h2 => mulB h1 h2 (by decide +kernel)
  have lt : (10 : Nat) ^ 260 + 10 ^ 260 < 10 ^ 300 := by decide +kernel
  have hbd : b * d ≠ 0 := by have := Int.mul_pos m1.pos m2.pos; omega
  have hsum : (a * d + c * b).natAbs < 10 ^ 300 := by
    have h1 := ml m1.p m2.q
    have h2 := ml m2.p m1.q
    omega
  have hbd2 : (b * d).natAbs < 10 ^ 300 := by have := ml m1.q m2.q; omega
  have hac : (a * c).natAbs < 10 ^ 300 := by have := ml m1.p m2.p; omega
  have had : (a * d).natAbs < 10 ^ 300 := by have := ml m1.p m2.q; omega
  have hbc : (b * c).natAbs < 10 ^ 300 := by have := ml m1.q m2.p; omega
  have st3 : ∀ {x y : Int} {Q : T → Sto → Prop}, y ≠ 0 → x.natAbs < 10 ^ 300 → y.natAbs < 10 ^ 300 → Q (.bl true) st → Wp (s_law_stands [.tup [.int (x.fdiv (rc x y)), .int (y.fdiv (rc x y))], .int x, .int y] st) Q := fun {x y Q} hy hx hy2 q => by
    have L := rc_low (x := x) hy
    exact stands_wp hc L (mc (Nat.lt_of_le_of_lt L.lep hx)) (Nat.lt_trans (Nat.lt_of_le_of_lt L.leq hy2) bigC) (mc hx) (mc hy2) q
  refine run_wp rfl ?_
  dsimp only [f_law_right, b_law_right]
  walk_at "w"
  refine plus_wp hc m1 m2 ?_
  refine ⟨mulOk_m (md m1.p) (md m2.q), mulOk_m (md m2.p) (md m1.q), mulOk_m (md m1.q) (md m2.q), st3 hbd hsum hbd2 ?_⟩
  walk_at "w"
  refine times_wp hc m1 m2 ?_
  refine ⟨mulOk_m (md m1.p) (md m2.p), mulOk_m (md m1.q) (md m2.q), st3 hbd hac hbd2 ?_⟩
  walk_at "w"
  split
  · rename_i h0
    refine refused_wp hc ?_
    exact e_pur0 hc rfl h
  · rename_i h0
    refine over_wp hc m1 m2 h0 ?_
    refine ⟨mulOk_m (md m1.p) (md m2.q), mulOk_m (md m1.q) (md m2.p), st3 (Int.mul_ne_zero (by have := m1.pos; omega) h0) had hbc ?_⟩
    exact e_pur0 hc rfl h
theorem drawn_wp (hc : Cl st) {n : Nat} {xs : List T} {i d0 d1 d2 d3 : Int} (hn : st[n]? = some (.lst xs)) (e0 : atI xs i = some (.int d0)) (e1 : atI xs (i + 1) = some (.int d1)) (e2 : atI xs (i + 2) = some (.int d2)) (e3 : atI xs (i + 3) = some (.int d3))
    (h : ∀ p q : Int, Mod (10 ^ 61) p q → Q (.tup [.int p, .int q]) st) : Wp (s_law_drawn [.ref n, .int i] st) Q := by
  refine run_wp rfl ?_
  dsimp only [f_law_drawn, b_law_drawn]
  walk_at "w"
  simp only [hn, e0, e1]
  refine sized_wp hc _ _ fun m1 h1 => ?_
  simp only [hn, e2, e3]
  walk_at "w"
  refine sized_wp hc _ _ fun m2 h2 => ?_
  dsimp only
  generalize hb : (if m2 > 1 then m2 else 1) = b
  have hb1 : 1 ≤ b := by rw [← hb]; split <;> omega
  have hb2 : b.natAbs < 10 ^ 61 := by
    have : (10 : Nat) ^ 61 = 10 * 10 ^ 60 := by decide +kernel
    rw [← hb]; split <;> omega
  have hbig : (10 : Nat) ^ 61 < 2 ^ 4000 := by decide +kernel
  refine common_wp hc (Nat.lt_trans hb2 hbig) ?_
  have L := rc_low (x := m1) (show b ≠ 0 by omega)
  have hr : rc m1 b = Int.gcd m1 b := by unfold rc; rw [if_neg (by omega)]
  rw [hr] at L
  have hg := rc_pos (x := m1) (show b ≠ 0 by omega)
  have hgl : Int.gcd m1 b ≤ b.natAbs := by
    rw [Int.gcd_eq_natAbs_gcd_natAbs]
    exact Nat.gcd_le_right _ (by omega)
  walk_at "w"
  refine ⟨⟨by omega, mid_of (by omega)⟩, ⟨by omega, mid_of (by omega)⟩, e_pur0 hc rfl (h _ _ ⟨L.pos, Nat.lt_of_le_of_lt L.lep (Nat.lt_trans h1 (by decide +kernel)), Nat.lt_of_le_of_lt L.leq hb2⟩)⟩
end
theorem k_bi {Γ : Fns} {f : Bi} {pn p : Pos} {a : Ex} {ρ : Lo} {st : Sto} {q : Bool → Sto → Prop} : Wp (evC Γ (.bi f pn a p) ρ st) q ↔ Wp (ev Γ (.bi f pn a p) ρ st) fun t st => Wp (truF t st) q := by
  rw [evC.eq_def]
  simp only [wp_bnd]
theorem Mod.up {p q : Int} (h : Mod (10 ^ 61) p q) : Mod (10 ^ 130) p q := ⟨h.pos, Nat.lt_trans h.p (by decide +kernel), Nat.lt_trans h.q (by decide +kernel)⟩
theorem Mod.low {x y p q : Int} (L : Lowest x y p q) (hx : x.natAbs < 10 ^ 130) (hy : y.natAbs < 10 ^ 130) : Mod (10 ^ 130) p q := ⟨L.pos, Nat.lt_of_le_of_lt L.lep hx, Nat.lt_of_le_of_lt L.leq hy⟩
theorem lc_right {st : Sto} (hc : Cl st) {idx n : Nat} {pairs : List T} {x y y2 z : Str} {pn q1 q2 q3 q4 q5 q6 pp pg : Pos} {k1 k2 : Nat} {b0 b1 b2 b3 b4 b5 b6 b7 : Option T} (hi : st[idx]? = some (.lst pairs)) (hn : n = st.length) (hlen : pairs.length ≤ 1000)
    (hp : ∀ t ∈ pairs, ∃ a b c d, t = .tup [.tup [.int a, .int b], .tup [.int c, .int d]] ∧ Mod (10 ^ 130) a b ∧ Mod (10 ^ 130) c d) {Q : T → Sto → Prop} (h : Q (.ref st.length) (st ++ [.lst (List.replicate pairs.length (.bl true))])) :
    Wp (lcF (sameAt idx pairs) (.nm 7 z pg) (fun ρ st => ev G_law (.call 14 x pn (.ix (.var 7 y q1) (.int 0 k1 q2) q3) [.ix (.var 7 y2 q4) (.int 1 k2 q5) q6] pp) ρ st) n (wipeL [b0, b1, b2, b3, b4, b5, b6, b7] [7]) pairs (st ++ [.lst []])) Q := by
  refine lc_wp hn (fun i acc => acc = List.replicate i (.bl true)) rfl (fun acc => ?_) hlen (fun i acc e => by rw [e, List.length_replicate]) (fun i t acc ht e => ?_) fun acc e => by rw [e]; exact h
  · unfold sameAt
    rw [List.getElem?_append_left (List.getElem?_eq_some_iff.mp hi).1, hi]
    exact eqLs_refl _
  · obtain ⟨a, b, c, d, rfl, m1, m2⟩ := hp t (List.mem_of_getElem? ht)
    refine ⟨_, rfl, ?_⟩
    dsimp only [wipeL]
    walk_at "w"
    refine right_wp (hc.app ?_) m1 m2 ⟨rfl, ?_⟩
    · rw [e]
      have : ∀ (n m : Nat), T.blws m (List.replicate n (.bl true)) = true := fun n m => by
        induction n with
        | zero => rfl
        | succ n ih => rw [List.replicate_succ]; unfold T.blws; rw [ih]; rfl
      simp [O.blw, this]
    · rw [e, ← List.replicate_succ', List.replicate_succ]
theorem turn {st : Sto} (hc : Cl st) (c : Int) (a0 a2 a3 a4 a5 a6 a7 : Option T) {N : Lo → Sto → Prop} {R : T → Sto → Prop} {B C : Lo → Sto → Prop}
    (h : ∀ (b2 b3 b4 b5 b6 b7 : Option T) (xs : Sto), N [a0, some (.int c), b2, b3, b4, b5, b6, b7] (st ++ xs)) :
    WpS (exSs G_law FU b_law_1 [a0, some (.int c), a2, a3, a4, a5, a6, a7] st) N R B C := by
  dsimp only [b_law_1]
  walk_at "w"
  refine draws_wp (n := 8) hc c (by decide) (by rw [ten60]; decide) mid60 fun ds hl hd => ?_
  obtain ⟨d0, d1, d2, d3, d4, d5, d6, d7, rfl⟩ : ∃ d0 d1 d2 d3 d4 d5 d6 d7, ds = [d0, d1, d2, d3, d4, d5, d6, d7] := by
    match ds, hl with
    | [d0, d1, d2, d3, d4, d5, d6, d7], _ => exact ⟨d0, d1, d2, d3, d4, d5, d6, d7, rfl⟩
  have hc1 := hc.ints [d0, d1, d2, d3, d4, d5, d6, d7]
  refine drawn_wp hc1 (d0 := d0) (d1 := d1) (d2 := d2) (d3 := d3) (by rw [gA0]; rfl) (by rfl) (by rfl) (by rfl) (by rfl) fun p1 q1 m1 => ?_
  refine drawn_wp hc1 (d0 := d4) (d1 := d5) (d2 := d6) (d3 := d7) (by rw [gA0]; rfl) (by rfl) (by rfl) (by rfl) (by rfl) fun p2 q2 m2 => ?_
  have l122 : ∀ {x y : Int}, x.natAbs < 10 ^ 61 → y.natAbs < 10 ^ 61 → (x * y).natAbs < 10 ^ 122 := fun h1 h2 => mulB h1 h2 (by decide +kernel)
  have hlt : (10 : Nat) ^ 122 + 10 ^ 122 < 10 ^ 130 := by decide +kernel
  have hqq : q1 * q2 ≠ 0 := by have := Int.mul_pos m1.pos m2.pos; omega
  have bs : (p1 * q2 + p2 * q1).natAbs < 10 ^ 130 := by have := l122 m1.p m2.q; have := l122 m2.p m1.q; omega
  have bq : (q1 * q2).natAbs < 10 ^ 130 := by have := l122 m1.q m2.q; omega
  have bp : (p1 * p2).natAbs < 10 ^ 130 := by have := l122 m1.p m2.p; omega
  have L1 := Mod.low (rc_low (x := p1 * q2 + p2 * q1) hqq) bs bq
  have L2 := Mod.low (rc_low (x := p1 * p2) hqq) bp bq
  refine plus_wp hc1 m1.up m2.up ?_
  refine times_wp hc1 m1.up m2.up ?_
  generalize (p1 * q2 + p2 * q1).fdiv (rc (p1 * q2 + p2 * q1) (q1 * q2)) = p3 at L1 ⊢
  generalize (q1 * q2).fdiv (rc (p1 * q2 + p2 * q1) (q1 * q2)) = q3 at L1 ⊢
  generalize (p1 * p2).fdiv (rc (p1 * p2) (q1 * q2)) = p4 at L2 ⊢
  generalize (q1 * q2).fdiv (rc (p1 * p2) (q1 * q2)) = q4 at L2 ⊢
  walk_at "w"
  simp only [Nat.add_assoc, Nat.reduceAdd]
  refine k_bi.mpr ?_
  walk_at "w"
  have hcl : Cl (st ++ [O.lst [T.int d0, T.int d1, T.int d2, T.int d3, T.int d4, T.int d5, T.int d6, T.int d7], O.lst [T.tup [T.int p3, T.int q3], T.tup [T.int p4, T.int q4]], O.lst [T.tup [T.tup [T.int p1, T.int q1], T.tup [T.int p2, T.int q2]], T.tup [T.tup [T.int p2, T.int q2], T.tup [T.int p1, T.int q1]], T.tup [T.tup [T.int p1, T.int q1], T.tup [T.int p1, T.int q1]], T.tup [T.tup [T.int p1, T.int q1], T.tup [T.int 0, T.int 1]], T.tup [T.tup [T.int 0, T.int 1], T.tup [T.int p2, T.int q2]], T.tup [T.tup [T.int p3, T.int q3], T.tup [T.int p4, T.int q4]]]]) := hc.app (by simp [O.blw, T.blws, T.blw])
  rw [show ∀ x y z w : O, st ++ [x, y, z, w] = (st ++ [x, y, z]) ++ [w] from fun x y z w => by simp]
  have one : Mod (10 ^ 130) 0 1 := ⟨by decide, by decide +kernel, by decide +kernel⟩
  refine lc_right hcl (by rw [gA]; rfl) (by simp) (by simp) (fun t ht => ?_) ?_
  · simp only [List.mem_cons, List.not_mem_nil, or_false] at ht
    rcases ht with rfl | rfl | rfl | rfl | rfl | rfl
    · exact ⟨_, _, _, _, rfl, m1.up, m2.up⟩
    · exact ⟨_, _, _, _, rfl, m2.up, m1.up⟩
    · exact ⟨_, _, _, _, rfl, m1.up, m1.up⟩
    · exact ⟨_, _, _, _, rfl, m1.up, one⟩
    · exact ⟨_, _, _, _, rfl, one, m2.up⟩
    · exact ⟨_, _, _, _, rfl, L1, L2⟩
  · refine b_all.mpr ?_
    have e : ∀ (s : Sto) (ts : List T), lbools s.length (s ++ [.lst ts]) = bools? ts := fun s ts => by
      unfold lbools seq?
      dsimp only
      rw [gA0]
      rfl
    rw [e]
    simp only [List.length_cons, List.length_nil, Nat.zero_add, Nat.reduceAdd, List.replicate_succ, List.replicate_zero, bools?, Option.map_some, List.all_cons, List.all_nil, id, Bool.and_true, tru_bl, Bool.not_true, Bool.false_eq_true, if_false, List.append_assoc, List.cons_append, List.nil_append]
    exact h _ _ _ _ _ _ _
theorem main : ∀ ns : List Int, ns.length ≤ 63 → ∃ st', s_law [.ref 0] [.fz (ns.map T.int)] = some (.ok (.bl true) st') := by
  intro ns hns
  have goal : Wp (s_law [.ref 0] [.fz (ns.map T.int)]) (fun t _ => t = .bl true) := by
    refine run_wp rfl ?_
    dsimp only [f_law, b_law]
    walk_at "w"
    obtain ⟨ms, hms, hml⟩ := cutT_ints ns none (some 15)
    rw [hms]
    walk_at "w"
    refine ⟨by omega, ?_⟩
    have hc : Cl [O.fz (List.map T.int ns), O.lst (List.map T.int ms), O.lst [T.int ↑ns.length], O.lst (List.map T.int ms ++ [T.int ↑ns.length])] := by
      unfold Cl
      have : List.map T.int ms ++ [T.int ↑ns.length] = (ms ++ [(ns.length : Int)]).map T.int := by simp
      rw [this]
      simp only [O.blw, blws_ints, List.all_cons, List.all_nil, T.blws, T.blw, Bool.and_true]
    have hs : sameAt 3 (List.map T.int ms ++ [T.int ↑ns.length]) [O.fz (List.map T.int ns), O.lst (List.map T.int ms), O.lst [T.int ↑ns.length], O.lst (List.map T.int ms ++ [T.int ↑ns.length])] = true := eqLs_refl _
    have hl : [O.fz (List.map T.int ns), O.lst (List.map T.int ms), O.lst [T.int ↑ns.length], O.lst (List.map T.int ms ++ [T.int ↑ns.length])].length = 4 := rfl
    have hf : trimS 1 [O.fz (List.map T.int ns), O.lst (List.map T.int ms), O.lst [T.int ↑ns.length], O.lst (List.map T.int ms ++ [T.int ↑ns.length])] = some [O.fz (List.map T.int ns)] := trimS_app (Cl.fz ns) [O.lst (List.map T.int ms), O.lst [T.int ↑ns.length], O.lst (List.map T.int ms ++ [T.int ↑ns.length])]
    generalize [O.fz (List.map T.int ns), O.lst (List.map T.int ms), O.lst [T.int ↑ns.length], O.lst (List.map T.int ms ++ [T.int ↑ns.length])] = st0 at hc hs hl hf ⊢
    refine for_wp (fun _ ρ s => s = st0 ∧ ∃ a1 a2 a3 a4 a5 a6 a7, ρ = [some (.ref 0), a1, a2, a3, a4, a5, a6, a7]) ⟨rfl, _, _, _, _, _, _, _, rfl⟩ ?_ ?_
    · rintro i t ρ s ht ⟨rfl, a1, a2, a3, a4, a5, a6, a7, rfl⟩
      obtain ⟨c, rfl⟩ : ∃ c, t = .int c := by
        have := List.mem_of_getElem? ht
        rcases List.mem_append.mp this with q | q
        · obtain ⟨c, _, rfl⟩ := List.mem_map.mp q; exact ⟨c, rfl⟩
        · exact ⟨_, List.mem_singleton.mp q⟩
      refine ⟨hs, _, rfl, turn hc c _ _ _ _ _ _ _ fun b2 b3 b4 b5 b6 b7 xs => ?_⟩
      have ht := trimS_app hc xs
      rw [hl] at ht
      refine ⟨(trimL 4 [some (.ref 0), some (.int c), b2, b3, b4, b5, b6, b7], s), by unfold turnEnd; rw [if_pos rfl, ht]; rfl, rfl, ?_⟩
      exact ⟨_, _, _, _, _, _, _, rfl⟩
    · rintro ρ s ⟨rfl, a1, a2, a3, a4, a5, a6, a7, rfl⟩
      refine ⟨hs, ?_⟩
      unfold endF
      dsimp only
      rw [if_pos (by rfl), hf]
      rfl
  obtain ⟨t, st, e, rfl⟩ := wp_iff.mp goal
  exact ⟨st, e⟩
end K02

namespace K02
open PySem L2 Ev
theorem all_mk {l : PySem.W.OpenLaw} {w : World} {K : PySem.W.Frag} {h : Heap} {mg : Str → Option Value} {fa : Addr} {f0 f1 f2 f3 f4 f5 f6 f7 f8 f9 f10 f11 f12 f13 f14 f15 : Addr} {od0 an0 od1 an1 od2 an2 od3 an3 od4 an4 od5 an5 od6 an6 od7 an7 od8 an8 od9 an9 od10 an10 od11 an11 od12 an12 od13 an13 od14 an14 od15 an15 : Option Addr} {sl0 sl1 sl2 sl3 sl4 sl5 sl6 sl7 sl8 sl9 sl10 sl11 sl12 sl13 sl14 sl15 : Array (Option Value)} {oc0 kV0 dc0 pm0 cd0 ct0 oc1 kV1 dc1 pm1 cd1 ct1 oc2 kV2 dc2 pm2 cd2 ct2 oc3 kV3 dc3 pm3 cd3 ct3 oc4 kV4 dc4 pm4 cd4 ct4 oc5 kV5 dc5 pm5 cd5 ct5 oc6 kV6 dc6 pm6 cd6 ct6 oc7 kV7 dc7 pm7 cd7 ct7 oc8 kV8 dc8 pm8 cd8 ct8 oc9 kV9 dc9 pm9 cd9 ct9 oc10 kV10 dc10 pm10 cd10 ct10 oc11 kV11 dc11 pm11 cd11 ct11 oc12 kV12 dc12 pm12 cd12 ct12 oc13 kV13 dc13 pm13 cd13 ct13 oc14 kV14 dc14 pm14 cd14 ct14 oc15 kV15 dc15 pm15 cd15 ct15 : Value} (X : K.In h) (G : h.Ns mainGlobals mg) (hfa : mg "law" = some (.ref fa))
    (a_is_whole : PySem.W.nsIn K mainGlobals "is_whole" = some (some (.ref f0))) (l_is_whole : K.lookup f0 = some ⟨oc0, od0, .func (PySem.W.fnOf "is_whole" "is_whole" (defArgs (top 5)) (defBody (top 5)) (defScope (top 5)) .none kV0 dc0 pm0 an0 cd0 ct0), sl0⟩) (c_is_whole : PySem.W.codeIn K cd0 "is_whole" = true) (k_is_whole : PySem.W.keepIn K (.ref f0) = true)
    (a_greatest_common : PySem.W.nsIn K mainGlobals "greatest_common" = some (some (.ref f1))) (l_greatest_common : K.lookup f1 = some ⟨oc1, od1, .func (PySem.W.fnOf "greatest_common" "greatest_common" (defArgs (top 6)) (defBody (top 6)) (defScope (top 6)) .none kV1 dc1 pm1 an1 cd1 ct1), sl1⟩) (c_greatest_common : PySem.W.codeIn K cd1 "greatest_common" = true) (k_greatest_common : PySem.W.keepIn K (.ref f1) = true)
    (a_is_ratio : PySem.W.nsIn K mainGlobals "is_ratio" = some (some (.ref f2))) (l_is_ratio : K.lookup f2 = some ⟨oc2, od2, .func (PySem.W.fnOf "is_ratio" "is_ratio" (defArgs (top 7)) (defBody (top 7)) (defScope (top 7)) .none kV2 dc2 pm2 an2 cd2 ct2), sl2⟩) (c_is_ratio : PySem.W.codeIn K cd2 "is_ratio" = true) (k_is_ratio : PySem.W.keepIn K (.ref f2) = true)
    (a_ratio_of : PySem.W.nsIn K mainGlobals "ratio_of" = some (some (.ref f3))) (l_ratio_of : K.lookup f3 = some ⟨oc3, od3, .func (PySem.W.fnOf "ratio_of" "ratio_of" (defArgs (top 8)) (defBody (top 8)) (defScope (top 8)) .none kV3 dc3 pm3 an3 cd3 ct3), sl3⟩) (c_ratio_of : PySem.W.codeIn K cd3 "ratio_of" = true) (k_ratio_of : PySem.W.keepIn K (.ref f3) = true)
    (a_ratio_plus : PySem.W.nsIn K mainGlobals "ratio_plus" = some (some (.ref f4))) (l_ratio_plus : K.lookup f4 = some ⟨oc4, od4, .func (PySem.W.fnOf "ratio_plus" "ratio_plus" (defArgs (top 9)) (defBody (top 9)) (defScope (top 9)) .none kV4 dc4 pm4 an4 cd4 ct4), sl4⟩) (c_ratio_plus : PySem.W.codeIn K cd4 "ratio_plus" = true) (k_ratio_plus : PySem.W.keepIn K (.ref f4) = true)
    (a_ratio_times : PySem.W.nsIn K mainGlobals "ratio_times" = some (some (.ref f5))) (l_ratio_times : K.lookup f5 = some ⟨oc5, od5, .func (PySem.W.fnOf "ratio_times" "ratio_times" (defArgs (top 10)) (defBody (top 10)) (defScope (top 10)) .none kV5 dc5 pm5 an5 cd5 ct5), sl5⟩) (c_ratio_times : PySem.W.codeIn K cd5 "ratio_times" = true) (k_ratio_times : PySem.W.keepIn K (.ref f5) = true)
    (a_ratio_over : PySem.W.nsIn K mainGlobals "ratio_over" = some (some (.ref f6))) (l_ratio_over : K.lookup f6 = some ⟨oc6, od6, .func (PySem.W.fnOf "ratio_over" "ratio_over" (defArgs (top 11)) (defBody (top 11)) (defScope (top 11)) .none kV6 dc6 pm6 an6 cd6 ct6), sl6⟩) (c_ratio_over : PySem.W.codeIn K cd6 "ratio_over" = true) (k_ratio_over : PySem.W.keepIn K (.ref f6) = true)
    (a_law_mixed : PySem.W.nsIn K mainGlobals "_law_mixed" = some (some (.ref f7))) (l_law_mixed : K.lookup f7 = some ⟨oc7, od7, .func (PySem.W.fnOf "_law_mixed" "_law_mixed" (defArgs (top 13)) (defBody (top 13)) (defScope (top 13)) .none kV7 dc7 pm7 an7 cd7 ct7), sl7⟩) (c_law_mixed : PySem.W.codeIn K cd7 "_law_mixed" = true) (k_law_mixed : PySem.W.keepIn K (.ref f7) = true)
    (a_law_draws : PySem.W.nsIn K mainGlobals "_law_draws" = some (some (.ref f8))) (l_law_draws : K.lookup f8 = some ⟨oc8, od8, .func (PySem.W.fnOf "_law_draws" "_law_draws" (defArgs (top 14)) (defBody (top 14)) (defScope (top 14)) .none kV8 dc8 pm8 an8 cd8 ct8), sl8⟩) (c_law_draws : PySem.W.codeIn K cd8 "_law_draws" = true) (k_law_draws : PySem.W.keepIn K (.ref f8) = true)
    (a_law_sized : PySem.W.nsIn K mainGlobals "_law_sized" = some (some (.ref f9))) (l_law_sized : K.lookup f9 = some ⟨oc9, od9, .func (PySem.W.fnOf "_law_sized" "_law_sized" (defArgs (top 15)) (defBody (top 15)) (defScope (top 15)) .none kV9 dc9 pm9 an9 cd9 ct9), sl9⟩) (c_law_sized : PySem.W.codeIn K cd9 "_law_sized" = true) (k_law_sized : PySem.W.keepIn K (.ref f9) = true)
    (a_law_common : PySem.W.nsIn K mainGlobals "_law_common" = some (some (.ref f10))) (l_law_common : K.lookup f10 = some ⟨oc10, od10, .func (PySem.W.fnOf "_law_common" "_law_common" (defArgs (top 16)) (defBody (top 16)) (defScope (top 16)) .none kV10 dc10 pm10 an10 cd10 ct10), sl10⟩) (c_law_common : PySem.W.codeIn K cd10 "_law_common" = true) (k_law_common : PySem.W.keepIn K (.ref f10) = true)
    (a_law_drawn : PySem.W.nsIn K mainGlobals "_law_drawn" = some (some (.ref f11))) (l_law_drawn : K.lookup f11 = some ⟨oc11, od11, .func (PySem.W.fnOf "_law_drawn" "_law_drawn" (defArgs (top 17)) (defBody (top 17)) (defScope (top 17)) .none kV11 dc11 pm11 an11 cd11 ct11), sl11⟩) (c_law_drawn : PySem.W.codeIn K cd11 "_law_drawn" = true) (k_law_drawn : PySem.W.keepIn K (.ref f11) = true)
    (a_law_stands : PySem.W.nsIn K mainGlobals "_law_stands" = some (some (.ref f12))) (l_law_stands : K.lookup f12 = some ⟨oc12, od12, .func (PySem.W.fnOf "_law_stands" "_law_stands" (defArgs (top 18)) (defBody (top 18)) (defScope (top 18)) .none kV12 dc12 pm12 an12 cd12 ct12), sl12⟩) (c_law_stands : PySem.W.codeIn K cd12 "_law_stands" = true) (k_law_stands : PySem.W.keepIn K (.ref f12) = true)
    (a_law_refused : PySem.W.nsIn K mainGlobals "_law_refused" = some (some (.ref f13))) (l_law_refused : K.lookup f13 = some ⟨oc13, od13, .func (PySem.W.fnOf "_law_refused" "_law_refused" (defArgs (top 19)) (defBody (top 19)) (defScope (top 19)) .none kV13 dc13 pm13 an13 cd13 ct13), sl13⟩) (c_law_refused : PySem.W.codeIn K cd13 "_law_refused" = true) (k_law_refused : PySem.W.keepIn K (.ref f13) = true)
    (a_law_right : PySem.W.nsIn K mainGlobals "_law_right" = some (some (.ref f14))) (l_law_right : K.lookup f14 = some ⟨oc14, od14, .func (PySem.W.fnOf "_law_right" "_law_right" (defArgs (top 20)) (defBody (top 20)) (defScope (top 20)) .none kV14 dc14 pm14 an14 cd14 ct14), sl14⟩) (c_law_right : PySem.W.codeIn K cd14 "_law_right" = true) (k_law_right : PySem.W.keepIn K (.ref f14) = true)
    (a_law : PySem.W.nsIn K mainGlobals "law" = some (some (.ref f15))) (l_law : K.lookup f15 = some ⟨oc15, od15, .func (PySem.W.fnOf "law" "law" (defArgs (top 21)) (defBody (top 21)) (defScope (top 21)) .none kV15 dc15 pm15 an15 cd15 ct15), sl15⟩) (c_law : PySem.W.codeIn K cd15 "law" = true) (k_law : PySem.W.keepIn K (.ref f15) = true)
    (z_abs : PySem.W.nsIn K mainGlobals "abs" = some none)
    (z_all : PySem.W.nsIn K mainGlobals "all" = some none)
    (z_bool : PySem.W.nsIn K mainGlobals "bool" = some none)
    (z_int : PySem.W.nsIn K mainGlobals "int" = some none)
    (z_isinstance : PySem.W.nsIn K mainGlobals "isinstance" = some none)
    (z_len : PySem.W.nsIn K mainGlobals "len" = some none)
    (z_max : PySem.W.nsIn K mainGlobals "max" = some none)
    (z_range : PySem.W.nsIn K mainGlobals "range" = some none)
    (z_tuple : PySem.W.nsIn K mainGlobals "tuple" = some none)
    (x_ratio_of : (([1] : List Nat).all fun d => (xcs K).contains d) = true)
    (x_law_refused : (([0, 1, 2] : List Nat).all fun d => (xcs K).contains d) = true)
    (xf : xfacts K = true)
    (hl : ∀ ns : List Int, ns.length ≤ 63 → ∃ st', s_law [.ref 0] [.fz (ns.map T.int)] = some (.ok (.bl true) st')) :
    ∃ fd : FuncData, (∀ (s : Shared) (v : Value), BindsTo s fd ⟨[v], []⟩ [("script", v)]) ∧ ∀ base : Heap, K.In base → base.Ns mainGlobals mg → FnOk l.prog w K mg base (CXE l.prog w K) 6 fa fd ["script"] (spLaw K) := by
  have e := hfa.symm.trans (PySem.W.mg_of X G a_law)
  cases e
  have XF := XFs.of xf
  have XM : ∀ d ∈ xcs K, mg (xname d) = some (.ref (cA K d)) := fun d hd => PySem.W.mg_of X G (XF.ns d hd)
  have mz_abs : mg "abs" = none := PySem.W.mg_none_of X G z_abs
  have mz_all : mg "all" = none := PySem.W.mg_none_of X G z_all
  have mz_bool : mg "bool" = none := PySem.W.mg_none_of X G z_bool
  have mz_int : mg "int" = none := PySem.W.mg_none_of X G z_int
  have mz_isinstance : mg "isinstance" = none := PySem.W.mg_none_of X G z_isinstance
  have mz_len : mg "len" = none := PySem.W.mg_none_of X G z_len
  have mz_max : mg "max" = none := PySem.W.mg_none_of X G z_max
  have mz_range : mg "range" = none := PySem.W.mg_none_of X G z_range
  have mz_tuple : mg "tuple" = none := PySem.W.mg_none_of X G z_tuple
  have F_is_whole := fun_mk (st := top 5) l_is_whole c_is_whole k_is_whole
  have m_is_whole := PySem.W.mg_of X G a_is_whole
  have B_is_whole := F_is_whole.binds (ps := ["thing"]) fun _ _ _ _ _ _ us hl => match us, hl with | [_], _ => rfl
  have F_greatest_common := fun_mk (st := top 6) l_greatest_common c_greatest_common k_greatest_common
  have m_greatest_common := PySem.W.mg_of X G a_greatest_common
  have B_greatest_common := F_greatest_common.binds (ps := ["one", "other"]) fun _ _ _ _ _ _ us hl => match us, hl with | [_, _], _ => rfl
  have F_is_ratio := fun_mk (st := top 7) l_is_ratio c_is_ratio k_is_ratio
  have m_is_ratio := PySem.W.mg_of X G a_is_ratio
  have B_is_ratio := F_is_ratio.binds (ps := ["thing"]) fun _ _ _ _ _ _ us hl => match us, hl with | [_], _ => rfl
  have F_ratio_of := fun_mk (st := top 8) l_ratio_of c_ratio_of k_ratio_of
  have m_ratio_of := PySem.W.mg_of X G a_ratio_of
  have B_ratio_of := F_ratio_of.binds (ps := ["top", "bottom"]) fun _ _ _ _ _ _ us hl => match us, hl with | [_, _], _ => rfl
  have F_ratio_plus := fun_mk (st := top 9) l_ratio_plus c_ratio_plus k_ratio_plus
  have m_ratio_plus := PySem.W.mg_of X G a_ratio_plus
  have B_ratio_plus := F_ratio_plus.binds (ps := ["one", "other"]) fun _ _ _ _ _ _ us hl => match us, hl with | [_, _], _ => rfl
  have F_ratio_times := fun_mk (st := top 10) l_ratio_times c_ratio_times k_ratio_times
  have m_ratio_times := PySem.W.mg_of X G a_ratio_times
  have B_ratio_times := F_ratio_times.binds (ps := ["one", "other"]) fun _ _ _ _ _ _ us hl => match us, hl with | [_, _], _ => rfl
  have F_ratio_over := fun_mk (st := top 11) l_ratio_over c_ratio_over k_ratio_over
  have m_ratio_over := PySem.W.mg_of X G a_ratio_over
  have B_ratio_over := F_ratio_over.binds (ps := ["one", "other"]) fun _ _ _ _ _ _ us hl => match us, hl with | [_, _], _ => rfl
  have F_law_mixed := fun_mk (st := top 13) l_law_mixed c_law_mixed k_law_mixed
  have m_law_mixed := PySem.W.mg_of X G a_law_mixed
  have B_law_mixed := F_law_mixed.binds (ps := ["cell", "k"]) fun _ _ _ _ _ _ us hl => match us, hl with | [_, _], _ => rfl
  have F_law_draws := fun_mk (st := top 14) l_law_draws c_law_draws k_law_draws
  have m_law_draws := PySem.W.mg_of X G a_law_draws
  have B_law_draws := F_law_draws.binds (ps := ["cell", "many", "base"]) fun _ _ _ _ _ _ us hl => match us, hl with | [_, _, _], _ => rfl
  have F_law_sized := fun_mk (st := top 15) l_law_sized c_law_sized k_law_sized
  have m_law_sized := PySem.W.mg_of X G a_law_sized
  have B_law_sized := F_law_sized.binds (ps := ["number", "way"]) fun _ _ _ _ _ _ us hl => match us, hl with | [_, _], _ => rfl
  have F_law_common := fun_mk (st := top 16) l_law_common c_law_common k_law_common
  have m_law_common := PySem.W.mg_of X G a_law_common
  have B_law_common := F_law_common.binds (ps := ["one", "other"]) fun _ _ _ _ _ _ us hl => match us, hl with | [_, _], _ => rfl
  have F_law_drawn := fun_mk (st := top 17) l_law_drawn c_law_drawn k_law_drawn
  have m_law_drawn := PySem.W.mg_of X G a_law_drawn
  have B_law_drawn := F_law_drawn.binds (ps := ["draws", "at"]) fun _ _ _ _ _ _ us hl => match us, hl with | [_, _], _ => rfl
  have F_law_stands := fun_mk (st := top 18) l_law_stands c_law_stands k_law_stands
  have m_law_stands := PySem.W.mg_of X G a_law_stands
  have B_law_stands := F_law_stands.binds (ps := ["found", "top", "bottom"]) fun _ _ _ _ _ _ us hl => match us, hl with | [_, _, _], _ => rfl
  have F_law_refused := fun_mk (st := top 19) l_law_refused c_law_refused k_law_refused
  have m_law_refused := PySem.W.mg_of X G a_law_refused
  have B_law_refused := F_law_refused.binds (ps := ["one"]) fun _ _ _ _ _ _ us hl => match us, hl with | [_], _ => rfl
  have F_law_right := fun_mk (st := top 20) l_law_right c_law_right k_law_right
  have m_law_right := PySem.W.mg_of X G a_law_right
  have B_law_right := F_law_right.binds (ps := ["one", "other"]) fun _ _ _ _ _ _ us hl => match us, hl with | [_, _], _ => rfl
  have F_law := fun_mk (st := top 21) l_law c_law k_law
  have m_law := PySem.W.mg_of X G a_law
  have B_law := F_law.binds (ps := ["script"]) fun _ _ _ _ _ _ us hl => match us, hl with | [_], _ => rfl
  refine ⟨PySem.W.fnOf "law" "law" (defArgs (top 21)) (defBody (top 21)) (defScope (top 21)) .none kV15 dc15 pm15 an15 cd15 ct15, fun s v => .of_eq rfl, fun base _ _ => ?_⟩
  have K_is_whole : FnOk l.prog w K mg base (CXE l.prog w K) 1 _ _ ["thing"] (spOf K s_is_whole) := fn_sound (k := 0) F_is_whole sc_is_whole hb_is_whole ok_is_whole rfl rfl
    (fun p hp => by
      simp only [List.mem_cons, List.not_mem_nil, or_false] at hp
      rcases hp with rfl | rfl | rfl
      · exact mz_bool
      · exact mz_int
      · exact mz_isinstance)
    (fun p hp => by cases hp)
    (fun p hp => by cases hp)
    XF XM rfl
  have K_greatest_common : FnOk l.prog w K mg base (CXE l.prog w K) 1 _ _ ["one", "other"] (spOf K s_greatest_common) := fn_sound (k := 0) F_greatest_common sc_greatest_common hb_greatest_common ok_greatest_common rfl rfl
    (fun p hp => by
      simp only [List.mem_cons, List.not_mem_nil, or_false] at hp
      subst hp; exact mz_abs)
    (fun p hp => by cases hp)
    (fun p hp => by cases hp)
    XF XM rfl
  have K_is_ratio : FnOk l.prog w K mg base (CXE l.prog w K) 2 _ _ ["thing"] (spOf K s_is_ratio) := fn_sound (k := 1) F_is_ratio sc_is_ratio hb_is_ratio ok_is_ratio rfl rfl
    (fun p hp => by
      simp only [List.mem_cons, List.not_mem_nil, or_false] at hp
      rcases hp with rfl | rfl | rfl
      · exact mz_isinstance
      · exact mz_len
      · exact mz_tuple)
    (fun p hp => by cases hp)
    (fun p hp => by
      simp only [List.mem_cons, List.not_mem_nil, or_false] at hp
      rcases hp with rfl | rfl
      · exact Has.mk' K_greatest_common m_greatest_common k_greatest_common B_greatest_common (by decide)
      · exact Has.mk' K_is_whole m_is_whole k_is_whole B_is_whole (by decide))
    XF XM rfl
  have K_ratio_of : FnOk l.prog w K mg base (CXE l.prog w K) 2 _ _ ["top", "bottom"] (spOf K s_ratio_of) := fn_sound (k := 1) F_ratio_of sc_ratio_of hb_ratio_of ok_ratio_of rfl rfl
    (fun p hp => by cases hp)
    (fun p hp => by cases hp)
    (fun p hp => by
      simp only [List.mem_cons, List.not_mem_nil, or_false] at hp
      subst hp; exact Has.mk' K_greatest_common m_greatest_common k_greatest_common B_greatest_common (by decide))
    XF XM x_ratio_of
  have K_ratio_plus : FnOk l.prog w K mg base (CXE l.prog w K) 3 _ _ ["one", "other"] (spOf K s_ratio_plus) := fn_sound (k := 2) F_ratio_plus sc_ratio_plus hb_ratio_plus ok_ratio_plus rfl rfl
    (fun p hp => by cases hp)
    (fun p hp => by cases hp)
    (fun p hp => by
      simp only [List.mem_cons, List.not_mem_nil, or_false] at hp
      subst hp; exact Has.mk' K_ratio_of m_ratio_of k_ratio_of B_ratio_of (by decide))
    XF XM rfl
  have K_ratio_times : FnOk l.prog w K mg base (CXE l.prog w K) 3 _ _ ["one", "other"] (spOf K s_ratio_times) := fn_sound (k := 2) F_ratio_times sc_ratio_times hb_ratio_times ok_ratio_times rfl rfl
    (fun p hp => by cases hp)
    (fun p hp => by cases hp)
    (fun p hp => by
      simp only [List.mem_cons, List.not_mem_nil, or_false] at hp
      subst hp; exact Has.mk' K_ratio_of m_ratio_of k_ratio_of B_ratio_of (by decide))
    XF XM rfl
  have K_ratio_over : FnOk l.prog w K mg base (CXE l.prog w K) 3 _ _ ["one", "other"] (spOf K s_ratio_over) := fn_sound (k := 2) F_ratio_over sc_ratio_over hb_ratio_over ok_ratio_over rfl rfl
    (fun p hp => by cases hp)
    (fun p hp => by cases hp)
    (fun p hp => by
      simp only [List.mem_cons, List.not_mem_nil, or_false] at hp
      subst hp; exact Has.mk' K_ratio_of m_ratio_of k_ratio_of B_ratio_of (by decide))
    XF XM rfl
  have K_law_mixed : FnOk l.prog w K mg base (CXE l.prog w K) 1 _ _ ["cell", "k"] (spOf K s_law_mixed) := fn_sound (k := 0) F_law_mixed sc_law_mixed hb_law_mixed ok_law_mixed rfl rfl
    (fun p hp => by cases hp)
    (fun p hp => by cases hp)
    (fun p hp => by cases hp)
    XF XM rfl
  have K_law_draws : FnOk l.prog w K mg base (CXE l.prog w K) 2 _ _ ["cell", "many", "base"] (spOf K s_law_draws) := fn_sound (k := 1) F_law_draws sc_law_draws hb_law_draws ok_law_draws rfl rfl
    (fun p hp => by
      simp only [List.mem_cons, List.not_mem_nil, or_false] at hp
      rcases hp with rfl | rfl
      · exact mz_int
      · exact mz_range)
    (fun p hp => by cases hp)
    (fun p hp => by
      simp only [List.mem_cons, List.not_mem_nil, or_false] at hp
      subst hp; exact Has.mk' K_law_mixed m_law_mixed k_law_mixed B_law_mixed (by decide))
    XF XM rfl
  have K_law_sized : FnOk l.prog w K mg base (CXE l.prog w K) 1 _ _ ["number", "way"] (spOf K s_law_sized) := fn_sound (k := 0) F_law_sized sc_law_sized hb_law_sized ok_law_sized rfl rfl
    (fun p hp => by cases hp)
    (fun p hp => by cases hp)
    (fun p hp => by cases hp)
    XF XM rfl
  have K_law_common : FnOk l.prog w K mg base (CXE l.prog w K) 1 _ _ ["one", "other"] (spOf K s_law_common) := fn_sound (k := 0) F_law_common sc_law_common hb_law_common ok_law_common rfl rfl
    (fun p hp => by
      simp only [List.mem_cons, List.not_mem_nil, or_false] at hp
      subst hp; exact mz_abs)
    (fun p hp => by cases hp)
    (fun p hp => by cases hp)
    XF XM rfl
  have K_law_drawn : FnOk l.prog w K mg base (CXE l.prog w K) 2 _ _ ["draws", "at"] (spOf K s_law_drawn) := fn_sound (k := 1) F_law_drawn sc_law_drawn hb_law_drawn ok_law_drawn rfl rfl
    (fun p hp => by
      simp only [List.mem_cons, List.not_mem_nil, or_false] at hp
      subst hp; exact mz_max)
    (fun p hp => by cases hp)
    (fun p hp => by
      simp only [List.mem_cons, List.not_mem_nil, or_false] at hp
      rcases hp with rfl | rfl
      · exact Has.mk' K_law_common m_law_common k_law_common B_law_common (by decide)
      · exact Has.mk' K_law_sized m_law_sized k_law_sized B_law_sized (by decide))
    XF XM rfl
  have K_law_stands : FnOk l.prog w K mg base (CXE l.prog w K) 3 _ _ ["found", "top", "bottom"] (spOf K s_law_stands) := fn_sound (k := 2) F_law_stands sc_law_stands hb_law_stands ok_law_stands rfl rfl
    (fun p hp => by cases hp)
    (fun p hp => by cases hp)
    (fun p hp => by
      simp only [List.mem_cons, List.not_mem_nil, or_false] at hp
      rcases hp with rfl | rfl
      · exact Has.mk' K_law_common m_law_common k_law_common B_law_common (by decide)
      · exact Has.mk' K_is_ratio m_is_ratio k_is_ratio B_is_ratio (by decide))
    XF XM rfl
  have K_law_refused : FnOk l.prog w K mg base (CXE l.prog w K) 4 _ _ ["one"] (spOf K s_law_refused) := fn_sound (k := 3) F_law_refused sc_law_refused hb_law_refused ok_law_refused rfl rfl
    (fun p hp => by
      simp only [List.mem_cons, List.not_mem_nil, or_false] at hp
      subst hp; exact mz_isinstance)
    (fun p hp => by cases hp)
    (fun p hp => by
      simp only [List.mem_cons, List.not_mem_nil, or_false] at hp
      subst hp; exact Has.mk' K_ratio_over m_ratio_over k_ratio_over B_ratio_over (by decide))
    XF XM x_law_refused
  have K_law_right : FnOk l.prog w K mg base (CXE l.prog w K) 5 _ _ ["one", "other"] (spOf K s_law_right) := fn_sound (k := 4) F_law_right sc_law_right hb_law_right ok_law_right rfl rfl
    (fun p hp => by cases hp)
    (fun p hp => by cases hp)
    (fun p hp => by
      simp only [List.mem_cons, List.not_mem_nil, or_false] at hp
      rcases hp with rfl | rfl | rfl | rfl | rfl
      · exact Has.mk' K_law_refused m_law_refused k_law_refused B_law_refused (by decide)
      · exact Has.mk' K_law_stands m_law_stands k_law_stands B_law_stands (by decide)
      · exact Has.mk' K_ratio_over m_ratio_over k_ratio_over B_ratio_over (by decide)
      · exact Has.mk' K_ratio_plus m_ratio_plus k_ratio_plus B_ratio_plus (by decide)
      · exact Has.mk' K_ratio_times m_ratio_times k_ratio_times B_ratio_times (by decide))
    XF XM rfl
  have K_law : FnOk l.prog w K mg base (CXE l.prog w K) 6 _ _ ["script"] (spOf K s_law) := fn_sound (k := 5) F_law sc_law hb_law ok_law rfl rfl
    (fun p hp => by
      simp only [List.mem_cons, List.not_mem_nil, or_false] at hp
      rcases hp with rfl | rfl
      · exact mz_all
      · exact mz_len)
    (fun p hp => by cases hp)
    (fun p hp => by
      simp only [List.mem_cons, List.not_mem_nil, or_false] at hp
      rcases hp with rfl | rfl | rfl | rfl | rfl
      · exact Has.mk' K_law_drawn m_law_drawn k_law_drawn B_law_drawn (by decide)
      · exact Has.mk' K_law_draws m_law_draws k_law_draws B_law_draws (by decide)
      · exact Has.mk' K_law_right m_law_right k_law_right B_law_right (by decide)
      · exact Has.mk' K_ratio_plus m_ratio_plus k_ratio_plus B_ratio_plus (by decide)
      · exact Has.mk' K_ratio_times m_ratio_times k_ratio_times B_ratio_times (by decide))
    XF XM rfl
  exact law_sound K_law hl
end K02
open PySem PySem.W PyProof.Rows
set_option maxRecDepth 100000 in
set_option maxHeartbeats 0 in
theorem PySem.Challenge.cw_farshells_k02_ratios_reckoned_holds : PySem.Challenge.rw_farshells_k02_ratios_reckoned.Holds := by
  w_on; o_law; k_head; (case hw => w_witness2)
  k_fill
  refine Ev.walk (k := 6) (l := PySem.Challenge.rw_farshells_k02_ratios_reckoned) rfl rfl ⟨rfl, by decide, by decide⟩ (fun w h Y => PySem.W.kIn_of Y) ?F
  case F =>
    intro w mg fa h KX G hmg
    refine' K02.all_mk KX G hmg ?a_is_whole ?l_is_whole ?c_is_whole ?k_is_whole ?a_greatest_common ?l_greatest_common ?c_greatest_common ?k_greatest_common ?a_is_ratio ?l_is_ratio ?c_is_ratio ?k_is_ratio ?a_ratio_of ?l_ratio_of ?c_ratio_of ?k_ratio_of ?a_ratio_plus ?l_ratio_plus ?c_ratio_plus ?k_ratio_plus ?a_ratio_times ?l_ratio_times ?c_ratio_times ?k_ratio_times ?a_ratio_over ?l_ratio_over ?c_ratio_over ?k_ratio_over ?a_law_mixed ?l_law_mixed ?c_law_mixed ?k_law_mixed ?a_law_draws ?l_law_draws ?c_law_draws ?k_law_draws ?a_law_sized ?l_law_sized ?c_law_sized ?k_law_sized ?a_law_common ?l_law_common ?c_law_common ?k_law_common ?a_law_drawn ?l_law_drawn ?c_law_drawn ?k_law_drawn ?a_law_stands ?l_law_stands ?c_law_stands ?k_law_stands ?a_law_refused ?l_law_refused ?c_law_refused ?k_law_refused ?a_law_right ?l_law_right ?c_law_right ?k_law_right ?a_law ?l_law ?c_law ?k_law ?z_abs ?z_all ?z_bool ?z_int ?z_isinstance ?z_len ?z_max ?z_range ?z_tuple ?x_ratio_of ?x_law_refused ?xf K02.main
    (case a_is_whole => k_is)
    (case l_is_whole => k_is)
    (case c_is_whole => k_is)
    (case k_is_whole => k_is)
    (case a_greatest_common => k_is)
    (case l_greatest_common => k_is)
    (case c_greatest_common => k_is)
    (case k_greatest_common => k_is)
    (case a_is_ratio => k_is)
    (case l_is_ratio => k_is)
    (case c_is_ratio => k_is)
    (case k_is_ratio => k_is)
    (case a_ratio_of => k_is)
    (case l_ratio_of => k_is)
    (case c_ratio_of => k_is)
    (case k_ratio_of => k_is)
    (case a_ratio_plus => k_is)
    (case l_ratio_plus => k_is)
    (case c_ratio_plus => k_is)
    (case k_ratio_plus => k_is)
    (case a_ratio_times => k_is)
    (case l_ratio_times => k_is)
    (case c_ratio_times => k_is)
    (case k_ratio_times => k_is)
    (case a_ratio_over => k_is)
    (case l_ratio_over => k_is)
    (case c_ratio_over => k_is)
    (case k_ratio_over => k_is)
    (case a_law_mixed => k_is)
    (case l_law_mixed => k_is)
    (case c_law_mixed => k_is)
    (case k_law_mixed => k_is)
    (case a_law_draws => k_is)
    (case l_law_draws => k_is)
    (case c_law_draws => k_is)
    (case k_law_draws => k_is)
    (case a_law_sized => k_is)
    (case l_law_sized => k_is)
    (case c_law_sized => k_is)
    (case k_law_sized => k_is)
    (case a_law_common => k_is)
    (case l_law_common => k_is)
    (case c_law_common => k_is)
    (case k_law_common => k_is)
    (case a_law_drawn => k_is)
    (case l_law_drawn => k_is)
    (case c_law_drawn => k_is)
    (case k_law_drawn => k_is)
    (case a_law_stands => k_is)
    (case l_law_stands => k_is)
    (case c_law_stands => k_is)
    (case k_law_stands => k_is)
    (case a_law_refused => k_is)
    (case l_law_refused => k_is)
    (case c_law_refused => k_is)
    (case k_law_refused => k_is)
    (case a_law_right => k_is)
    (case l_law_right => k_is)
    (case c_law_right => k_is)
    (case k_law_right => k_is)
    (case a_law => k_is)
    (case l_law => k_is)
    (case c_law => k_is)
    (case k_law => k_is)
    (case z_abs => k_is)
    (case z_all => k_is)
    (case z_bool => k_is)
    (case z_int => k_is)
    (case z_isinstance => k_is)
    (case z_len => k_is)
    (case z_max => k_is)
    (case z_range => k_is)
    (case z_tuple => k_is)
    (case x_ratio_of => kernel_rfl)
    (case x_law_refused => kernel_rfl)
    (case xf => kernel_rfl)

import PyProof.Rows.All
import Wide.All
import OpenK.AllK
import Wide.FinOn
import Lean
import PyProof.EqAt
import PyProof.EqKinds
import PyProof.TupleCall
import KE.KTurnsDict
import KE.KPairComp
import KE.KIntText
import PySem.Challenge.RW_belowpoints_k04_whole_texts_and_places
-- CHANGE: your row's module here, as the last of these rows
set_option Elab.async false
set_option linter.all false
set_option maxRecDepth 100000
namespace L2
open PySem PySem.Spec PyProof.Rows

/-- a key: an int or a str -/
abbrev Key := Sum Int Str
def keyIs : Key → Value → Bool
  | .inl k, v => Value.isInt k v
  | .inr x, v => Value.isStrOf x v
def keyH (w : World) : Key → Int
  | .inl k => hashInt k
  | .inr x => hashStr w x
theorem keyIs_shape : ∀ {k : Key} {v : Value}, keyIs k v = true → (∃ i t, k = Sum.inl i ∧ v = Value.int i t) ∨ (∃ x t, k = Sum.inr x ∧ v = Value.str x t)
  | .inl i, v, h => by
    obtain ⟨t, e⟩ := Value.isInt_shape (k := i) (v := v) h
    exact .inl ⟨i, t, rfl, e⟩
  | .inr x, v, h => by
    obtain ⟨t, e⟩ := Value.isStrOf_shape (x := x) (v := v) h
    exact .inr ⟨x, t, rfl, e⟩
theorem keyIs_int (i : Int) (t : Tok) : keyIs (.inl i) (.int i t) = true := by simp [keyIs, Value.isInt]
theorem keyIs_str (x : Str) (t : Tok) : keyIs (.inr x) (.str x t) = true := by simp [keyIs, Value.isStrOf]
theorem key_ll (a b : Int) : decide ((Sum.inl a : Key) = Sum.inl b) = (a == b) := by
  by_cases e : a = b
  · subst e; simp
  · have h : ¬ (Sum.inl a : Key) = Sum.inl b := fun q => e (Sum.inl.inj q)
    rw [decide_eq_false h]
    exact (beq_eq_false_iff_ne.mpr e).symm
theorem key_rr (a b : Str) : decide ((Sum.inr a : Key) = Sum.inr b) = decide (a = b) := by
  by_cases e : a = b
  · subst e; simp
  · have h : ¬ (Sum.inr a : Key) = Sum.inr b := fun q => e (Sum.inr.inj q)
    rw [decide_eq_false h, decide_eq_false e]
theorem key_lr (a : Int) (b : Str) : decide ((Sum.inl a : Key) = Sum.inr b) = false := decide_eq_false (fun q => nomatch q)
theorem key_rl (a : Str) (b : Int) : decide ((Sum.inr a : Key) = Sum.inl b) = false := decide_eq_false (fun q => nomatch q)

def mixKind (prog : Program) (w : World) : PySem.KeyKind prog w Key where
  is := keyIs
  hash := keyH w
  inj := fun v a b ha hb => by
    rcases keyIs_shape ha with ⟨i, t, rfl, rfl⟩ | ⟨x, t, rfl, rfl⟩
    · rcases keyIs_shape hb with ⟨j, u, rfl, e⟩ | ⟨y, u, rfl, e⟩
      · injection e with e1 _; rw [e1]
      · exact nomatch e
    · rcases keyIs_shape hb with ⟨j, u, rfl, e⟩ | ⟨y, u, rfl, e⟩
      · exact nomatch e
      · injection e with e1 _; rw [e1]
  byValue := fun k v h => by
    rcases keyIs_shape h with ⟨i, t, rfl, rfl⟩ | ⟨x, t, rfl, rfl⟩ <;> rfl
  pyHash := fun hv h => by
    rcases keyIs_shape hv with ⟨i, t, rfl, rfl⟩ | ⟨x, t, rfl, rfl⟩
    · exact wpAny_pyHash_int h
    · exact wpAny_pyHash_str h
  eqBool := fun hu hv h => by
    rcases keyIs_shape hu with ⟨i, t, rfl, rfl⟩ | ⟨x, t, rfl, rfl⟩
    · rcases keyIs_shape hv with ⟨j, u, rfl, rfl⟩ | ⟨y, u, rfl, rfl⟩
      · rw [key_ll] at h; exact wpAny_eqBool_int h
      · rw [key_lr] at h; exact SeqAt.EqAt.int_str i t y u _ _ _ _ h
    · rcases keyIs_shape hv with ⟨j, u, rfl, rfl⟩ | ⟨y, u, rfl, rfl⟩
      · rw [key_rl] at h; exact SeqAt.EqAt.str_int x t j u _ _ _ _ h
      · rw [key_rr] at h; exact wpAny_eqBool_str h
  «strs» := fun k x t v h => by
    rcases keyIs_shape h with ⟨i, u, rfl, e⟩ | ⟨y, u, rfl, e⟩
    · exact nomatch e
    · injection e with e1 _
      subst e1
      cases v <;> rfl

theorem mixKind_int (prog : Program) (w : World) (i : Int) (t : Tok) : (mixKind prog w).is (.inl i) (.int i t) = true := keyIs_int i t
theorem mixKind_str (prog : Program) (w : World) (x : Str) (t : Tok) : (mixKind prog w).is (.inr x) (.str x t) = true := keyIs_str x t
end L2

namespace L2
open PySem PySem.Spec PyProof.Rows

inductive V where
  | non | bl (b : Bool) | int (i : Int) | str (x : Str) | byt (b : Array UInt8) | flt (b : UInt64) | ref (a : Addr) | ty (n : String)
  deriving DecidableEq

def RelV : V → Value → Prop
  | .non, u => u = Value.none
  | .bl b, u => u = Value.bool b
  | .int i, u => ∃ t, u = Value.int i t
  | .str x, u => ∃ t, u = Value.str x t
  | .byt b, u => ∃ t, u = Value.bytes b t
  | .flt b, u => ∃ t, u = Value.float b t
  | .ref a, u => u = Value.ref a
  | .ty n, u => u = Value.type n

abbrev Vals : List V → List Value → Prop := Paired RelV
theorem Vals.length {xs : List V} {us : List Value} (r : Vals xs us) : xs.length = us.length := Paired.length r
theorem Vals.get : ∀ {xs : List V} {us : List Value} {i : Nat} {x : V}, Vals xs us → xs[i]? = some x → ∃ u, us[i]? = some u ∧ RelV x u
  | _, _, _, _, .nil, e => by simp at e
  | _, _, 0, _, .cons r _, e => by simp at e; subst e; exact ⟨_, rfl, r⟩
  | _, _, i + 1, x, .cons _ t, e => by
    obtain ⟨u, h1, h2⟩ := Vals.get (i := i) (x := x) t (by simpa using e)
    exact ⟨u, by simpa using h1, h2⟩
theorem Vals.set {x : V} {u : Value} (r : RelV x u) : ∀ {xs : List V} {us : List Value} (i : Nat), Vals xs us → Vals (xs.set i x) (us.set i u)
  | _, _, _, .nil => .nil
  | _, _, 0, .cons _ t => .cons r t
  | _, _, i + 1, .cons q t => .cons q (Vals.set r i t)
theorem Vals.append : ∀ {xs ys : List V} {us ws : List Value}, Vals xs us → Vals ys ws → Vals (xs ++ ys) (us ++ ws)
  | _, _, _, _, .nil, s => s
  | _, _, _, _, .cons r t, s => .cons r (Vals.append t s)
theorem Vals.take : ∀ {xs : List V} {us : List Value} (n : Nat), Vals xs us → Vals (xs.take n) (us.take n)
  | _, _, 0, _ => .nil
  | _, _, _ + 1, .nil => .nil
  | _, _, n + 1, .cons r t => .cons r (Vals.take n t)
theorem Vals.drop : ∀ {xs : List V} {us : List Value} (n : Nat), Vals xs us → Vals (xs.drop n) (us.drop n)
  | _, _, 0, r => r
  | _, _, _ + 1, .nil => .nil
  | _, _, n + 1, .cons _ t => Vals.drop n t
def RelO : Option V → Option Value → Prop
  | some v, some u => RelV v u
  | none, none => True
  | _, _ => False
def KV {κ : Type} : List (κ × V) → List (κ × Value) → Prop := Paired fun (p : κ × V) (q : κ × Value) => p.1 = q.1 ∧ RelV p.2 q.2

/-- a key of a dict (00_mix): an int or a text -/
def kV : Key → V
  | .inl i => .int i
  | .inr x => .str x

inductive HO where
  /-- a list -/
  | lst (xs : List V)
  /-- a tuple (never changes) -/
  | tup (xs : List V)
  /-- a dict whose keys are ints and texts; one whose keys are tuples of ints and texts (the empty one is both) -/
  | dK (kvs : List (Key × V)) | dT (kvs : List (List Key × V))
  /-- a set of ints: its members, its size -/
  | set (S : Int → Bool) (n : Nat)
  /-- an instance of the class at C, its dict at dx, its attributes -/
  | ins (C dx : Addr) (fs : List (Str × V))
  /-- the dict of the instance at x -/
  | own (x : Addr)
  /-- the dict of an exception -/
  | xd (fs : List (Str × V))
  /-- a bound method, f of x -/
  | met (f x : Addr)
  /-- a range object lo, lo + 1, .. below hi -/
  | rng (lo hi : Int)
  /-- a thing that is known to the object (the script; a dict while a loop walks it): read, never written while it is so -/
  | frz (o : Obj) (u : HO)
  /-- a code object's table -/
  | tbl (ps : Array Value)
  /-- any other thing, by what is true of its one object (a def of one's own: SetO a S n := HO.ext fun h => ..) -/
  | ext (φ : Heap → Prop)

abbrev Hp := Addr → Option HO
def upd (H : Hp) (a : Addr) (o : HO) : Hp := fun b => if b = a then some o else H b
theorem upd_same {H : Hp} {a : Addr} {o : HO} : upd H a o a = some o := by unfold upd; rw [if_pos rfl]
theorem upd_ne {H : Hp} {a b : Addr} {o : HO} (h : b ≠ a) : upd H a o b = H b := by unfold upd; rw [if_neg h]
/-- two objects of different content stand apart -/
theorem ne_of {H : Hp} {a b : Addr} {o u : HO} (h : H a = some o) (h' : H b = some u) (d : o ≠ u) : a ≠ b := by
  intro e; subst e; rw [h] at h'; exact d (Option.some.inj h')
theorem ne_of_none {H : Hp} {a b : Addr} {o : HO} (h : H a = some o) (h' : H b = none) : a ≠ b := by
  intro e; subst e; rw [h] at h'; cases h'

section
variable (P : Program) (w : World)
def ObjOk (H : Hp) (h : Heap) (a : Addr) : HO → Prop
  | .lst xs => xs.length ≤ sizeLine ∧ ∃ (its : List Value) (n : Nat), Vals xs its ∧ h.get? a = some { cls := .type "list", data := .seq its.toArray n }
  | .tup xs => xs.length ≤ sizeLine ∧ ∃ its : List Value, Vals xs its ∧ IsTup h a its.toArray
  | .dK kvs => kvs.length ≤ sizeLine ∧ (a == sysModules) = false ∧ ∃ vs, KV kvs vs ∧ h.DictOf (mixKind P w) a vs
  | .dT kvs => kvs.length ≤ sizeLine ∧ (a == sysModules) = false ∧ ∃ xs : List (List Key × Addr × Value),
      Paired (fun (p : List Key × V) (q : List Key × Addr × Value) => p.1 = q.1 ∧ H q.2.1 = some (.tup (p.1.map kV)) ∧ RelV p.2 q.2.2) kvs xs ∧
      ∃ o es ep, h.get? a = some o ∧ o.ExactDict ∧ o.data = .dict es ep ∧ es.toList = xs.map (entryOfKey (tupleKind (mixKind P w))) ∧ (xs.map (·.1)).Nodup
  | .set S n => h.SetOf (intKind P w) a S n
  | .ins C dx fs => H dx = some (.own a) ∧ fs.length ≤ 1000 ∧ dx ≠ a ∧ h.get? a = some (PySem.W.instObj C dx) ∧
      ∃ mA, h.Ns1 dx mA ∧ (∀ f, RelO (fs.lookup f) (mA f)) ∧ PySem.Within mA (fs.map (·.1))
  | .own _ => ∃ o, h.get? a = some o
  | .xd fs => ∃ mA, h.Ns1 a mA ∧ ∀ f, RelO (fs.lookup f) (mA f)
  | .rng lo hi => ∃ t u v, h.get? a = some { cls := .type "range", data := .fields #[.int lo t, .int hi u, .int 1 v] }
  | .frz o u => h.get? a = some o ∧ ObjOk H h a u
  | .tbl ps => h.get? a = some { cls := .none, data := .fields ps }
  | .met f x => h.get? a = some (PySem.W.methodObj (.ref f) (.ref x))
  | .ext φ => φ h ∧ (∃ o, h.get? a = some o) ∧ ∀ h1 h2 : Heap, φ h1 → (∀ o, h1.get? a = some o → h2.get? a = some o) → φ h2
/-- the abstract heap is held -/
def HOk (H : Hp) (h : Heap) : Prop := ∀ a o, H a = some o → ObjOk P w H h a o
end

section
variable {P : Program} {w : World} {H H' : Hp} {h h' : Heap} {a : Addr} {o : HO}
theorem ObjOk.lt (x : ObjOk P w H h a o) : a < h.objs.size := by
  cases o with
  | lst xs => obtain ⟨_, _, _, _, e⟩ := x; exact Heap.lt_size e
  | tup xs => obtain ⟨_, _, _, p⟩ := x; exact p.lt
  | dK kvs => obtain ⟨_, _, _, _, o, _, _, e, _⟩ := x; exact Heap.lt_size e
  | dT kvs => obtain ⟨_, _, _, _, o, _, _, e, _⟩ := x; exact Heap.lt_size e
  | set S n => obtain ⟨o, _, _, _, e, _⟩ := x; exact Heap.lt_size e
  | ins C dx fs => obtain ⟨_, _, _, e, _⟩ := x; exact Heap.lt_size e
  | own y => obtain ⟨_, e⟩ := x; exact Heap.lt_size e
  | xd fs => obtain ⟨_, ⟨_, _, _, e, _⟩, _⟩ := x; exact Heap.lt_size e
  | rng lo hi => obtain ⟨_, _, _, e⟩ := x; exact Heap.lt_size e
  | frz ob u => obtain ⟨e, _⟩ := x; exact Heap.lt_size e
  | tbl ps => exact Heap.lt_size (show h.get? a = some _ from x)
  | met f y => exact Heap.lt_size (show h.get? a = some _ from x)
  | ext φ => obtain ⟨_, ⟨_, e⟩, _⟩ := x; exact Heap.lt_size e
theorem Paired.mapP {α β : Type} {F G : α → β → Prop} : ∀ {l₁ : List α} {l₂ : List β}, Paired F l₁ l₂ → (∀ a b, F a b → G a b) → Paired G l₁ l₂
  | _, _, .nil, _ => .nil
  | _, _, .cons r t, f => .cons (f _ _ r) (Paired.mapP t f)
/-- what an object's description leans on: its own object, its own dict, the tuples -/
theorem ObjOk.stay (x : ObjOk P w H h a o) (k : ∀ b u, (b = a ∨ H b = some (.own a)) → h.get? b = some u → h'.get? b = some u)
    (ho : ∀ b, H b = some (.own a) → H' b = some (.own a)) (ht : ∀ b xs, H b = some (.tup xs) → H' b = some (.tup xs)) : ObjOk P w H' h' a o := by
  induction o with
  | lst xs => obtain ⟨z, its, n, r, e⟩ := x; exact ⟨z, its, n, r, k _ _ (.inl rfl) e⟩
  | tup xs => obtain ⟨z, its, r, ob, e, c⟩ := x; exact ⟨z, its, r, ob, k _ _ (.inl rfl) e, c⟩
  | dK kvs => obtain ⟨z, y, vs, r, ob, es, ep, e, c⟩ := x; exact ⟨z, y, vs, r, ob, es, ep, k _ _ (.inl rfl) e, c⟩
  | dT kvs =>
    obtain ⟨z, y, xs, r, ob, es, ep, e, c⟩ := x
    exact ⟨z, y, xs, Paired.mapP r fun p q z => ⟨z.1, ht _ _ z.2.1, z.2.2⟩, ob, es, ep, k _ _ (.inl rfl) e, c⟩
  | set S n => obtain ⟨ob, es, ep, t, e, c⟩ := x; exact ⟨ob, es, ep, t, k _ _ (.inl rfl) e, c⟩
  | ins C dx fs =>
    obtain ⟨d, z, ne, e, mA, ⟨od, es, ep, e2, c⟩, r⟩ := x
    exact ⟨ho _ d, z, ne, k _ _ (.inl rfl) e, mA, ⟨od, es, ep, k _ _ (.inr d) e2, c⟩, r⟩
  | own y => obtain ⟨ob, e⟩ := x; exact ⟨ob, k _ _ (.inl rfl) e⟩
  | xd fs => obtain ⟨mA, ⟨od, es, ep, e, c⟩, r⟩ := x; exact ⟨mA, ⟨od, es, ep, k _ _ (.inl rfl) e, c⟩, r⟩
  | rng lo hi => obtain ⟨t, u, v, e⟩ := x; exact ⟨t, u, v, k _ _ (.inl rfl) e⟩
  | frz ob u ih => obtain ⟨e, q⟩ := x; exact ⟨k _ _ (.inl rfl) e, ih q⟩
  | tbl ps =>
    have e : h.get? a = some { cls := .none, data := .fields ps } := x
    show h'.get? a = some { cls := .none, data := .fields ps }
    exact k a _ (.inl rfl) e
  | met f y =>
    have e : h.get? a = some (PySem.W.methodObj (.ref f) (.ref y)) := x
    show h'.get? a = some (PySem.W.methodObj (.ref f) (.ref y))
    exact k a _ (.inl rfl) e
  | ext φ => obtain ⟨p, ⟨o, e⟩, st⟩ := x; exact ⟨st _ _ p fun o q => k _ _ (.inl rfl) q, ⟨o, k _ _ (.inl rfl) e⟩, st⟩
theorem HOk.lt (x : HOk P w H h) (e : H a = some o) : a < h.objs.size := (x a o e).lt
theorem HOk.fresh (x : HOk P w H h) (e : h.objs.size ≤ a) : H a = none := by
  cases q : H a with
  | none => rfl
  | some u => exact absurd (Nat.lt_of_lt_of_le (x.lt q) e) (Nat.lt_irrefl _)
/-- every object of the heap is kept -/
theorem HOk.kept (x : HOk P w H h) (k : ∀ b u, h.get? b = some u → h'.get? b = some u) : HOk P w H h' := fun a o e =>
  (x a o e).stay (fun b u _ q => k b u q) (fun _ q => q) fun _ _ q => q
/-- a new object is laid and tracked -/
theorem HOk.laid (x : HOk P w H h) (k : ∀ b u, h.get? b = some u → h'.get? b = some u) (hp : h.objs.size ≤ a) (new : ObjOk P w (upd H a o) h' a o) : HOk P w (upd H a o) h' := fun b u e => by
  have hn := x.fresh hp
  by_cases hb : b = a
  · subst hb; rw [upd_same] at e; cases e; exact new
  · rw [upd_ne hb] at e
    exact (x b u e).stay (fun c v _ q => k c v q) (fun c q => by rw [upd_ne (ne_of_none q hn)]; exact q) fun c xs q => by rw [upd_ne (ne_of_none q hn)]; exact q
end

/-- what may be read as u: it is u, or a known u -/
def Rd (H : Hp) (a : Addr) (u : HO) : Prop := H a = some u ∨ ∃ o, H a = some (.frz o u)
theorem Rd.of {H : Hp} {a : Addr} {u : HO} (h : H a = some u) : Rd H a u := .inl h
theorem Rd.ok {P : Program} {w : World} {H : Hp} {h : Heap} {a : Addr} {u : HO} (r : Rd H a u) (x : HOk P w H h) : ObjOk P w H h a u := by
  rcases r with r | ⟨o, r⟩
  · exact x a u r
  · obtain ⟨_, q⟩ := x a _ r
    exact q
/-- what may be written -/
def Mut : Option HO → Prop
  | some (.lst _) => True
  | some (.dK _) => True
  | some (.dT _) => True
  | some (.set _ _) => True
  | some (.ins _ _ _) => True
  | some (.ext _) => True
  | _ => False
section
variable {P : Program} {w : World} {H : Hp} {h h' : Heap} {x e : Addr} {o' : HO}
/-- the object at e is changed: x itself, or the dict of the instance x -/
theorem HOk.write (ok : HOk P w H h) (mu : Mut (H x)) (he : e = x ∨ H e = some (.own x)) (k : ∀ b u, b ≠ e → h.get? b = some u → h'.get? b = some u) (heo : ∃ u, h'.get? e = some u)
    (new : ObjOk P w (upd H x o') h' x o') : HOk P w (upd H x o') h' := fun b u q => by
  have nown : ∀ c y, H c = some (.own y) → c ≠ x := fun c y r z => by subst z; rw [r] at mu; exact mu
  have ntup : ∀ c xs, H c = some (.tup xs) → c ≠ x := fun c xs r z => by subst z; rw [r] at mu; exact mu
  by_cases hb : b = x
  · subst hb; rw [upd_same] at q; cases q; exact new
  · rw [upd_ne hb] at q
    by_cases hbe : b = e
    · have q' : H b = some (.own x) := by
        rcases he with z | z
        · exact absurd (hbe.trans z) hb
        · rw [hbe]; exact z
      rw [q] at q'; cases q'
      obtain ⟨v, hv⟩ := heo
      exact ⟨v, by rw [hbe]; exact hv⟩
    · refine (ok b u q).stay (fun c v hc r => k c v ?_ r) (fun c r => by rw [upd_ne (nown c b r)]; exact r) fun c xs r => by rw [upd_ne (ntup c xs r)]; exact r
      rcases hc with rfl | hc
      · exact hbe
      · rintro rfl
        rcases he with z | z
        · exact nown c b hc z
        · rw [hc] at z; cases z; exact hb rfl
end

structure Un (fs ex : List Addr) (H H' : Hp) (h h' : Heap) : Prop where
  keep : ∀ b o, h.get? b = some o → H b = none → b ∉ fs → b ∉ ex → h'.get? b = some o
  slot : ∀ b o, h.get? b = some o → H b = none → b ∈ fs → b ∉ ex → ∃ sl, h'.get? b = some { o with slots := sl }
  free : ∀ b o, h.get? b = some o → H b = none → b ∉ ex → H' b = none
  there : ∀ b o, h.get? b = some o → b ∉ ex → ∃ o', h'.get? b = some o'
  tups : ∀ b xs, H b = some (.tup xs) → H' b = some (.tup xs)
  frzs : ∀ b o u, H b = some (.frz o u) → H' b = some (.frz o u)
  tbls : ∀ b ps, H b = some (.tbl ps) → ∃ more, H' b = some (.tbl (ps ++ more))
section
variable {fs fs' ex ex' : List Addr} {H H1 H2 : Hp} {h h1 h2 h' : Heap} {a x e : Addr} {o : HO}
theorem Un.any (u : Un fs ex H H1 h h1) {b : Addr} {ob : Obj} (q : h.get? b = some ob) (n : H b = none) (hx : b ∉ ex) : ∃ sl, h1.get? b = some { ob with slots := sl } := by
  by_cases hb : b ∈ fs
  · exact u.slot b ob q n hb hx
  · exact ⟨ob.slots, u.keep b ob q n hb hx⟩
theorem Un.trans (a : Un fs ex H H1 h h1) (b : Un fs ex H1 H2 h1 h2) : Un fs ex H H2 h h2 where
  keep := fun c ob q n hc hx => b.keep c ob (a.keep c ob q n hc hx) (a.free c ob q n hx) hc hx
  slot := fun c ob q n hc hx => by
    obtain ⟨sl, e1⟩ := a.slot c ob q n hc hx
    obtain ⟨sl', e2⟩ := b.slot c _ e1 (a.free c ob q n hx) hc hx
    exact ⟨sl', e2⟩
  free := fun c ob q n hx => by
    obtain ⟨o', e1⟩ := a.there c ob q hx
    exact b.free c o' e1 (a.free c ob q n hx) hx
  there := fun c ob q hx => by
    obtain ⟨o', e1⟩ := a.there c ob q hx
    exact b.there c o' e1 hx
  tups := fun c xs q => b.tups c xs (a.tups c xs q)
  frzs := fun c ob xs q => b.frzs c ob xs (a.frzs c ob xs q)
  tbls := fun c ps q => by
    obtain ⟨m1, e1⟩ := a.tbls c ps q
    obtain ⟨m2, e2⟩ := b.tbls c _ e1
    exact ⟨m1 ++ m2, by rw [e2, Array.append_assoc]⟩
theorem Un.kept (k : ∀ b u, h.get? b = some u → h'.get? b = some u) : Un fs ex H H h h' :=
  ⟨fun b ob q _ _ _ => k b ob q, fun b ob q _ _ _ => ⟨ob.slots, k b ob q⟩, fun _ _ _ n _ => n, fun b ob q _ => ⟨ob, k b ob q⟩, fun _ _ q => q, fun _ _ _ q => q, fun _ ps q => ⟨#[], by rw [q]; simp⟩⟩
theorem Un.refl : Un fs ex H H h h := Un.kept fun _ _ q => q
theorem Un.laid (k : ∀ b u, h.get? b = some u → h'.get? b = some u) (hp : h.objs.size ≤ a) (hn : H a = none) : Un fs ex H (upd H a o) h h' where
  keep := fun b u q _ _ _ => k b u q
  slot := fun b u q _ _ _ => ⟨u.slots, k b u q⟩
  free := fun b u q n _ => by rw [upd_ne (Nat.ne_of_lt (Nat.lt_of_lt_of_le (Heap.lt_size q) hp))]; exact n
  there := fun b u q _ => ⟨u, k b u q⟩
  tups := fun b xs q => by rw [upd_ne (ne_of_none q hn)]; exact q
  frzs := fun b u xs q => by rw [upd_ne (ne_of_none q hn)]; exact q
  tbls := fun b ps q => ⟨#[], by rw [upd_ne (ne_of_none q hn), q]; simp⟩
theorem Un.write (mu : Mut (H x)) (he : e = x ∨ H e = some (.own x)) (k : ∀ b u, b ≠ e → h.get? b = some u → h'.get? b = some u) (heo : ∃ u, h'.get? e = some u) : Un fs ex H (upd H x o) h h' := by
  have hx : ∀ b, H b = none → b ≠ x := fun b n z => by subst z; rw [n] at mu; exact mu
  have hb : ∀ b, H b = none → b ≠ e := fun b n z => by
    subst z
    rcases he with r | r
    · exact hx b n r
    · rw [n] at r; cases r
  have hm : ∀ b u, H b = some u → ¬ Mut (some u) → b ≠ x := fun b u q nm z => by subst z; rw [q] at mu; exact nm mu
  refine ⟨fun b u q n _ _ => k b u (hb b n) q, fun b u q n _ _ => ⟨u.slots, k b u (hb b n) q⟩, fun b u q n _ => by rw [upd_ne (hx b n)]; exact n, fun b u q _ => ?_,
    fun b xs q => by rw [upd_ne (hm b _ q fun z => z)]; exact q, fun b u xs q => by rw [upd_ne (hm b _ q fun z => z)]; exact q, fun b ps q => ⟨#[], by rw [upd_ne (hm b _ q fun z => z), q]; simp⟩⟩
  by_cases hbe : b = e
  · subst hbe; exact heo
  · exact ⟨u, k b u hbe q⟩
theorem Un.mono (u : Un fs ex H H1 h h1) (hs : ∀ b ∈ fs, b ∈ fs') (hx : ∀ b ∈ ex, b ∈ ex') : Un fs' ex' H H1 h h1 :=
  ⟨fun b ob q n hb he => u.keep b ob q n (fun z => hb (hs b z)) fun z => he (hx b z), fun _ _ q n _ he => u.any q n fun z => he (hx _ z), fun b ob q n he => u.free b ob q n fun z => he (hx b z), fun b ob q he => u.there b ob q fun z => he (hx b z), u.tups, u.frzs, u.tbls⟩
end

def trk (h : Heap) (H : Hp) : List Addr := (List.range h.objs.size).filter fun a => (H a).isSome
def hidT (h : Heap) (H : Hp) : Heap := PySem.W.hideAll h (trk h H)
theorem hidT_size (h : Heap) (H : Hp) : (hidT h H).objs.size = h.objs.size := PySem.W.hideAll_size _ _
theorem hidT_get {h : Heap} {H : Hp} {b : Addr} {o : Obj} (e : h.get? b = some o) (n : H b = none) : (hidT h H).get? b = some o :=
  PySem.W.hideAll_get _ e fun hm => by
    have q : (H b).isSome = true := (List.mem_filter.mp hm).2
    rw [n] at q; simp at q
theorem of_hidT {h : Heap} {H : Hp} {b : Addr} {o : Obj} (e : (hidT h H).get? b = some o) : h.get? b = some o ∧ H b = none := by
  have e' : h.get? b = some o := PySem.W.of_hideAll (trk h H) e
  refine ⟨e', ?_⟩
  cases q : H b with
  | none => rfl
  | some x =>
    have hm : b ∈ trk h H := List.mem_filter.mpr ⟨List.mem_range.mpr (Heap.lt_size e'), by simp [q]⟩
    have z : (hidT h H).get? b = none := PySem.W.hideAll_none (trk h H) hm
    rw [z] at e; cases e

def allNews (g h : Heap) (L : Addr) : List (Addr × Obj) := (List.range h.objs.size).filterMap fun a => if a = L ∨ (g.get? a).isSome = true then none else (h.get? a).map fun o => (a, o)
def rest (g h : Heap) (L d : Addr) : List (Addr × Obj) := (allNews g h L).filter fun p => decide (p.1 ≠ d)
end L2

namespace L2
open PySem PySem.Spec PyProof.Rows

structure Mod (K : PySem.W.Frag) (mg : Str → Option Value) (base : Heap) : Prop where
  kin : K.In base
  glob : base.Ns mainGlobals mg
  blt : ∃ mb, base.Ns builtinsNs mb ∧ ∀ x : Str, x ≠ "__name__" → mb x = bootBuiltins x
  nolimit : base.NoLimit

structure Cx where
  prog : Program
  w : World
  K : PySem.W.Frag
  mg : Str → Option Value
  base : Heap
  A : Around
  N : List Str
  s₀ : Shared
  H₀ : Hp
  env : Env
  outer : List Env
  stack : List Env
  ex : List Addr
  fn : Str → Bool
  calm : Bool
  pn : List (Addr × Obj)
  xe : Value → Shared → Prop
/-- the callers' frames -/
def frs (l : List Env) : List Addr := l.filterMap (·.frame)
abbrev Cx.fs (X : Cx) : List Addr := frs X.outer

def Vis (sc : Scope) (x : Str) : Prop := sc.names.lookup x = some .local ∨ sc.names.lookup x = some .cell ∨ sc.names.lookup x = some .free
def Loc (sc : Scope) (x : Str) : Prop := sc.names.lookup x = some .local ∨ sc.names.lookup x = some .cell
def Look (env : Env) (h : Heap) (m : Str → Option Value) (x : Str) (u : Value) : Prop :=
  (env.kindOf x = some .local ∧ m x = some u) ∨ ((env.kindOf x = some .cell ∨ env.kindOf x = some .free) ∧ ∃ c, env.cells.lookup x = some c ∧ h.IsCell c (some u))

structure Cx.Ok (X : Cx) : Prop where
  mod : Mod X.K X.mg X.base
  kind : X.env.scope.kind = .function
  glob : X.env.globals = mainGlobals
  blt : X.env.builtins = builtinsNs
  above : X.s₀.heap.objs.size ≤ X.env.locals
  inj : ∀ x y c, X.env.cells.lookup x = some c → X.env.cells.lookup y = some c → x = y
  has : ∀ x, (X.env.kindOf x = some .cell ∨ X.env.kindOf x = some .free) → ∃ c, X.env.cells.lookup x = some c
  cab : ∀ x c, X.fn x = true → X.env.cells.lookup x = some c → X.s₀.heap.objs.size ≤ c
  hd : X.calm = true → X.A.handled = none
  frames : X.A.frames = some X.stack
  stk : X.stack = X.outer ∨ (X.stack = X.env :: X.outer ∧ X.env.frame = some X.env.locals)
  exf : ∀ b ∈ X.ex, b ≠ X.env.locals ∧ ∀ x c, X.env.cells.lookup x = some c → c ≠ b
  bs : ∀ b o, X.base.get? b = some o → X.s₀.heap.get? b = some o ∧ X.H₀ b = none
  bsz : X.base.objs.size ≤ X.s₀.heap.objs.size
  noex : ∀ b o, X.base.get? b = some o → b ∉ X.ex
  exfs : ∀ b ∈ X.ex, b ∉ X.fs
  funs : X.s₀.heap.FunFrames X.base X.outer
  frf : ∀ b ∈ X.fs, X.H₀ b = none

structure Inv (X : Cx) (pins : List (Addr × Obj)) (σ : List (Option V)) (H : Hp) (s : Shared) : Prop where
  ok : X.Ok
  os : s.os = X.s₀.os
  bare : AllBare s.gens
  base : Un X.fs X.ex X.H₀ H X.s₀.heap s.heap
  loc : ∃ m, s.heap.Ns X.env.locals m ∧ ∀ (i : Nat) (x : Str) (v : V), X.N[i]? = some x → σ[i]? = some (some v) → Vis X.env.scope x → ∃ u, RelV v u ∧ Look X.env s.heap m x u
  cell : ∀ x c, X.env.cells.lookup x = some c → ∃ v, s.heap.IsCell c v
  free : H X.env.locals = none
  freeC : ∀ x c, X.env.cells.lookup x = some c → H c = none
  pin : ∀ p ∈ X.pn ++ pins, s.heap.get? p.1 = some p.2 ∧ H p.1 = none ∧ p.1 ≠ X.env.locals ∧ p.1 ∉ X.fs ∧ ∀ v, p.2.data ≠ .cell v
  hok : HOk X.prog X.w H s.heap
  len : σ.length = X.N.length

section
variable {X : Cx} {pins : List (Addr × Obj)} {σ : List (Option V)} {H H' : Hp} {s : Shared} {h' : Heap}

theorem Cx.Ok.nofr (ok : X.Ok) {b : Addr} {o : Obj} (e : X.base.get? b = some o) : b ∉ X.fs := fun hb => by
  have := (ok.funs.mem hb).1
  rw [e] at this; cases this
theorem Inv.bs (I : Inv X pins σ H s) : ∀ b o, X.base.get? b = some o → s.heap.get? b = some o ∧ H b = none := fun b o e =>
  ⟨I.base.keep b o (I.ok.bs b o e).1 (I.ok.bs b o e).2 (I.ok.nofr e) (I.ok.noex b o e), I.base.free b o (I.ok.bs b o e).1 (I.ok.bs b o e).2 (I.ok.noex b o e)⟩
theorem Inv.bk (I : Inv X pins σ H s) : ∀ b o, X.base.get? b = some o → s.heap.get? b = some o := fun b o e => (I.bs b o e).1
theorem Inv.mod (I : Inv X pins σ H s) : Mod X.K X.mg X.base := I.ok.mod
theorem Inv.kIn (I : Inv X pins σ H s) : X.K.In s.heap := I.ok.mod.kin.keeps I.bk
theorem Inv.nolimit (I : Inv X pins σ H s) : s.heap.NoLimit := I.ok.mod.nolimit.keeps I.bk
/-- the frame over the base: for OpenK's rules (K.In X.base is I.mod.kin) -/
theorem Inv.fr (I : Inv X pins σ H s) : ∃ m, Fr X.base X.env.locals s.heap m :=
  let ⟨m, hn, _⟩ := I.loc
  ⟨m, hn, I.bk, Nat.le_trans I.ok.bsz I.ok.above⟩
theorem Inv.lt (I : Inv X pins σ H s) : X.env.locals < s.heap.objs.size := let ⟨_, hn, _⟩ := I.loc; hn.lt
theorem Inv.sz (I : Inv X pins σ H s) : X.s₀.heap.objs.size ≤ s.heap.objs.size := Nat.le_trans I.ok.above (Nat.le_of_lt I.lt)
theorem Inv.nofs (I : Inv X pins σ H s) {a : Addr} (h : s.heap.objs.size ≤ a) : a ∉ X.fs := fun hb => by
  obtain ⟨_, o, ho, _⟩ := I.ok.funs.mem hb
  exact absurd (Nat.lt_of_lt_of_le (Heap.lt_size ho) (Nat.le_trans I.sz h)) (Nat.lt_irrefl _)
theorem Inv.cne (I : Inv X pins σ H s) : ∀ x c, X.env.cells.lookup x = some c → c ≠ X.env.locals := fun x c e z => by
  obtain ⟨v, o, ho, hd⟩ := I.cell x c e
  obtain ⟨m, ⟨o', es, ep, ho', hd', _⟩, _⟩ := I.loc
  rw [z, ho'] at ho; cases ho; rw [hd'] at hd; cases hd
theorem Inv.funs (I : Inv X pins σ H s) : s.heap.FunFrames X.base X.outer := by
  have all : ∀ (l : List Env), (∀ b ∈ frs l, b ∈ X.fs) → X.s₀.heap.FunFrames X.base l → s.heap.FunFrames X.base l := by
    intro l
    induction l with
    | nil => intro _ _; trivial
    | cons env r ih =>
      intro hs hl
      obtain ⟨hk, ⟨L, o, hf, hn, ho, hd⟩, hr⟩ := hl
      have hL : L ∈ X.fs := hs L (by unfold frs; rw [List.filterMap_cons, hf]; exact List.mem_cons_self)
      obtain ⟨sl, e⟩ := I.base.slot L o ho (I.ok.frf L hL) hL fun z => I.ok.exfs L z hL
      exact ⟨hk, ⟨L, _, hf, hn, e, hd⟩, ih (fun b hb => hs b (by unfold frs; rw [List.filterMap_cons, hf]; exact List.mem_cons_of_mem _ hb)) hr⟩
  exact all X.outer (fun _ hb => hb) I.ok.funs

/-- the frames that run, for a call -/
theorem Inv.stack (I : Inv X pins σ H s) : s.heap.FunFrames X.base X.stack := by
  rcases I.ok.stk with e | ⟨e, hf⟩
  · rw [e]; exact I.funs
  · rw [e]
    obtain ⟨m, hn, _⟩ := I.loc
    refine .cons (by rw [I.ok.kind]; decide) hf hn ?_ I.funs
    exact Heap.get?_none_of_le (Nat.le_trans I.ok.bsz I.ok.above)
theorem Inv.stkSub (I : Inv X pins σ H s) : ∀ b ∈ frs X.stack, b ∈ X.env.locals :: X.fs := fun b hb => by
  rcases I.ok.stk with e | ⟨e, hf⟩
  · rw [e] at hb; exact List.mem_cons_of_mem _ hb
  · rw [e] at hb
    unfold frs at hb
    rw [List.filterMap_cons, hf] at hb
    exact hb
theorem Inv.stkFree (I : Inv X pins σ H s) : ∀ b ∈ frs X.stack, H b = none := fun b hb => by
  rcases List.mem_cons.mp (I.stkSub b hb) with e | hb
  · rw [e]; exact I.free
  · obtain ⟨_, o, ho, _⟩ := I.ok.funs.mem hb
    exact I.base.free b o ho (I.ok.frf b hb) fun z => I.ok.exfs b z hb

/-- THE STEP: the untracked objects but the frame and the records at ch are kept (the callers' frames up to slots), the frame's map is kept, the new abstract heap is held -/
theorem Inv.step {g' : Array GenState} {t' : Nat} {d' : Drawn} {ch : List Addr} (I : Inv X pins σ H s)
    (hch : ∀ b ∈ ch, (b ∈ X.ex ∨ X.s₀.heap.objs.size ≤ b) ∧ b ≠ X.env.locals ∧ (∀ x c, X.env.cells.lookup x = some c → c ≠ b) ∧ ∀ p ∈ X.pn ++ pins, p.1 ≠ b)
    (keep : ∀ b o, b ≠ X.env.locals → b ∉ X.fs → b ∉ ch → s.heap.get? b = some o → H b = none → h'.get? b = some o)
    (slot : ∀ b o, b ≠ X.env.locals → b ∈ X.fs → b ∉ ch → s.heap.get? b = some o → H b = none → ∃ sl, h'.get? b = some { o with slots := sl }) (free : ∀ b o, b ∉ ch → s.heap.get? b = some o → H b = none → H' b = none)
    (there : ∀ b o, b ∉ ch → s.heap.get? b = some o → ∃ o', h'.get? b = some o')
    (tups : ∀ b xs, H b = some (.tup xs) → H' b = some (.tup xs)) (frzs : ∀ b o u, H b = some (.frz o u) → H' b = some (.frz o u)) (tbls : ∀ b ps, H b = some (.tbl ps) → ∃ more, H' b = some (.tbl (ps ++ more)))
    (ns : ∀ m, s.heap.Ns X.env.locals m → h'.Ns X.env.locals m) (hok : HOk X.prog X.w H' h') (hg : AllBare g') :
    Inv X pins σ H' { s with heap := h', gens := g', drawn := d', toks := t' } := by
  have neL : ∀ b o, X.s₀.heap.get? b = some o → b ≠ X.env.locals := fun b o e => Nat.ne_of_lt (Nat.lt_of_lt_of_le (Heap.lt_size e) I.ok.above)
  have neC : ∀ b o, X.s₀.heap.get? b = some o → b ∉ X.ex → b ∉ ch := fun b o e hx hb => by
    rcases (hch b hb).1 with z | z
    · exact hx z
    · exact absurd (Nat.lt_of_lt_of_le (Heap.lt_size e) z) (Nat.lt_irrefl _)
  have cellK : ∀ x c, X.env.cells.lookup x = some c → ∀ v, s.heap.IsCell c v → h'.IsCell c v := fun x c e v ⟨o, ho, hd⟩ => by
    have nch : c ∉ ch := fun z => (hch c z).2.2.1 x c e rfl
    by_cases hc : c ∈ X.fs
    · obtain ⟨sl, q⟩ := slot c o (I.cne x c e) hc nch ho (I.freeC x c e)
      exact ⟨_, q, hd⟩
    · exact ⟨o, keep c o (I.cne x c e) hc nch ho (I.freeC x c e), hd⟩
  refine ⟨I.ok, I.os, hg, ⟨fun b o e n hb hx => ?_, fun b o e n hb hx => ?_, fun b o e n hx => ?_, fun b o e hx => ?_, fun b xs e => tups b xs (I.base.tups b xs e), fun b o xs e => frzs b o xs (I.base.frzs b o xs e), fun b ps e => ?_⟩, ?_, fun x c e => ?_, ?_, fun x c e => ?_, fun p hp => ?_, hok, I.len⟩
  · exact keep b o (neL b o e) hb (neC b o e hx) (I.base.keep b o e n hb hx) (I.base.free b o e n hx)
  · obtain ⟨sl, e1⟩ := I.base.slot b o e n hb hx
    obtain ⟨sl', e2⟩ := slot b _ (neL b o e) hb (neC b o e hx) e1 (I.base.free b o e n hx)
    exact ⟨sl', e2⟩
  · obtain ⟨o', e1⟩ := I.base.there b o e hx
    exact free b o' (neC b o e hx) e1 (I.base.free b o e n hx)
  · obtain ⟨o', e1⟩ := I.base.there b o e hx
    exact there b o' (neC b o e hx) e1
  · obtain ⟨m1, e1⟩ := I.base.tbls b ps e
    obtain ⟨m2, e2⟩ := tbls b _ e1
    exact ⟨m1 ++ m2, by rw [e2, Array.append_assoc]⟩
  · obtain ⟨m, hn, hl⟩ := I.loc
    refine ⟨m, ns m hn, fun i x v e1 e2 e3 => ?_⟩
    obtain ⟨u, r, l⟩ := hl i x v e1 e2 e3
    refine ⟨u, r, ?_⟩
    rcases l with l | ⟨k, c, e, z⟩
    · exact .inl l
    · exact .inr ⟨k, c, e, cellK x c e _ z⟩
  · obtain ⟨v, z⟩ := I.cell x c e
    exact ⟨v, cellK x c e v z⟩
  · obtain ⟨m, ⟨o, _, _, ho, _⟩, _⟩ := I.loc
    exact free _ o (fun z => (hch _ z).2.1 rfl) ho I.free
  · obtain ⟨v, o, ho, hd⟩ := I.cell x c e
    exact free c o (fun z => (hch c z).2.2.1 x c e rfl) ho (I.freeC x c e)
  · obtain ⟨e, n, ne, nf, d⟩ := I.pin p hp
    have nch : p.1 ∉ ch := fun z => (hch p.1 z).2.2.2 p hp rfl
    exact ⟨keep p.1 p.2 ne nf nch e n, free p.1 p.2 nch e n, ne, nf, d⟩
/-- .. where the frame's own object is kept too -/
theorem Inv.un {t' : Nat} (I : Inv X pins σ H s) (u : Un X.fs [] H H' s.heap h') (hok : HOk X.prog X.w H' h') : Inv X pins σ H' { s with heap := h', toks := t' } := by
  obtain ⟨m, ⟨o, es, ep, ho, r⟩, _⟩ := id I.loc
  obtain ⟨sl, hL⟩ := u.any ho I.free (by simp)
  exact I.step (g' := s.gens) (d' := s.drawn) (ch := []) (fun _ z => nomatch z) (fun b o _ hb _ e n => u.keep b o e n hb (by simp)) (fun b o _ hb _ e n => u.slot b o e n hb (by simp)) (fun b o _ e n => u.free b o e n (by simp)) (fun b o _ e => u.there b o e (by simp)) u.tups u.frzs u.tbls (fun m' hm => by
    obtain ⟨o', es', ep', ho', r'⟩ := hm
    rw [ho] at ho'; cases ho'
    exact ⟨_, es', ep', hL, r'⟩) hok I.bare
/-- behind a call (or a comprehension's block): the slots of this frame may have changed too, the records at ch may have turned -/
theorem Inv.call {g' : Array GenState} {t' : Nat} {d' : Drawn} {ch : List Addr} (I : Inv X pins σ H s) (u : Un (frs X.stack) ch H H' s.heap h') (hok : HOk X.prog X.w H' h') (hg : AllBare g')
    (hch : ∀ b ∈ ch, (b ∈ X.ex ∨ X.s₀.heap.objs.size ≤ b) ∧ b ≠ X.env.locals ∧ (∀ x c, X.env.cells.lookup x = some c → c ≠ b) ∧ ∀ p ∈ X.pn ++ pins, p.1 ≠ b) :
    Inv X pins σ H' { s with heap := h', gens := g', drawn := d', toks := t' } := by
  obtain ⟨m, ⟨o, es, ep, ho, r⟩, _⟩ := id I.loc
  obtain ⟨sl, hL⟩ := u.any ho I.free fun z => (hch _ z).2.1 rfl
  exact I.step (ch := ch) hch (fun b o hL hb hc e n => u.keep b o e n (fun z => (List.mem_cons.mp (I.stkSub b z)).elim hL hb) hc) (fun b o _ _ hc e n => u.any e n hc) (fun b o hc e n => u.free b o e n hc) (fun b o hc e => u.there b o e hc) u.tups u.frzs u.tbls (fun m' hm => by
    obtain ⟨o', es', ep', ho', r'⟩ := hm
    rw [ho] at ho'; cases ho'
    exact ⟨_, es', ep', hL, r'⟩) hok hg
/-- an untracked record of ours (an iterator) has turned -/
theorem Inv.turned {t' : Nat} {it : Addr} (I : Inv X pins σ H s) (k : ∀ b o, b ≠ it → s.heap.get? b = some o → h'.get? b = some o) (hn : H it = none) (hL : it ≠ X.env.locals)
    (h1 : it ∈ X.ex ∨ X.s₀.heap.objs.size ≤ it) (h2 : ∀ x c, X.env.cells.lookup x = some c → c ≠ it) (h3 : ∀ p ∈ X.pn ++ pins, p.1 ≠ it) : Inv X pins σ H { s with heap := h', toks := t' } := by
  have nit : ∀ b u, H b = some u → b ≠ it := fun b u e z => by rw [z, hn] at e; cases e
  refine I.step (g' := s.gens) (d' := s.drawn) (ch := [it]) (fun b hb => ?_) (fun b o _ _ hc e _ => k b o (fun z => hc (by simp [z])) e) (fun b o _ _ hc e _ => ⟨o.slots, k b o (fun z => hc (by simp [z])) e⟩) (fun _ _ _ _ n => n)
    (fun b o hc e => ⟨o, k b o (fun z => hc (by simp [z])) e⟩) (fun _ _ e => e) (fun _ _ _ e => e) (fun b ps e => ⟨#[], by rw [e]; simp⟩) (fun m hm => ?_) (fun b u e => ?_) I.bare
  · have e : b = it := by simpa using hb
    subst e
    exact ⟨h1, hL, h2, h3⟩
  · obtain ⟨o, es, ep, ho, r⟩ := hm
    exact ⟨o, es, ep, k _ o (Ne.symm hL) ho, r⟩
  · refine (I.hok b u e).stay (fun c v hc q => k c v ?_ q) (fun _ q => q) fun _ _ q => q
    rcases hc with z | z
    · rw [z]; exact nit b u e
    · exact nit c _ z
theorem Inv.tok (I : Inv X pins σ H s) (t : Nat) : Inv X pins σ H { s with toks := t } := I.un (h' := s.heap) (t' := t) Un.refl I.hok
/-- all objects kept -/
theorem Inv.kept {t' : Nat} (I : Inv X pins σ H s) (k : ∀ b u, s.heap.get? b = some u → h'.get? b = some u) : Inv X pins σ H { s with heap := h', toks := t' } := I.un (Un.kept k) (I.hok.kept k)
/-- a new object laid and tracked -/
theorem Inv.laid {a : Addr} {o : HO} {t' : Nat} (I : Inv X pins σ H s) (k : ∀ b u, s.heap.get? b = some u → h'.get? b = some u) (hp : s.heap.objs.size ≤ a) (new : ObjOk X.prog X.w (upd H a o) h' a o) :
    Inv X pins σ (upd H a o) { s with heap := h', toks := t' } := I.un (Un.laid k hp (I.hok.fresh hp)) (I.hok.laid k hp new)
/-- an object written -/
theorem Inv.write {x e : Addr} {o : HO} {t' : Nat} (I : Inv X pins σ H s) (mu : Mut (H x)) (he : e = x ∨ H e = some (.own x)) (k : ∀ b u, b ≠ e → s.heap.get? b = some u → h'.get? b = some u) (heo : ∃ u, h'.get? e = some u)
    (new : ObjOk X.prog X.w (upd H x o) h' x o) : Inv X pins σ (upd H x o) { s with heap := h', toks := t' } := I.un (Un.write mu he k heo) (I.hok.write mu he k heo new)
theorem Inv.pins_of {pins' : List (Addr × Obj)} (I : Inv X pins σ H s) (h : ∀ p ∈ pins', s.heap.get? p.1 = some p.2 ∧ H p.1 = none ∧ p.1 ≠ X.env.locals ∧ p.1 ∉ X.fs ∧ ∀ v, p.2.data ≠ .cell v) : Inv X pins' σ H s :=
  ⟨I.ok, I.os, I.bare, I.base, I.loc, I.cell, I.free, I.freeC, fun p hp => (List.mem_append.mp hp).elim (fun z => I.pin p (List.mem_append_left _ z)) (h p), I.hok, I.len⟩

theorem nodup_ix {N : List Str} (hN : N.Nodup) {i j : Nat} {x : Str} (a : N[i]? = some x) (b : N[j]? = some x) : i = j := by
  obtain ⟨h1, e1⟩ := List.getElem?_eq_some_iff.mp a
  obtain ⟨h2, e2⟩ := List.getElem?_eq_some_iff.mp b
  exact (List.getElem_inj hN).mp (e1.trans e2.symm)

/-- a name is stored; what changed -/
theorem store_ok2 {M : Model} {A : Around} {E : Value → Shared → Prop} {i : Nat} {x : Str} {v : V} {u : Value} {Q : Unit → Shared → Prop} (I : Inv X pins σ H s) (hN : X.N.Nodup) (hi : X.N[i]? = some x) (hx : Loc X.env.scope x) (r : RelV v u)
    (h : ∀ s', Inv X pins (σ.set i (some v)) H s' → (∃ a, Heap.SameBut a s.heap s'.heap ∧ (a = X.env.locals ∨ X.env.cells.lookup x = some a)) → Q () s') (hf : X.fn x = true ∨ X.env.scope.names.lookup x = some .local := by first | exact .inl rfl | exact .inr rfl | assumption) : wpAny M A (storeName X.env x u) Q E s := by
  obtain ⟨m, hn, hl⟩ := id I.loc
  have hcls : (X.env.scope.kind == .class || (X.env.scope.kind == .module && X.env.locals != X.env.globals)) = false := by rw [I.ok.kind]; rfl
  have hiσ : i < σ.length := by rw [I.len]; exact (List.getElem?_eq_some_iff.mp hi).1
  have cne := I.cne
  have tracked : ∀ {a : Addr} {h' : Heap}, (∃ o, s.heap.get? a = some o ∧ H a = none) → Heap.SameBut a s.heap h' → HOk X.prog X.w H h' := fun {a h'} ha hs b ob e => by
    obtain ⟨_, _, hfree⟩ := ha
    refine (I.hok b ob e).stay (fun c w' hc q => (hs.2 c ?_).trans q) (fun _ q => q) fun _ _ q => q
    rintro rfl
    rcases hc with rfl | hc
    · rw [hfree] at e; cases e
    · rw [hfree] at hc; cases hc
  rcases hx with hk | hk
  · refine wpAny_storeName_local hk hn (fun h' hn' hs => ?_) hcls
    obtain ⟨oL, _, _, hoL, _⟩ := id hn
    refine h _ ⟨I.ok, I.os, I.bare, ⟨fun b o e n hb hx => ?_, fun b o e n hb hx => ?_, I.base.free, fun b o e hx => ?_, I.base.tups, I.base.frzs, I.base.tbls⟩, ⟨_, hn', fun j y v' e1 e2 e3 => ?_⟩, fun y c e => ?_, I.free, I.freeC, fun p hp => ?_, tracked ⟨oL, hoL, I.free⟩ hs, by simpa using I.len⟩ ⟨_, hs, .inl rfl⟩
    · exact (hs.2 b (Nat.ne_of_lt (Nat.lt_of_lt_of_le (Heap.lt_size e) I.ok.above))).trans (I.base.keep b o e n hb hx)
    · obtain ⟨sl, e1⟩ := I.base.slot b o e n hb hx
      exact ⟨sl, (hs.2 b (Nat.ne_of_lt (Nat.lt_of_lt_of_le (Heap.lt_size e) I.ok.above))).trans e1⟩
    · obtain ⟨o', e1⟩ := I.base.there b o e hx
      exact ⟨o', (hs.2 b (Nat.ne_of_lt (Nat.lt_of_lt_of_le (Heap.lt_size e) I.ok.above))).trans e1⟩
    · by_cases hj : j = i
      · subst hj
        rw [hi] at e1; cases e1
        rw [List.getElem?_set_self hiσ] at e2
        cases e2
        exact ⟨u, r, .inl ⟨hk, by simp⟩⟩
      · rw [List.getElem?_set_ne (Ne.symm hj)] at e2
        obtain ⟨u', r', q⟩ := hl j y v' e1 e2 e3
        refine ⟨u', r', ?_⟩
        rcases q with ⟨k, e⟩ | ⟨k, c, e, z⟩
        · refine .inl ⟨k, ?_⟩
          have : y ≠ x := fun e => hj (nodup_ix hN e1 (e ▸ hi))
          simp [this, e]
        · exact .inr ⟨k, c, e, z.sameBut hs (cne y c e)⟩
    · obtain ⟨w', z⟩ := I.cell y c e
      exact ⟨w', z.sameBut hs (cne y c e)⟩
    · obtain ⟨e, n, ne, nf, d⟩ := I.pin p hp
      exact ⟨(hs.2 p.1 ne).trans e, n, ne, nf, d⟩
  · have hfn : X.fn x = true := by
      rcases hf with z | z
      · exact z
      · rw [z] at hk; cases hk
    obtain ⟨c, hc⟩ := I.ok.has x (.inl hk)
    obtain ⟨w', z⟩ := I.cell x c hc
    refine wpAny_storeName_cell I.ok.kind hk hc z (fun h' hc' hs => ?_)
    obtain ⟨oc, hoc, hocd⟩ := id z
    refine h { s with heap := h' } ⟨I.ok, I.os, I.bare, ⟨fun b o e n hb hx => ?_, fun b o e n hb hx => ?_, I.base.free, fun b o e hx => ?_, I.base.tups, I.base.frzs, I.base.tbls⟩, ⟨m, hn.sameBut hs (Ne.symm (cne x c hc)), fun j y v' e1 e2 e3 => ?_⟩, fun y c' e => ?_, I.free, I.freeC, fun p hp => ?_, tracked ⟨oc, hoc, I.freeC x c hc⟩ hs, by simpa using I.len⟩ ⟨c, hs, .inr hc⟩
    · exact (hs.2 b (Nat.ne_of_lt (Nat.lt_of_lt_of_le (Heap.lt_size e) (I.ok.cab x c hfn hc)))).trans (I.base.keep b o e n hb hx)
    · obtain ⟨sl, e1⟩ := I.base.slot b o e n hb hx
      exact ⟨sl, (hs.2 b (Nat.ne_of_lt (Nat.lt_of_lt_of_le (Heap.lt_size e) (I.ok.cab x c hfn hc)))).trans e1⟩
    · obtain ⟨o', e1⟩ := I.base.there b o e hx
      exact ⟨o', (hs.2 b (Nat.ne_of_lt (Nat.lt_of_lt_of_le (Heap.lt_size e) (I.ok.cab x c hfn hc)))).trans e1⟩
    · by_cases hj : j = i
      · subst hj
        rw [hi] at e1; cases e1
        rw [List.getElem?_set_self hiσ] at e2
        cases e2
        exact ⟨u, r, .inr ⟨.inl hk, c, hc, hc'⟩⟩
      · rw [List.getElem?_set_ne (Ne.symm hj)] at e2
        obtain ⟨u', r', q⟩ := hl j y v' e1 e2 e3
        refine ⟨u', r', ?_⟩
        rcases q with q | ⟨k, c', e, z'⟩
        · exact .inl q
        · refine .inr ⟨k, c', e, z'.sameBut hs ?_⟩
          rintro rfl
          exact hj (nodup_ix hN e1 (I.ok.inj _ _ _ e hc ▸ hi))
    · by_cases hcc : c' = c
      · subst hcc; exact ⟨_, hc'⟩
      · obtain ⟨w2, z2⟩ := I.cell y c' e
        exact ⟨w2, z2.sameBut hs hcc⟩
    · obtain ⟨e, n, ne, nf, d⟩ := I.pin p hp
      refine ⟨(hs.2 p.1 ?_).trans e, n, ne, nf, d⟩
      intro q
      rw [q, hoc] at e
      have q' : oc = p.2 := Option.some.inj e
      exact d w' (by rw [← q']; exact hocd)
theorem store_ok {M : Model} {A : Around} {E : Value → Shared → Prop} {i : Nat} {x : Str} {v : V} {u : Value} {Q : Unit → Shared → Prop} (I : Inv X pins σ H s) (hN : X.N.Nodup) (hi : X.N[i]? = some x) (hx : Loc X.env.scope x) (r : RelV v u)
    (h : ∀ s', Inv X pins (σ.set i (some v)) H s' → Q () s') (hf : X.fn x = true ∨ X.env.scope.names.lookup x = some .local := by first | exact .inl rfl | exact .inr rfl | assumption) : wpAny M A (storeName X.env x u) Q E s :=
  store_ok2 I hN hi hx r (fun s' I' _ => h s' I') hf
/-- behind a call or a block, the state as it is -/
theorem Inv.call' {s' : Shared} {ch : List Addr} (I : Inv X pins σ H s) (ho : s'.os = s.os) (u : Un (frs X.stack) ch H H' s.heap s'.heap) (hok : HOk X.prog X.w H' s'.heap) (hg : AllBare s'.gens)
    (hch : ∀ b ∈ ch, (b ∈ X.ex ∨ X.s₀.heap.objs.size ≤ b) ∧ b ≠ X.env.locals ∧ (∀ x c, X.env.cells.lookup x = some c → c ≠ b) ∧ ∀ p ∈ X.pn ++ pins, p.1 ≠ b) : Inv X pins σ H' s' := by
  obtain ⟨h', g', d', t', o'⟩ := s'
  have e : o' = s.os := ho
  subst e
  exact I.call (g' := g') (t' := t') (d' := d') u hok hg hch
end

/-- an exception: its class, its own dict's address (where it has one), the abstract heap behind it -/
abbrev XK := Value → Option Addr → Hp → Prop
abbrev St := List (Option V)
abbrev VK := V → Hp → Prop
/-- an expression's reading; a test's; an argument list's -/
abbrev TE := St → Hp → VK → Prop
abbrev TT := St → Hp → (Bool → Hp → Prop) → Prop
abbrev TA := St → Hp → (List V → Hp → Prop) → Prop
structure Ends where
  nx : St → Hp → Prop
  rt : VK
  bk : St → Hp → Prop := fun _ _ => False
  ct : St → Hp → Prop := fun _ _ => False
abbrev TS := Ends → St → Hp → Prop

def EP (X : Cx) (pins : List (Addr × Obj)) (σ : St) (Q : VK) (u : Value) (s' : Shared) : Prop := ∃ v H', Inv X pins σ H' s' ∧ RelV v u ∧ Q v H'
def TP (X : Cx) (pins : List (Addr × Obj)) (σ : St) (Q : Bool → Hp → Prop) (b : Bool) (s' : Shared) : Prop := ∃ H', Inv X pins σ H' s' ∧ Q b H'
def AP (X : Cx) (pins : List (Addr × Obj)) (σ : St) (Q : List V → Hp → Prop) (us : List Value) (s' : Shared) : Prop := ∃ vs H', Inv X pins σ H' s' ∧ Vals vs us ∧ Q vs H'
def SP (X : Cx) (pins : List (Addr × Obj)) (D : Ends) (f : Flow) (s' : Shared) : Prop :=
  match f with
  | .next => ∃ σ' H', Inv X pins σ' H' s' ∧ D.nx σ' H'
  | .brk => ∃ σ' H', Inv X pins σ' H' s' ∧ D.bk σ' H'
  | .cont => ∃ σ' H', Inv X pins σ' H' s' ∧ D.ct σ' H'
  | .ret u => ∃ v σ' H', Inv X pins σ' H' s' ∧ RelV v u ∧ D.rt v H'

def PE (X : Cx) (e : Expr) (t : TE) : Prop :=
  ∀ (pins : List (Addr × Obj)) (s : Shared) (σ : St) (H : Hp) (Q : VK), Inv X pins σ H s → t σ H Q → wpAny (model X.prog X.w) X.A (eval e X.env) (EP X pins σ Q) X.xe s
def PT (X : Cx) (e : Expr) (t : TT) : Prop :=
  ∀ (pins : List (Addr × Obj)) (s : Shared) (σ : St) (H : Hp) (Q : Bool → Hp → Prop), Inv X pins σ H s → t σ H Q → wpAny (model X.prog X.w) X.A (isTrue e X.env (eval e X.env)) (TP X pins σ Q) X.xe s
/-- a test whatever its 'whole' is (and, or) -/
def PW (X : Cx) (e : Expr) (t : TT) : Prop :=
  ∀ (whole : Sem Value) (pins : List (Addr × Obj)) (s : Shared) (σ : St) (H : Hp) (Q : Bool → Hp → Prop), Inv X pins σ H s → t σ H Q → wpAny (model X.prog X.w) X.A (isTrue e X.env whole) (TP X pins σ Q) X.xe s
theorem PW.pt {X : Cx} {e : Expr} {t : TT} (h : PW X e t) : PT X e t := h _
/-- an argument list (no star), from the left -/
def PA (X : Cx) (es : List Expr) (t : TA) : Prop :=
  ∀ (pos : Pos) (pins : List (Addr × Obj)) (s : Shared) (σ : St) (H : Hp) (Q : List V → Hp → Prop), Inv X pins σ H s → t σ H Q → wpAny (model X.prog X.w) X.A (spliced (backTo pos (starEach es X.env))) (AP X pins σ Q) X.xe s
def PS (X : Cx) (st : Stmt) (t : TS) : Prop :=
  ∀ (pins : List (Addr × Obj)) (s : Shared) (σ : St) (H : Hp) (D : Ends), Inv X pins σ H s → t D σ H → wpAny (model X.prog X.w) X.A (exec st X.env) (SP X pins D) X.xe s
def PSs (X : Cx) (st : List Stmt) (t : TS) : Prop :=
  ∀ (pins : List (Addr × Obj)) (s : Shared) (σ : St) (H : Hp) (D : Ends), Inv X pins σ H s → t D σ H → wpAny (model X.prog X.w) X.A (execs st X.env) (SP X pins D) X.xe s
/-- weaken the end -/
theorem thn {α : Type} {t : Sem α} {Q Q' : α → Shared → Prop} {M : Model} {A : Around} {E : Value → Shared → Prop} {s : Shared} (h : wpAny M A t Q E s) (hQ : ∀ a s, Q a s → Q' a s) : wpAny M A t Q' E s := wpAny_mono h hQ fun _ _ x => x
end L2

namespace L2
open PySem PySem.Spec PyProof.Rows
section
variable {X : Cx}

def tVar (i : Nat) : TE := fun σ H Q => ∃ v, σ[i]? = some (some v) ∧ Q v H
def tC (v : V) : TE := fun _ H Q => Q v H
theorem pe_var {i : Nat} {x : Str} {pos : Pos} (hN : X.N[i]? = some x) (hv : Vis X.env.scope x) (hd : (x == ("__debug__" : Str)) = false := by decide) (hcd : (x == ("__classdict__" : Str)) = false := by decide) : PE X (.Name x pos) (tVar i) := by
  intro pins s σ H Q I h
  obtain ⟨v, e, h⟩ := h
  obtain ⟨m, hn, hl⟩ := I.loc
  obtain ⟨u, r, l⟩ := hl i x v hN e hv
  have fin : EP X pins σ Q u s := ⟨v, H, I, r, h⟩
  rcases l with ⟨hk, hm⟩ | ⟨hk, c, hc, hcell⟩
  · exact wpAny_Name (wpAny_loadName_local I.ok.kind hk hn hm fin) hd
  · rcases hk with hk | hk
    · exact wpAny_Name (wpAny_loadName_cell I.ok.kind hk hc hcell fin) hd
    · exact wpAny_Name (wpAny_loadName_free I.ok.kind hk hc hcell fin hcd) hd
theorem pe_int {i j pos} : PE X (.Constant (.int i) j pos) (tC (.int i)) := fun _ _ _ H _ I h => wpAny_Constant_int ⟨.int i, H, I.tok _, ⟨_, rfl⟩, h⟩
theorem pe_bl {b j pos} : PE X (.Constant (.bool b) j pos) (tC (.bl b)) := fun _ _ _ H _ I h => Constant_bool ⟨.bl b, H, I, rfl, h⟩
theorem pe_non {j pos} : PE X (.Constant .none j pos) (tC .non) := fun _ _ _ H _ I h => Constant_none ⟨.non, H, I, rfl, h⟩
theorem pe_str {x j pos} : PE X (.Constant (.str x) j pos) (tC (.str x)) := fun _ _ _ H _ I h => Calls.Constant_str ⟨.str x, H, I.tok _, ⟨_, rfl⟩, h⟩

/-- a global name of the def -/
def Gl (X : Cx) (x : Str) : Prop := X.env.kindOf x = some .globalImplicit
theorem ld_glob {E : Value → Shared → Prop} {pins : List (Addr × Obj)} {s : Shared} {σ : St} {H : Hp} {x : Str} {u : Value} {pos : Pos} {Q : Value → Shared → Prop} (I : Inv X pins σ H s) (hg : Gl X x) (hm : X.mg x = some u) (h : Q u s)
    (hd : (x == ("__debug__" : Str)) = false := by decide) : wpAny (model X.prog X.w) X.A (eval (.Name x pos) X.env) Q E s :=
  Calls.Name_function_global I.ok.kind hg (Calls.loadGlobal_global (by rw [I.ok.glob]; exact I.mod.glob.keeps I.bk) hm h) hd
theorem ld_blt {E : Value → Shared → Prop} {pins : List (Addr × Obj)} {s : Shared} {σ : St} {H : Hp} {x : Str} {u : Value} {pos : Pos} {Q : Value → Shared → Prop} (I : Inv X pins σ H s) (hg : Gl X x) (hm : X.mg x = none) (hv : bootBuiltins x = some u) (h : Q u s)
    (hn : x ≠ "__name__" := by decide) (hd : (x == ("__debug__" : Str)) = false := by decide) : wpAny (model X.prog X.w) X.A (eval (.Name x pos) X.env) Q E s := by
  obtain ⟨mb, h1, h2⟩ := I.mod.blt
  exact Calls.Name_function_global I.ok.kind hg (Calls.loadGlobal_builtin (by rw [I.ok.glob]; exact I.mod.glob.keeps I.bk) hm (by rw [I.ok.blt]; exact h1.keeps I.bk) ((h2 x hn).trans hv) h) hd
/-- a module's constant, a class, a function, as a value -/
theorem pe_glob {x : Str} {v : V} {u : Value} {pos : Pos} (hg : Gl X x) (hm : X.mg x = some u) (r : RelV v u) (hd : (x == ("__debug__" : Str)) = false := by decide) : PE X (.Name x pos) (tC v) :=
  fun _ _ _ H _ I h => ld_glob I hg hm ⟨v, H, I, r, h⟩ hd
theorem pe_bltn {x : Str} {v : V} {u : Value} {pos : Pos} (hg : Gl X x) (hm : X.mg x = none) (hv : bootBuiltins x = some u) (r : RelV v u) (hn : x ≠ "__name__" := by decide) (hd : (x == ("__debug__" : Str)) = false := by decide) : PE X (.Name x pos) (tC v) :=
  fun _ _ _ H _ I h => ld_blt I hg hm hv ⟨v, H, I, r, h⟩ hn hd

variable {a b : Expr} {ta tb : TE} {pos : Pos}
variable {tA tB' : TT} {rest : List Expr}
def tAnd (t u : TT) : TT := fun σ H Q => t σ H fun c H1 => if c = true then u σ H1 Q else Q false H1
def tOr (t u : TT) : TT := fun σ H Q => t σ H fun c H1 => if c = true then Q true H1 else u σ H1 Q
def tNot (t : TT) : TT := fun σ H Q => t σ H fun c H1 => Q (!c) H1
theorem pw_and1 (ha : PT X a tA) : PW X (.BoolOp .And [a] pos) tA := by
  intro wh pins s σ H Q I h
  refine isTrue_and (thn (ha pins s σ H Q I h) fun c s1 e => ?_)
  cases c with
  | true => exact isTrue_and_nil e
  | false => exact e
theorem pw_or1 (ha : PT X a tA) : PW X (.BoolOp .Or [a] pos) tA := by
  intro wh pins s σ H Q I h
  refine isTrue_or (thn (ha pins s σ H Q I h) fun c s1 e => ?_)
  cases c with
  | false => exact isTrue_or_nil e
  | true => exact e
theorem pw_and (ha : PT X a tA) (hb : PW X (.BoolOp .And (b :: rest) pos) tB') : PW X (.BoolOp .And (a :: b :: rest) pos) (tAnd tA tB') := by
  intro wh pins s σ H Q I h
  refine isTrue_and (thn (ha pins s σ H _ I h) fun c s1 ⟨H1, I1, q1⟩ => ?_)
  cases c with
  | true => exact hb wh pins s1 σ H1 Q I1 q1
  | false => exact ⟨H1, I1, q1⟩
theorem pw_or (ha : PT X a tA) (hb : PW X (.BoolOp .Or (b :: rest) pos) tB') : PW X (.BoolOp .Or (a :: b :: rest) pos) (tOr tA tB') := by
  intro wh pins s σ H Q I h
  refine isTrue_or (thn (ha pins s σ H _ I h) fun c s1 ⟨H1, I1, q1⟩ => ?_)
  cases c with
  | true => exact ⟨H1, I1, q1⟩
  | false => exact hb wh pins s1 σ H1 Q I1 q1
theorem pt_not (ha : PT X a tA) : PT X (.UnaryOp .Not a pos) (tNot tA) := by
  intro pins s σ H Q I h
  exact isTrue_not (ha pins s σ H (fun c H1 => Q (!c) H1) I h)
/-- .. as values (bools) -/
def tAndV (ta tb : TE) : TE := fun σ H Q => ta σ H fun x H1 => ∃ c, x = .bl c ∧ if c = true then tb σ H1 Q else Q (.bl false) H1
def tOrV (ta tb : TE) : TE := fun σ H Q => ta σ H fun x H1 => ∃ c, x = .bl c ∧ if c = true then Q (.bl true) H1 else tb σ H1 Q
theorem pe_one {op} {t : TE} (h : PE X a t) : PE X (.BoolOp op [a] pos) t := fun pins s σ H Q I hw => BoolOp_one (h pins s σ H Q I hw)
theorem pe_and (ha : PE X a ta) (hb : PE X (.BoolOp .And (b :: rest) pos) tb) : PE X (.BoolOp .And (a :: b :: rest) pos) (tAndV ta tb) := by
  intro pins s σ H Q I h
  refine BoolOp_and (thn (ha pins s σ H _ I h) fun v s1 ⟨x, H1, I1, r1, q1⟩ => ?_)
  obtain ⟨c, rfl, q1⟩ := q1
  cases r1
  refine wpAny_truthy_bool ?_
  cases c with
  | true => exact hb pins s1 σ H1 Q I1 q1
  | false => exact ⟨.bl false, H1, I1, rfl, q1⟩
theorem pe_or (ha : PE X a ta) (hb : PE X (.BoolOp .Or (b :: rest) pos) tb) : PE X (.BoolOp .Or (a :: b :: rest) pos) (tOrV ta tb) := by
  intro pins s σ H Q I h
  refine BoolOp_or (thn (ha pins s σ H _ I h) fun v s1 ⟨x, H1, I1, r1, q1⟩ => ?_)
  obtain ⟨c, rfl, q1⟩ := q1
  cases r1
  refine wpAny_truthy_bool ?_
  cases c with
  | false => exact hb pins s1 σ H1 Q I1 q1
  | true => exact ⟨.bl true, H1, I1, rfl, q1⟩
/-- a if t else b -/
def tIf (t : TT) (ta tb : TE) : TE := fun σ H Q => t σ H fun c H1 => if c = true then ta σ H1 Q else tb σ H1 Q
theorem pe_ifExp {c : Expr} (hc : PT X c tA) (ha : PE X a ta) (hb : PE X b tb) : PE X (.IfExp c a b pos) (tIf tA ta tb) := by
  intro pins s σ H Q I h
  refine wpAny_IfExp (thn (hc pins s σ H _ I h) fun d s1 ⟨H1, I1, q1⟩ => ?_)
  cases d with
  | true => exact ha pins s1 σ H1 Q I1 q1
  | false => exact hb pins s1 σ H1 Q I1 q1
end
end L2

namespace L2
open PySem PySem.Spec PyProof.Rows

def SqL (K : PySem.W.Frag) (H : Hp) (a : Addr) (xs : List V) : Prop :=
  Rd H a (.lst xs) ∨
    ∃ (o : Obj) (its : Array Value) (n : Nat), K.lookup a = some o ∧ o.cls = .type "list" ∧ o.dict = none ∧ o.data = .seq its n ∧ its.size ≤ sizeLine ∧ Vals xs its.toList
def SqT (K : PySem.W.Frag) (H : Hp) (a : Addr) (xs : List V) : Prop :=
  Rd H a (.tup xs) ∨
    ∃ (o : Obj) (its : Array Value) (n : Nat), K.lookup a = some o ∧ o.cls = .type "tuple" ∧ o.data = .seq its n ∧ its.size ≤ sizeLine ∧ Vals xs its.toList
def absV : Value → Option V
  | .none => some .non
  | .bool b => some (.bl b)
  | .int i _ => some (.int i)
  | .str x _ => some (.str x)
  | .bytes b _ => some (.byt b)
  | .float b _ => some (.flt b)
  | .ref a => some (.ref a)
  | .type n => some (.ty n)
  | _ => none
theorem RelV.abs {x : V} {u : Value} (r : RelV x u) : absV u = some x := by
  cases x with
  | non => cases r; rfl
  | bl _ => cases r; rfl
  | int _ => obtain ⟨t, rfl⟩ := r; rfl
  | str _ => obtain ⟨t, rfl⟩ := r; rfl
  | byt _ => obtain ⟨t, rfl⟩ := r; rfl
  | flt _ => obtain ⟨t, rfl⟩ := r; rfl
  | ref _ => cases r; rfl
  | ty _ => cases r; rfl
theorem RelV.inj {x y : V} {u : Value} (r : RelV x u) (q : RelV y u) : x = y := Option.some.inj (r.abs.symm.trans q.abs)
theorem Vals.inj : ∀ {xs ys : List V} {us : List Value}, Vals xs us → Vals ys us → xs = ys
  | _, _, _, .nil, .nil => rfl
  | _, _, _, .cons r t, .cons r' t' => by rw [r.inj r', Vals.inj t t']
section
variable {X : Cx} {pins : List (Addr × Obj)} {σ : St} {H : Hp} {s : Shared} {a : Addr} {xs ys : List V}
theorem SqL.of {K : PySem.W.Frag} (h : H a = some (.lst xs)) : SqL K H a xs := .inl (.inl h)
theorem SqT.of {K : PySem.W.Frag} (h : H a = some (.tup xs)) : SqT K H a xs := .inl (.inl h)
theorem Inv.list (I : Inv X pins σ H s) (h : SqL X.K H a xs) : ∃ its : List Value, Vals xs its ∧ PlainL s.heap a its.toArray ∧ xs.length ≤ sizeLine := by
  rcases h with h | ⟨o, its, n, hk, hc, hd, hs, hz, r⟩
  · obtain ⟨z, its, n, r, e⟩ := h.ok I.hok
    exact ⟨its, r, ⟨_, n, e, rfl, rfl, rfl⟩, z⟩
  · refine ⟨its.toList, r, ⟨o, n, I.kIn a o hk, hc, hd, by simpa using hs⟩, ?_⟩
    have e := r.length
    simp only [Array.length_toList] at e
    omega
theorem Inv.tuple (I : Inv X pins σ H s) (h : SqT X.K H a xs) : ∃ its : List Value, Vals xs its ∧ IsTup s.heap a its.toArray ∧ xs.length ≤ sizeLine := by
  rcases h with h | ⟨o, its, n, hk, hc, hs, hz, r⟩
  · obtain ⟨z, its, r, p⟩ := h.ok I.hok
    exact ⟨its, r, p, z⟩
  · refine ⟨its.toList, r, ⟨o, I.kIn a o hk, hc, n, by simpa using hs⟩, ?_⟩
    have e := r.length
    simp only [Array.length_toList] at e
    omega
theorem Inv.list_inj (I : Inv X pins σ H s) (h : SqL X.K H a xs) (h' : SqL X.K H a ys) : xs = ys := by
  obtain ⟨its, r, ⟨o, n, e, _, _, d⟩, _⟩ := I.list h
  obtain ⟨its', r', ⟨o', n', e', _, _, d'⟩, _⟩ := I.list h'
  rw [e] at e'; cases e'
  rw [d] at d'
  injection d' with d1 _
  have : its = its' := by simpa using congrArg Array.toList d1
  subst this
  exact r.inj r'
theorem Inv.tuple_inj (I : Inv X pins σ H s) (h : SqT X.K H a xs) (h' : SqT X.K H a ys) : xs = ys := by
  obtain ⟨its, r, ⟨o, e, _, n, d⟩, _⟩ := I.tuple h
  obtain ⟨its', r', ⟨o', e', _, n', d'⟩, _⟩ := I.tuple h'
  rw [e] at e'; cases e'
  rw [d] at d'
  injection d' with d1 _
  have : its = its' := by simpa using congrArg Array.toList d1
  subst this
  exact r.inj r'
end

abbrev Cx.wish (X : Cx) (E : Value → Shared → Prop) : Cx := { X with xe := E }
/-- no exception leaves -/
abbrev Cx.nox (X : Cx) : Cx := X.wish fun _ _ => False
theorem Cx.Ok.wish {X : Cx} (ok : X.Ok) (E : Value → Shared → Prop) : (X.wish E).Ok :=
  ⟨ok.mod, ok.kind, ok.glob, ok.blt, ok.above, ok.inj, ok.has, ok.cab, ok.hd, ok.frames, ok.stk, ok.exf, ok.bs, ok.bsz, ok.noex, ok.exfs, ok.funs, ok.frf⟩
theorem Cx.Ok.unwish {X : Cx} {E : Value → Shared → Prop} (ok : (X.wish E).Ok) : X.Ok :=
  ⟨ok.mod, ok.kind, ok.glob, ok.blt, ok.above, ok.inj, ok.has, ok.cab, ok.hd, ok.frames, ok.stk, ok.exf, ok.bs, ok.bsz, ok.noex, ok.exfs, ok.funs, ok.frf⟩
section
variable {X : Cx} {pins : List (Addr × Obj)} {σ : St} {H : Hp} {s : Shared} {E : Value → Shared → Prop}
theorem Inv.wish (I : Inv X pins σ H s) (E : Value → Shared → Prop) : Inv (X.wish E) pins σ H s := ⟨I.ok.wish E, I.os, I.bare, I.base, I.loc, I.cell, I.free, I.freeC, I.pin, I.hok, I.len⟩
theorem Inv.unwish (I : Inv (X.wish E) pins σ H s) : Inv X pins σ H s := ⟨I.ok.unwish, I.os, I.bare, I.base, I.loc, I.cell, I.free, I.freeC, I.pin, I.hok, I.len⟩
theorem SP.unwish {D : Ends} {f : Flow} {s' : Shared} (h : SP (X.wish E) pins D f s') : SP X pins D f s' := by
  cases f with
  | next => obtain ⟨σ', H', I, q⟩ := h; exact ⟨σ', H', I.unwish, q⟩
  | brk => obtain ⟨σ', H', I, q⟩ := h; exact ⟨σ', H', I.unwish, q⟩
  | cont => obtain ⟨σ', H', I, q⟩ := h; exact ⟨σ', H', I.unwish, q⟩
  | ret u => obtain ⟨v, σ', H', I, r, q⟩ := h; exact ⟨v, σ', H', I.unwish, r, q⟩
theorem PE.nox {e : Expr} {t : TE} (h : PE X.nox e t) : PE X e t := fun pins s σ H Q I hw =>
  wpAny_mono (h pins s σ H Q (I.wish _) hw) (fun _ _ ⟨v, H', I', r, q⟩ => ⟨v, H', I'.unwish, r, q⟩) fun _ _ z => False.elim z
theorem PT.nox {e : Expr} {t : TT} (h : PT X.nox e t) : PT X e t := fun pins s σ H Q I hw =>
  wpAny_mono (h pins s σ H Q (I.wish _) hw) (fun _ _ ⟨H', I', q⟩ => ⟨H', I'.unwish, q⟩) fun _ _ z => False.elim z
theorem PSs.nox {st : List Stmt} {t : TS} (h : PSs X.nox st t) : PSs X st t := fun pins s σ H D I hw =>
  wpAny_mono (h pins s σ H D (I.wish _) hw) (fun _ _ q => q.unwish) fun _ _ z => False.elim z
end

section
variable {X : Cx} {st : Stmt} {rest : List Stmt} {t u : TS} {e : Expr} {te : TE} {pos : Pos}
def tNext : TS := fun D σ H => D.nx σ H
def tSeq (t u : TS) : TS := fun D σ H => t { D with nx := u D } σ H
theorem pss_nil : PSs X [] tNext := fun _ _ σ H _ I h => wpAny_execs_nil ⟨σ, H, I, h⟩
theorem pss_cons (h1 : PS X st t) (h2 : PSs X rest u) : PSs X (st :: rest) (tSeq t u) := by
  intro pins s σ H D I h
  refine wpAny_execs_cons (thn (h1 pins s σ H { D with nx := u D } I h) fun f s1 q => ?_)
  cases f with
  | next =>
    obtain ⟨σ', H', I', q⟩ := q
    exact h2 pins s1 σ' H' D I' q
  | ret v => exact q
  | brk => exact q
  | cont => exact q
theorem pss_one (h1 : PS X st t) : PSs X [st] t := by
  intro pins s σ H D I h
  refine wpAny_execs_cons (thn (h1 pins s σ H D I h) fun f s1 q => ?_)
  cases f with
  | next => exact wpAny_execs_nil q
  | ret v => exact q
  | brk => exact q
  | cont => exact q
/-- in a def's body nothing is shown -/
theorem Inv.quiet {pins : List (Addr × Obj)} {σ : St} {H : Hp} {s : Shared} (I : Inv X pins σ H s) : interactive X.env = false := by simp [interactive, I.ok.kind]
/-- an expression whose value is dropped -/
def tDrop (te : TE) : TS := fun D σ H => te σ H fun _ H1 => D.nx σ H1
theorem ps_expr (he : PE X e te) (hs : swapsWith e none pos.line X.env = pure false := by rfl) : PS X (.Expr e pos) (tDrop te) := by
  intro pins s σ H D I h
  exact wpAny_Expr_any (thn (he pins s σ H _ I h) fun v s1 ⟨x, H1, I1, r1, q1⟩ => ⟨σ, H1, I1, q1⟩) I.quiet hs
def tRet (te : TE) : TS := fun D σ H => te σ H D.rt
theorem ps_ret (he : PE X e te) : PS X (.Return (some e) pos) (tRet te) := by
  intro pins s σ H D I h
  exact wpAny_Return_some (thn (he pins s σ H _ I h) fun v s1 ⟨x, H1, I1, r1, q1⟩ => ⟨x, σ, H1, I1, r1, q1⟩)
def tIfS (c : TT) (t u : TS) : TS := fun D σ H => c σ H fun b H1 => if b = true then t D σ H1 else u D σ H1
theorem ps_if {c : Expr} {a b : List Stmt} {tc : TT} (hc : PT X c tc) (ha : PSs X a t) (hb : PSs X b u) : PS X (.If c a b pos) (tIfS tc t u) := by
  intro pins s σ H D I h
  refine wpAny_If (thn (hc pins s σ H _ I h) fun d s1 ⟨H1, I1, q1⟩ => ?_)
  cases d with
  | true => exact ha pins s1 σ H1 D I1 q1
  | false => exact hb pins s1 σ H1 D I1 q1
/-- code that the proof never comes to -/
def tNever : TS := fun _ _ _ => False
theorem ps_never : PS X st tNever := fun _ _ _ _ _ _ h => h.elim
end

abbrev TG := V → St → Hp → (St → Hp → Prop) → Prop
abbrev TGs := List V → St → Hp → (St → Hp → Prop) → Prop
def PG (X : Cx) (target : Expr) (t : TG) : Prop :=
  ∀ (pins : List (Addr × Obj)) (s : Shared) (σ : St) (H : Hp) (v : V) (u : Value) (Q : St → Hp → Prop), Inv X pins σ H s → RelV v u → t v σ H Q →
    wpAny (model X.prog X.w) X.A (assign target X.env u) (fun _ s' => ∃ σ' H', Inv X pins σ' H' s' ∧ Q σ' H') X.xe s
/-- several targets, one after another -/
def PGs (X : Cx) (ts : List Expr) (t : TGs) : Prop :=
  ∀ (pins : List (Addr × Obj)) (s : Shared) (σ : St) (H : Hp) (vs : List V) (us : List Value) (Q : St → Hp → Prop), Inv X pins σ H s → Vals vs us → t vs σ H Q →
    wpAny (model X.prog X.w) X.A (assignInOrder ((assignEach ts X.env).map (·.2)) us) (fun _ s' => ∃ σ' H', Inv X pins σ' H' s' ∧ Q σ' H') X.xe s
/-- o[i] = v, by values -/
abbrev TSet := V → V → V → Hp → (Hp → Prop) → Prop
def PSet (X : Cx) (t : TSet) : Prop :=
  ∀ (pins : List (Addr × Obj)) (s : Shared) (σ : St) (H : Hp) (o i v : V) (ov iv u : Value) (Q : Hp → Prop), Inv X pins σ H s → RelV o ov → RelV i iv → RelV v u → t o i v H Q →
    wpAny (model X.prog X.w) X.A (setItem ov iv u) (fun _ s' => ∃ H', Inv X pins σ H' s' ∧ Q H') X.xe s
section
variable {X : Cx} {pos : Pos}
def gName (i : Nat) : TG := fun v σ H Q => Q (σ.set i (some v)) H
theorem pg_name {i : Nat} {x : Str} (hN : X.N.Nodup) (hi : X.N[i]? = some x) (hx : Loc X.env.scope x) (hf : X.fn x = true ∨ X.env.scope.names.lookup x = some .local := by first | exact .inl rfl | exact .inr rfl | assumption) : PG X (.Name x pos) (gName i) := by
  intro pins s σ H v u Q I r h
  exact wpAny_assign_Name (store_ok I hN hi hx r (fun s' I' => ⟨_, H, I', h⟩) hf)
def gNil : TGs := fun vs σ H Q => vs = [] ∧ Q σ H
def gCons (t : TG) (u : TGs) : TGs := fun vs σ H Q => ∃ v r, vs = v :: r ∧ t v σ H fun σ' H' => u r σ' H' Q
theorem pgs_nil : PGs X [] gNil := by
  intro pins s σ H vs us Q I r h
  obtain ⟨e, h⟩ := h
  subst e
  cases r
  exact assignInOrder_nil ⟨σ, H, I, h⟩
theorem pgs_cons {e : Expr} {es : List Expr} {t : TG} {u : TGs} (h1 : PG X e t) (h2 : PGs X es u)
    (hs : (assignEach (e :: es) X.env).map (·.2) = assign e X.env :: (assignEach es X.env).map (·.2) := by rfl) : PGs X (e :: es) (gCons t u) := by
  intro pins s σ H vs us Q I r h
  obtain ⟨v, vr, e1, h⟩ := h
  subst e1
  cases r with
  | cons r rr =>
    rw [hs]
    refine assignInOrder_cons (thn (h1 pins s σ H _ _ _ I r h) fun _ s1 ⟨σ1, H1, I1, q1⟩ => ?_)
    exact h2 pins s1 σ1 H1 _ _ Q I1 rr q1
/-- (a, b, ..) = a tuple of that length -/
def gTup (K : PySem.W.Frag) (n : Nat) (t : TGs) : TG := fun v σ H Q => ∃ a xs, v = .ref a ∧ SqT K H a xs ∧ xs.length = n ∧ t xs σ H Q
theorem pg_tup {es : List Expr} {k : Nat} {t : TGs} {n : Nat} (hc : X.calm = true) (h : PGs X es t)
    (hn : (assignEach es X.env).length = n := by rfl) (hst : (assignEach es X.env).findIdx? (·.1) = none := by rfl) : PG X (.Tuple es k pos) (gTup X.K n t) := by
  intro pins s σ H v u Q I r hw
  obtain ⟨a, xs, e1, hq, hl, hw⟩ := hw
  subst e1
  cases r
  obtain ⟨its, rv, ht, hz⟩ := I.tuple hq
  refine assign_Tuple_tuple (I.ok.hd hc) ht (by simp [hn, ← hl, rv.length]) hst fun h' hx => ?_
  have I1 : Inv X pins σ H { s with heap := h' } := I.kept (t' := s.toks) fun b o e => hx b o (Nat.ne_of_lt (Heap.lt_size e)) e
  exact h pins _ σ H xs _ Q I1 (by simpa using rv) hw
/-- o[i] = .. -/
def gSub (to ti : TE) (t : TSet) : TG := fun v σ H Q => to σ H fun o H1 => ti σ H1 fun i H2 => t o i v H2 fun H3 => Q σ H3
theorem pg_sub {o i : Expr} {to ti : TE} {t : TSet} (ho : PE X o to) (hi : PE X i ti) (hs : PSet X t)
    (ha : ∀ v, assign (.Subscript o i pos) X.env v = (do
      let ov ← holding [v] (eval o X.env)
      let iv ← holding [v, ov] (eval i X.env)
      standAt pos
      holding [v, ov, iv] (setItem ov iv v)
      release [v, ov, iv] []) := by intro _; rfl) : PG X (.Subscript o i pos) (gSub to ti t) := by
  intro pins s σ H v u Q I r h
  rw [ha]
  refine wpAny_bind (wpAny_holding (thn (ho pins s σ H _ I h) fun ov s1 ⟨x, H1, I1, r1, q1⟩ => ?_))
  refine wpAny_bind (wpAny_holding (thn (hi pins s1 σ H1 _ I1 q1) fun iv s2 ⟨y, H2, I2, r2, q2⟩ => ?_))
  refine wpAny_bind (wpAny_standAt (wpAny_bind (wpAny_holding (thn (hs pins s2 σ H2 x y v ov iv u _ I2 r1 r2 r q2) fun _ s3 ⟨H3, I3, q3⟩ => ?_))))
  exact wpAny_release ⟨σ, H3, I3, q3⟩
/-- target = value -/
def tAsg (te : TE) (g : TG) : TS := fun D σ H => te σ H fun x H1 => g x σ H1 D.nx
theorem ps_asg {tg e : Expr} {te : TE} {g : TG} (he : PE X e te) (hg : PG X tg g) (hs : swapsWithSole [tg] e pos.line X.env = pure false := by rfl) (hw : swappedStores [tg] e X.env = pure none := by rfl)
    (h1 : (assignEach [tg] X.env).map (·.2) = [assign tg X.env] := by rfl) : PS X (.Assign [tg] e pos) (tAsg te g) := by
  intro pins s σ H D I h
  refine wpAny_Assign_stores (thn (he pins s σ H _ I h) fun v s1 ⟨x, H1, I1, r1, q1⟩ => ?_) hs hw
  rw [h1]
  exact thn (hg pins s1 σ H1 x v _ I1 r1 q1) fun _ s2 q => q
/-- name = value -/
theorem ps_set {i : Nat} {x : Str} {e : Expr} {te : TE} {pos' : Pos} (hN : X.N.Nodup) (hi : X.N[i]? = some x) (hx : Loc X.env.scope x) (he : PE X e te) (hs : swapsWith e (some (.Name x pos')) pos.line X.env = pure false := by rfl) (hf : X.fn x = true ∨ X.env.scope.names.lookup x = some .local := by first | exact .inl rfl | exact .inr rfl | assumption) :
    PS X (.Assign [.Name x pos'] e pos) (tAsg te (gName i)) := by
  intro pins s σ H D I h
  refine wpAny_Assign_Name (thn (he pins s σ H _ I h) fun v s1 ⟨y, H1, I1, r1, q1⟩ => ?_) hs
  exact store_ok I1 hN hi hx r1 (fun s2 I2 => ⟨_, H1, I2, q1⟩) hf
end

section
variable {X : Cx} {pos : Pos}
end

structure It where
  go : Nat → Hp → Prop
  yld : Nat → Hp → V → Hp → Prop
  stop : Nat → Hp → Prop
/-- the iterator's own objects may turn: they are not the frame's, not pinned, younger than the entry (or a comprehension's own) -/
def FpOk (X : Cx) (pins : List (Addr × Obj)) (H : Hp) (b : Addr) : Prop :=
  H b = none ∧ b ≠ X.env.locals ∧ b ∉ X.fs ∧ (b ∈ X.ex ∨ X.s₀.heap.objs.size ≤ b) ∧ (∀ x c, X.env.cells.lookup x = some c → c ≠ b) ∧ ∀ p ∈ X.pn ++ pins, p.1 ≠ b
theorem Inv.fpOk {X : Cx} {pins : List (Addr × Obj)} {σ : St} {H H' : Hp} {s : Shared} {b : Addr} (I : Inv X pins σ H s) (hb : s.heap.objs.size ≤ b) (hn : H' b = none) : FpOk X pins H' b := by
  refine ⟨hn, Nat.ne_of_gt (Nat.lt_of_lt_of_le I.lt hb), I.nofs hb, .inr (Nat.le_trans I.sz hb), fun x c e z => ?_, fun p hp z => ?_⟩
  · obtain ⟨v, q⟩ := I.cell x c e
    exact absurd (Nat.lt_of_lt_of_le q.lt (by rw [z]; exact hb)) (Nat.lt_irrefl _)
  · exact absurd (Nat.lt_of_lt_of_le (Heap.lt_size (I.pin p hp).1) (by rw [z]; exact hb)) (Nat.lt_irrefl _)
structure Turn (P : Program) (w : World) (K : PySem.W.Frag) (tg : Expr) (J : It) (fp : List Addr) (it : Addr) (tn : Nat → Heap → Prop) : Prop where
  mem : it ∈ fp
  obj : ∀ i h, tn i h → ∀ b ∈ fp, ∃ o, h.get? b = some o ∧ ∀ v, o.data ≠ .cell v
  keep : ∀ i h h', tn i h → (∀ b ∈ fp, ∀ o, h.get? b = some o → h'.get? b = some o) → tn i h'
  item : ∀ (X : Cx), X.prog = P → X.w = w → X.K = K → X.calm = true → ∀ (i : Nat) (pins : List (Addr × Obj)) (s : Shared) (σ : St) (H : Hp) (E : Value → Shared → Prop), Inv X pins σ H s → (∀ b ∈ fp, FpOk X pins H b) → tn i s.heap → J.go i H →
    wpAny (model P w) X.A (pyNext (.ref it)) (fun r s1 => ∃ u, r = some u ∧
      wpAny (model P w) X.A (letOwnedTupleGo tg (.ref it) u) (fun _ s2 => ∃ x H', Inv X pins σ H' s2 ∧ RelV x u ∧ J.yld i H x H' ∧ tn (i + 1) s2.heap ∧ ∀ b ∈ fp, H' b = none) E s1) E s
  done : ∀ (X : Cx), X.prog = P → X.w = w → X.K = K → X.calm = true → ∀ (i : Nat) (pins : List (Addr × Obj)) (s : Shared) (σ : St) (H : Hp) (E : Value → Shared → Prop), Inv X pins σ H s → (∀ b ∈ fp, FpOk X pins H b) → tn i s.heap → J.stop i H →
    wpAny (model P w) X.A (pyNext (.ref it)) (fun r s1 => r = none ∧ Inv X pins σ H s1) E s
  self : ∀ (A : Around) (i : Nat) (s : Shared) (Q : Value → Shared → Prop) (E : Value → Shared → Prop), tn i s.heap → Q (.ref it) s → wpAny (model P w) A (pyIter (.ref it)) Q E s
abbrev TI := St → Hp → (It → Hp → Prop) → Prop
/-- an iterator has come -/
def PIE (X : Cx) (pins : List (Addr × Obj)) (σ : St) (tg : Expr) (R : It → Hp → Prop) (itv : Value) (s2 : Shared) : Prop :=
  ∃ (it : Addr) (fp : List Addr) (tn : Nat → Heap → Prop) (J : It) (H' : Hp), itv = .ref it ∧ Inv X pins σ H' s2 ∧ Turn X.prog X.w X.K tg J fp it tn ∧ tn 0 s2.heap ∧ (∀ b ∈ fp, FpOk X pins H' b) ∧ R J H'
def PI (X : Cx) (tg iter : Expr) (wi : TI) : Prop :=
  ∀ (pins : List (Addr × Obj)) (s : Shared) (σ : St) (H : Hp) (R : It → Hp → Prop), Inv X pins σ H s → wi σ H R →
    wpAny (model X.prog X.w) X.A (eval iter X.env) (fun v s1 => wpAny (model X.prog X.w) X.A (pyIter v) (PIE X pins σ tg R) X.xe s1) X.xe s

/-- the step ahead of the store is nothing for an iterator that keeps no tuple -/
theorem go_of {M : Model} {A : Around} {E : Value → Shared → Prop} {s : Shared} {tg : Expr} {it : Addr} {u : Value} {o : Obj} {n : String} {vs : Array Value} {Q : Unit → Shared → Prop} (ho : s.heap.get? it = some o) (hc : o.cls = .type n) (hd : o.data = .fields vs)
    (hn : ["enumerate", "zip", "dict_itemiterator", "dict_reverseitemiterator", "odict_iterator", "itertools.zip_longest", "itertools.pairwise"].contains n = false) (hQ : Q () s) : wpAny M A (letOwnedTupleGo tg (.ref it) u) Q E s := by
  unfold letOwnedTupleGo
  cases tg <;> first
    | exact wpAny_pure hQ
    | (cases u <;> first
        | exact wpAny_pure hQ
        | (refine wpAny_bind (wpAny_load ho ?_)
           rw [hc, hd]
           show wpAny M A (if (["enumerate", "zip", "dict_itemiterator", "dict_reverseitemiterator", "odict_iterator", "itertools.zip_longest", "itertools.pairwise"].contains n && vs[0]? == some (rawInt _)) = true then _ else _) Q E s
           rw [if_neg (by intro h; rw [hn, Bool.false_and] at h; cases h)]
           exact wpAny_pure hQ))

/-- the list at a, as it stands at each turn (a loop may append to it) -/
def Itl (K : PySem.W.Frag) (a : Addr) : It :=
  ⟨fun i H => ∃ xs x, SqL K H a xs ∧ xs[i]? = some x, fun i H x H' => H' = H ∧ ∀ xs, SqL K H a xs → xs[i]? = some x, fun i H => ∃ xs, SqL K H a xs ∧ xs.length ≤ i⟩
def Itt (K : PySem.W.Frag) (a : Addr) : It :=
  ⟨fun i H => ∃ xs x, SqT K H a xs ∧ xs[i]? = some x, fun i H x H' => H' = H ∧ ∀ xs, SqT K H a xs → xs[i]? = some x, fun i H => ∃ xs, SqT K H a xs ∧ xs.length ≤ i⟩
/-- lo, lo + 1, .. (n of them) -/
def Itr (lo : Int) (n : Nat) : It := ⟨fun i _ => i < n, fun i H x H' => H' = H ∧ x = .int (lo + i), fun i _ => n ≤ i⟩
theorem turn_list {P : Program} {w : World} {K : PySem.W.Frag} {tg : Expr} (a it : Addr) : Turn P w K tg (Itl K a) [it] it (fun i h => h.IsListIter it a i) where
  mem := by simp
  obj := fun i h st b hb => by
    have e : b = it := by simpa using hb
    subst e
    obtain ⟨o, e, c, d⟩ := st
    exact ⟨o, e, fun v z => by rw [d] at z; cases z⟩
  keep := fun i h h' st k => st.at fun o e => k it (by simp) o e
  item := by
    intro X hP hw hK hc i pins s σ H E I hf st hg
    subst hP hw hK
    obtain ⟨xs, x, hq, hx⟩ := hg
    obtain ⟨its, rv, p, hz⟩ := I.list hq
    obtain ⟨u, hu, ru⟩ := rv.get hx
    obtain ⟨f0, f1, f2, f3, f4, f5⟩ := hf it (by simp)
    refine wpAny_pyNext_list_item st p.isList (x := u) (by simpa using hu) fun h' st' sb => ?_
    have I1 : Inv X pins σ H { s with heap := h' } := I.turned (t' := s.toks) (fun b o hb e => (sb.2 b hb).trans e) f0 f1 f3 f4 f5
    obtain ⟨o, e, c, d⟩ := id st'
    exact ⟨u, rfl, go_of (s := { s with heap := h' }) e c d (by decide) ⟨x, H, I1, ru, ⟨rfl, fun ys hy => by rw [I.list_inj hy hq]; exact hx⟩, st', fun b hb => (hf b hb).1⟩⟩
  done := by
    intro X hP hw hK hc i pins s σ H E I hf st hg
    subst hP hw hK
    obtain ⟨xs, hq, hx⟩ := hg
    obtain ⟨its, rv, p, hz⟩ := I.list hq
    obtain ⟨f0, f1, f2, f3, f4, f5⟩ := hf it (by simp)
    have hl := rv.length
    exact wpAny_pyNext_list_end (I.ok.hd hc) st p.isList (by simp; omega) fun h' eb => ⟨rfl, I.turned (t' := s.toks) (fun b o hb e => eb b o hb e) f0 f1 f3 f4 f5⟩
  self := fun _ _ _ _ _ st h => wpAny_pyIter_listiter st h
theorem turn_tuple {P : Program} {w : World} {K : PySem.W.Frag} {tg : Expr} (a it : Addr) : Turn P w K tg (Itt K a) [it] it (fun i h => h.IsTupleIter it a i) where
  mem := by simp
  obj := fun i h st b hb => by
    have e : b = it := by simpa using hb
    subst e
    obtain ⟨o, e, c, d⟩ := st
    exact ⟨o, e, fun v z => by rw [d] at z; cases z⟩
  keep := fun i h h' st k => st.at fun o e => k it (by simp) o e
  item := by
    intro X hP hw hK hc i pins s σ H E I hf st hg
    subst hP hw hK
    obtain ⟨xs, x, hq, hx⟩ := hg
    obtain ⟨its, rv, p, hz⟩ := I.tuple hq
    obtain ⟨u, hu, ru⟩ := rv.get hx
    obtain ⟨f0, f1, f2, f3, f4, f5⟩ := hf it (by simp)
    refine wpAny_pyNext_tuple_item st (show s.heap.IsTuple a its.toArray from p) (x := u) (by simpa using hu) fun h' st' sb => ?_
    have I1 : Inv X pins σ H { s with heap := h' } := I.turned (t' := s.toks) (fun b o hb e => (sb.2 b hb).trans e) f0 f1 f3 f4 f5
    obtain ⟨o, e, c, d⟩ := id st'
    exact ⟨u, rfl, go_of (s := { s with heap := h' }) e c d (by decide) ⟨x, H, I1, ru, ⟨rfl, fun ys hy => by rw [I.tuple_inj hy hq]; exact hx⟩, st', fun b hb => (hf b hb).1⟩⟩
  done := by
    intro X hP hw hK hc i pins s σ H E I hf st hg
    subst hP hw hK
    obtain ⟨xs, hq, hx⟩ := hg
    obtain ⟨its, rv, p, hz⟩ := I.tuple hq
    obtain ⟨f0, f1, f2, f3, f4, f5⟩ := hf it (by simp)
    have hl := rv.length
    exact wpAny_pyNext_tuple_end (I.ok.hd hc) st (show s.heap.IsTuple a its.toArray from p) (by simp; omega) fun h' eb => ⟨rfl, I.turned (t' := s.toks) (fun b o hb e => eb b o hb e) f0 f1 f3 f4 f5⟩
  self := fun _ _ _ _ _ st h => wpAny_pyIter_tupleiter st h
theorem turn_range {P : Program} {w : World} {K : PySem.W.Frag} {tg : Expr} (it : Addr) (lo : Int) (n : Nat) : Turn P w K tg (Itr lo n) [it] it (fun i h => IsRangeIter h it (lo + (i : Nat) * 1) ((n : Int) - (i : Nat)) 1) where
  mem := by simp
  obj := fun i h st b hb => by
    have e : b = it := by simpa using hb
    subst e
    exact ⟨_, st, fun v z => by
      have z' : Data.fields _ = Data.cell v := z
      cases z'⟩
  keep := fun i h h' st k => k it (by simp) _ st
  item := by
    intro X hP hw hK hc i pins s σ H E I hf st hg
    subst hP hw hK
    obtain ⟨f0, f1, f2, f3, f4, f5⟩ := hf it (by simp)
    have W := Walks.range (prog := X.prog) (w := X.w) (I.ok.hd hc) it lo 1 n
    refine W.item i s _ _ hg st fun v h' tk hv st' kk => ?_
    obtain ⟨t, rfl⟩ := hv
    have I1 : Inv X pins σ H { s with heap := h', toks := tk } := I.turned (fun b o hb e => kk b o (by simpa using hb) e) f0 f1 f3 f4 f5
    refine ⟨_, rfl, go_of (s := { s with heap := h', toks := tk }) (n := "range_iterator") st' rfl rfl (by decide) ⟨.int (lo + i), H, I1, ⟨t, ?_⟩, ⟨rfl, rfl⟩, st', fun b hb => (hf b hb).1⟩⟩
    rw [Int.mul_one]
  done := by
    intro X hP hw hK hc i pins s σ H E I hf st hg
    subst hP hw hK
    obtain ⟨f0, f1, f2, f3, f4, f5⟩ := hf it (by simp)
    exact wpAny_pyNext_range_end (I.ok.hd hc) st (by have : n ≤ i := hg; omega) fun h' eb => ⟨rfl, I.turned (t' := s.toks) (fun b o hb e => eb b o hb e) f0 f1 f3 f4 f5⟩
  self := fun _ _ _ _ _ st h => wpAny_pyIter_rangeiter st h
end L2

namespace L2
open PySem PySem.Spec PyProof.Rows
section
variable {X : Cx} {tg : Expr}
def iList (K : PySem.W.Frag) (tl : TE) : TI := fun σ H R => tl σ H fun x H1 => ∃ a, x = .ref a ∧ (∃ xs, SqL K H1 a xs) ∧ R (Itl K a) H1
def iTup (K : PySem.W.Frag) (tl : TE) : TI := fun σ H R => tl σ H fun x H1 => ∃ a, x = .ref a ∧ (∃ xs, SqT K H1 a xs) ∧ R (Itt K a) H1
theorem pi_list {l : Expr} {tl : TE} (hl : PE X l tl) : PI X tg l (iList X.K tl) := by
  intro pins s σ H R I h
  refine thn (hl pins s σ H _ I h) fun v s1 ⟨x, H1, I1, r1, q1⟩ => ?_
  obtain ⟨a, e, ⟨xs, hq⟩, q⟩ := q1
  subst e
  cases r1
  obtain ⟨its, rv, p, hz⟩ := I1.list hq
  refine wpAny_pyIter_list p.isList ?_
  refine ⟨s1.heap.objs.size, [s1.heap.objs.size], _, _, H1, rfl, I1.kept (t' := s1.toks) fun b o e => Heap.get?_push_of_some _ e, turn_list a _, ⟨_, Heap.get?_push_size _ rfl, rfl, rfl⟩, fun b hb => ?_, q⟩
  have e : b = s1.heap.objs.size := by simpa using hb
  subst e
  exact I1.fpOk (Nat.le_refl _) (I1.hok.fresh (Nat.le_refl _))
theorem pi_tup {l : Expr} {tl : TE} (hl : PE X l tl) : PI X tg l (iTup X.K tl) := by
  intro pins s σ H R I h
  refine thn (hl pins s σ H _ I h) fun v s1 ⟨x, H1, I1, r1, q1⟩ => ?_
  obtain ⟨a, e, ⟨xs, hq⟩, q⟩ := q1
  subst e
  cases r1
  obtain ⟨its, rv, p, hz⟩ := I1.tuple hq
  refine wpAny_pyIter_tuple (show s1.heap.IsTuple a its.toArray from p) ?_
  refine ⟨s1.heap.objs.size, [s1.heap.objs.size], _, _, H1, rfl, I1.kept (t' := s1.toks) fun b o e => Heap.get?_push_of_some _ e, turn_tuple a _, ⟨_, Heap.get?_push_size _ rfl, rfl, rfl⟩, fun b hb => ?_, q⟩
  have e : b = s1.heap.objs.size := by simpa using hb
  subst e
  exact I1.fpOk (Nat.le_refl _) (I1.hok.fresh (Nat.le_refl _))
/-- a range object just made, walked -/
theorem range_it {pins : List (Addr × Obj)} {σ : St} {H : Hp} {s : Shared} {R : It → Hp → Prop} {E : Value → Shared → Prop} {lo hi : Int} {t u v : Tok} {tk : Nat} (I : Inv X pins σ H s) (h1 : -(2 ^ 62) ≤ lo) (h2 : lo < 2 ^ 62) (h3 : -(2 ^ 62) ≤ hi) (h4 : hi < 2 ^ 62)
    (q : R (Itr lo (hi - lo).toNat) H) : wpAny (model X.prog X.w) X.A (pyIter (.ref s.heap.objs.size)) (PIE X pins σ tg R) E { s with heap := s.heap.push { cls := .type "range", data := .fields #[.int lo t, .int hi u, .int 1 v] }, toks := tk } := by
  refine wpAny_pyIter_range (IsRange.new ..) (small_one h1 h2 h3 h4) ?_
  have I1 : Inv X pins σ H { s with heap := s.heap.push { cls := .type "range", data := .fields #[.int lo t, .int hi u, .int 1 v] }, toks := tk } := I.kept fun b o e => Heap.get?_push_of_some _ e
  refine ⟨(s.heap.push { cls := .type "range", data := .fields #[.int lo t, .int hi u, .int 1 v] }).objs.size, [(s.heap.push { cls := .type "range", data := .fields #[.int lo t, .int hi u, .int 1 v] }).objs.size], _, _, H, rfl,
    I1.kept (t' := tk) fun b o e => Heap.get?_push_of_some _ e, turn_range _ lo (hi - lo).toNat, ?_, fun b hb => ?_, q⟩
  · have e1 : lo + ((0 : Nat) : Int) * 1 = lo := by simp
    have e2 : (((hi - lo).toNat : Nat) : Int) - ((0 : Nat) : Int) = Builtin.Range.rangeSize lo hi 1 := by rw [rangeSize_one]; split <;> omega
    show IsRangeIter _ _ (lo + ((0 : Nat) : Int) * 1) ((((hi - lo).toNat : Nat) : Int) - ((0 : Nat) : Int)) 1
    rw [e1, e2]
    exact Heap.get?_push_size _ rfl
  · have e : b = (s.heap.push { cls := .type "range", data := .fields #[.int lo t, .int hi u, .int 1 v] }).objs.size := by simpa using hb
    subst e
    exact I1.fpOk (Nat.le_refl _) (I1.hok.fresh (Nat.le_refl _))
def iRng1 (ta : TA) : TI := fun σ H R => ta σ H fun vs H1 => ∃ j : Int, vs = [.int j] ∧ -(2 ^ 62) ≤ j ∧ j < 2 ^ 62 ∧ R (Itr 0 j.toNat) H1
def iRng2 (ta : TA) : TI := fun σ H R => ta σ H fun vs H1 => ∃ i j : Int, vs = [.int i, .int j] ∧ (-(2 ^ 62) ≤ i ∧ i < 2 ^ 62 ∧ -(2 ^ 62) ≤ j ∧ j < 2 ^ 62) ∧ R (Itr i (j - i).toNat) H1
theorem pi_range1 {a : Expr} {ta : TA} {p pos : Pos} (hg : Gl X "range") (hm : X.mg "range" = none) (ha : PA X [a] ta) (hs : starEach [a] X.env = [(false, eval a X.env)] := by rfl) : PI X tg (.Call (.Name "range" p) [a] [] pos) (iRng1 ta) := by
  intro pins s σ H R I h
  refine Call_ (ld_blt I hg hm boot_range (PyProof.Rows.callWith_type1 (thn (ha pos pins s σ H _ I h) fun us s1 ⟨vs, H1, I1, r1, q1⟩ => ?_) hs rfl))
  obtain ⟨j, e, q1, q2, q⟩ := q1
  subst e
  cases r1 with
  | cons r rr =>
    cases rr
    obtain ⟨t, rfl⟩ := r
    exact call_range_1 (range_it I1 (by omega) (by omega) q1 q2 (by simpa using q))
theorem pi_range2 {a b : Expr} {ta : TA} {p pos : Pos} (hg : Gl X "range") (hm : X.mg "range" = none) (ha : PA X [a, b] ta) (hs : starEach [a, b] X.env = [(false, eval a X.env), (false, eval b X.env)] := by rfl) (hs2 : starEach [b] X.env = [(false, eval b X.env)] := by rfl) :
    PI X tg (.Call (.Name "range" p) [a, b] [] pos) (iRng2 ta) := by
  intro pins s σ H R I h
  refine Call_ (ld_blt I hg hm boot_range (PyProof.Rows.callWith_type1 (thn (ha pos pins s σ H _ I h) fun us s1 ⟨vs, H1, I1, r1, q1⟩ => ?_) (by rw [hs, hs2]) (by rw [hs2]; rfl)))
  obtain ⟨i, j, e, ⟨q1, q2, q3, q4⟩, q⟩ := q1
  subst e
  cases r1 with
  | cons r rr =>
    cases rr with
    | cons r' rr =>
      cases rr
      obtain ⟨t, rfl⟩ := r
      obtain ⟨t', rfl⟩ := r'
      exact call_range_2 (range_it I1 q1 q2 q3 q4 q)

/-- W: the invariant by the turn and a measure; N: what the body is to reach -/
def tFor (wi : TI) (g : TG) (tb : TS) : TS := fun D σ H => wi σ H fun J H1 => ∃ W : Nat → Nat → St → Hp → Prop, (∃ m, W 0 m σ H1) ∧ ∀ i m σ H, W i m σ H →
  (J.stop i H ∧ D.nx σ H) ∨ (J.go i H ∧ ∃ N : St → Hp → Prop, (∀ σ' H', N σ' H' → ∃ m', m' < m ∧ W (i + 1) m' σ' H') ∧ ∀ x H', J.yld i H x H' → g x σ H' fun σ2 H2 => tb { D with nx := N, ct := N, bk := D.nx } σ2 H2)
/-- the records at fp as they stand -/
def pinsAt (fp : List Addr) (h : Heap) : List (Addr × Obj) := fp.filterMap fun b => (h.get? b).map fun o => (b, o)
theorem mem_pinsAt {fp : List Addr} {h : Heap} {b : Addr} {o : Obj} (hb : b ∈ fp) (e : h.get? b = some o) : (b, o) ∈ pinsAt fp h := List.mem_filterMap.mpr ⟨b, hb, by rw [e]; rfl⟩
theorem of_pinsAt {fp : List Addr} {h : Heap} {p : Addr × Obj} (hp : p ∈ pinsAt fp h) : p.1 ∈ fp ∧ h.get? p.1 = some p.2 := by
  obtain ⟨b, hb, e⟩ := List.mem_filterMap.mp hp
  cases q : h.get? b with
  | none => rw [q] at e; cases e
  | some o =>
    rw [q] at e
    have e' : (b, o) = p := Option.some.inj e
    subst e'
    exact ⟨hb, q⟩
theorem Inv.pinned {pins : List (Addr × Obj)} {σ : St} {H : Hp} {s : Shared} {fp : List Addr} (I : Inv X pins σ H s) (hf : ∀ b ∈ fp, FpOk X pins H b) (ho : ∀ b ∈ fp, ∃ o, s.heap.get? b = some o ∧ ∀ v, o.data ≠ .cell v) : Inv X (pins ++ pinsAt fp s.heap) σ H s :=
  I.pins_of fun p hp => (List.mem_append.mp hp).elim (fun z => I.pin p (List.mem_append_right _ z)) fun z => by
    obtain ⟨hb, e⟩ := of_pinsAt z
    obtain ⟨f0, f1, f2, _⟩ := hf p.1 hb
    obtain ⟨o, e', d⟩ := ho p.1 hb
    rw [e] at e'; cases e'
    exact ⟨e, f0, f1, f2, d⟩
theorem Inv.unpinned {pins pl : List (Addr × Obj)} {σ : St} {H : Hp} {s : Shared} (I : Inv X (pins ++ pl) σ H s) : Inv X pins σ H s := I.pins_of fun p hp => I.pin p (List.mem_append_right _ (List.mem_append_left _ hp))
theorem ps_for {iter : Expr} {body : List Stmt} {wi : TI} {g : TG} {tb : TS} {pos : Pos} (hp : PassesOwn (model X.prog X.w) X.A X.env X.xe) (hc : X.calm = true) (hi : PI X tg iter wi) (hg : PG X tg g) (hb : PSs X body tb)
    (hs : ∀ x, foldedSetIterable iter X.env x = pure x := by intro _; rfl) : PS X (.For tg iter body [] pos) (tFor wi g tb) := by
  intro pins s σ H D I h
  refine wpAny_For (thn (hi pins s σ H _ I h) fun v s1 h1 => thn h1 fun itv s2 h2 => ?_) hs
  obtain ⟨it, fp, tn, J, H2, e, I2, T, st2, f2, W, ⟨m0, w0⟩, turn⟩ := h2
  subst e
  -- what stays true of the iterator's objects through the loop
  have stat : ∀ {H' : Hp}, (∀ b ∈ fp, H' b = none) → ∀ b ∈ fp, FpOk X pins H' b := fun hn b hb => ⟨hn b hb, (f2 b hb).2⟩
  refine codeAny_forLoop_any (fun n s' => ∃ i σ' H', Inv X pins σ' H' s' ∧ tn i s'.heap ∧ (∀ b ∈ fp, H' b = none) ∧ W i n σ' H') ?_ m0 ⟨0, σ, H2, I2, st2, fun b hb => (f2 b hb).1, w0⟩
  rintro n s3 ⟨i, σ3, H3, I3, st3, fr3, w3⟩
  rcases turn i n σ3 H3 w3 with ⟨stop, qn⟩ | ⟨go, N, hN, step⟩
  · refine wpAny_passesOwn hp (thn (T.done X rfl rfl rfl hc i pins s3 σ3 H3 X.xe I3 (stat fr3) st3 stop) fun r s4 ⟨hr, I4⟩ => ?_)
    subst hr
    exact wpAny_execs_nil ⟨σ3, H3, I4, qn⟩
  · refine wpAny_passesOwn hp (thn (T.item X rfl rfl rfl hc i pins s3 σ3 H3 X.xe I3 (stat fr3) st3 go) fun r s4 ⟨u, hr, h4⟩ => ?_)
    subst hr
    refine wpAny_passesOwn hp (thn h4 fun _ s5 ⟨x, H5, I5, r5, y5, st5, fr5⟩ => ?_)
    have I5' := I5.pinned (stat fr5) (T.obj _ _ st5)
    refine wpAny_passesOwn hp (thn (hg _ s5 σ3 H5 x u _ I5' r5 (step x H5 y5)) fun _ s6 ⟨σ6, H6, I6, q6⟩ => ?_)
    refine wpAny_passesOwn hp (thn (hb _ s6 σ6 H6 _ I6 q6) fun f s7 q7 => ?_)
    have again : ∀ {σ7 : St} {H7 : Hp}, Inv X (pins ++ pinsAt fp s5.heap) σ7 H7 s7 → N σ7 H7 → ∃ m, m < n ∧ ∃ i σ' H', Inv X pins σ' H' s7 ∧ tn i s7.heap ∧ (∀ b ∈ fp, H' b = none) ∧ W i m σ' H' := fun {σ7 H7} I7 n7 => by
      obtain ⟨m', hm, w7⟩ := hN σ7 H7 n7
      refine ⟨m', hm, i + 1, σ7, H7, I7.unpinned, T.keep _ _ _ st5 fun b hb o e => (I7.pin (b, o) (List.mem_append_right _ (List.mem_append_right _ (mem_pinsAt hb e)))).1, fun b hb => ?_, w7⟩
      obtain ⟨o, e, d⟩ := T.obj _ _ st5 b hb
      exact (I7.pin (b, o) (List.mem_append_right _ (List.mem_append_right _ (mem_pinsAt hb e)))).2.1
    cases f with
    | next => obtain ⟨σ7, H7, I7, n7⟩ := q7; exact again I7 n7
    | cont => obtain ⟨σ7, H7, I7, n7⟩ := q7; exact again I7 n7
    | brk => obtain ⟨σ7, H7, I7, q7⟩ := q7; exact ⟨σ7, H7, I7.unpinned, q7⟩
    | ret v => obtain ⟨x7, σ7, H7, I7, r7, q7⟩ := q7; exact ⟨x7, σ7, H7, I7.unpinned, r7, q7⟩
end

end L2

namespace L2
open PySem PySem.Spec PyProof.Rows

abbrev R2 := V → V → Hp → VK → Prop
/-- a two-place operation on values: f is binaryOp op, inplaceOp op or compareOp op -/
def OpR (X : Cx) (f : Value → Value → Sem Value) (r : R2) : Prop :=
  ∀ (pins : List (Addr × Obj)) (s : Shared) (σ : St) (H : Hp) (x y : V) (v u : Value) (Q : VK), Inv X pins σ H s → RelV x v → RelV y u → r x y H Q →
    wpAny (model X.prog X.w) X.A (f v u) (EP X pins σ Q) X.xe s
/-- a one-place operation -/
def UnR (X : Cx) (f : Value → Sem Value) (r : V → Hp → VK → Prop) : Prop :=
  ∀ (pins : List (Addr × Obj)) (s : Shared) (σ : St) (H : Hp) (x : V) (v : Value) (Q : VK), Inv X pins σ H s → RelV x v → r x H Q →
    wpAny (model X.prog X.w) X.A (f v) (EP X pins σ Q) X.xe s
/-- a call of a value that is known (a builtin, a type) with values -/
def CallR (X : Cx) (f : Value) (r : List V → Hp → VK → Prop) : Prop :=
  ∀ (pins : List (Addr × Obj)) (s : Shared) (σ : St) (H : Hp) (xs : List V) (us : List Value) (Q : VK), Inv X pins σ H s → Vals xs us → r xs H Q →
    wpAny (model X.prog X.w) X.A (call f us) (EP X pins σ Q) X.xe s
/-- a value's truth -/
def TruR (X : Cx) (r : V → Hp → (Bool → Hp → Prop) → Prop) : Prop :=
  ∀ (pins : List (Addr × Obj)) (s : Shared) (σ : St) (H : Hp) (x : V) (v : Value) (Q : Bool → Hp → Prop), Inv X pins σ H s → RelV x v → r x H Q →
    wpAny (model X.prog X.w) X.A (truthy v) (TP X pins σ Q) X.xe s

def tOp (r : R2) (ta tb : TE) : TE := fun σ H Q => ta σ H fun x H1 => tb σ H1 fun y H2 => r x y H2 Q
def tUn (r : V → Hp → VK → Prop) (ta : TE) : TE := fun σ H Q => ta σ H fun x H1 => r x H1 Q
/-- ints in, under C, and a value out -/
def rI (C : Int → Int → Prop) (g : Int → Int → V) : R2 := fun x y H Q => ∃ i j, x = .int i ∧ y = .int j ∧ C i j ∧ Q (g i j) H
def rI0 (g : Int → Int → V) : R2 := fun x y H Q => ∃ i j, x = .int i ∧ y = .int j ∧ Q (g i j) H
def rU (g : Int → V) : V → Hp → VK → Prop := fun x H Q => ∃ i, x = .int i ∧ Q (g i) H

section
variable {X : Cx} {a b c : Expr} {ta tb tc : TE} {pos : Pos}

theorem binT (ha : PE X a ta) (hb : PE X b tb) {pins : List (Addr × Obj)} {s : Shared} {σ : St} {H : Hp} {R : V → V → Hp → Prop} (I : Inv X pins σ H s)
    (h : ta σ H fun x H1 => tb σ H1 fun y H2 => R x y H2) {Q : Value → Shared → Prop} {f : Value → Value → Sem Value}
    (hf : ∀ v u s2 x y H2, Inv X pins σ H2 s2 → RelV x v → RelV y u → R x y H2 → wpAny (model X.prog X.w) X.A (f v u) Q X.xe s2) :
    wpAny (model X.prog X.w) X.A (eval a X.env) (fun v s₁ => wpAny (model X.prog X.w) X.A (eval b X.env) (fun u s₂ => wpAny (model X.prog X.w) X.A (f v u) Q X.xe s₂) X.xe s₁) X.xe s := by
  refine thn (ha pins s σ H _ I h) fun v s1 ⟨x, H1, I1, r1, q1⟩ => ?_
  refine thn (hb pins s1 σ H1 _ I1 q1) fun u s2 ⟨y, H2, I2, r2, q2⟩ => ?_
  exact hf v u s2 x y H2 I2 r1 r2 q2

theorem pe_op {op : Operator} {r : R2} (ho : OpR X (binaryOp op) r) (ha : PE X a ta) (hb : PE X b tb) : PE X (.BinOp a op b pos) (tOp r ta tb) := by
  intro pins s σ H Q I h
  exact wpAny_BinOp (binT ha hb I h fun v u s2 x y H2 I2 rx ry q => ho pins s2 σ H2 x y v u Q I2 rx ry q)
theorem pe_un {op : UnaryOp} {r : V → Hp → VK → Prop} (ho : UnR X (unaryOp op) r) (ha : PE X a ta) : PE X (.UnaryOp op a pos) (tUn r ta) := by
  intro pins s σ H Q I h
  exact UnaryOp_ (thn (ha pins s σ H _ I h) fun v s1 ⟨x, H1, I1, r1, q1⟩ => ho pins s1 σ H1 x v Q I1 r1 q1)
theorem opI {f : Value → Value → Sem Value} {C : Int → Int → Prop} {g : Int → Int → Int}
    (rule : ∀ (i j : Int) (t u : Tok) (s : Shared) (Q : Value → Shared → Prop) (E : Value → Shared → Prop), C i j → Q (.int (g i j) s.toks) { s with toks := s.toks + 1 } → wpAny (model X.prog X.w) X.A (f (.int i t) (.int j u)) Q E s) :
    OpR X f (rI C fun i j => .int (g i j)) := by
  intro pins s σ H x y v u Q I rx ry h
  obtain ⟨i, j, rfl, rfl, hc, q⟩ := h
  obtain ⟨t, rfl⟩ := rx
  obtain ⟨t', rfl⟩ := ry
  exact rule i j t t' s _ _ hc ⟨.int (g i j), H, I.tok _, ⟨_, rfl⟩, q⟩
theorem opI0 {f : Value → Value → Sem Value} {g : Int → Int → Int}
    (rule : ∀ (i j : Int) (t u : Tok) (s : Shared) (Q : Value → Shared → Prop) (E : Value → Shared → Prop), Q (.int (g i j) s.toks) { s with toks := s.toks + 1 } → wpAny (model X.prog X.w) X.A (f (.int i t) (.int j u)) Q E s) :
    OpR X f (rI0 fun i j => .int (g i j)) := by
  intro pins s σ H x y v u Q I rx ry h
  obtain ⟨i, j, rfl, rfl, q⟩ := h
  obtain ⟨t, rfl⟩ := rx
  obtain ⟨t', rfl⟩ := ry
  exact rule i j t t' s _ _ ⟨.int (g i j), H, I.tok _, ⟨_, rfl⟩, q⟩
theorem opB0 {f : Value → Value → Sem Value} {g : Int → Int → Bool}
    (rule : ∀ (i j : Int) (t u : Tok) (s : Shared) (Q : Value → Shared → Prop) (E : Value → Shared → Prop), Q (.bool (g i j)) s → wpAny (model X.prog X.w) X.A (f (.int i t) (.int j u)) Q E s) :
    OpR X f (rI0 fun i j => .bl (g i j)) := by
  intro pins s σ H x y v u Q I rx ry h
  obtain ⟨i, j, rfl, rfl, q⟩ := h
  obtain ⟨t, rfl⟩ := rx
  obtain ⟨t', rfl⟩ := ry
  exact rule i j t t' s _ _ ⟨.bl (g i j), H, I, rfl, q⟩

def CPow (i j : Int) : Prop := 0 ≤ j ∧ j ≤ 1000000 ∧ i.natAbs < 2 ^ 64
def CMul (i j : Int) : Prop := (-(2 ^ 64) < i ∧ i < 2 ^ 64) ∨ (-(2 ^ 64) < j ∧ j < 2 ^ 64)
theorem CMul.ok {i j : Int} (h : CMul i j) : IntMulOk i j := by
  rcases h with ⟨h1, h2⟩ | ⟨h1, h2⟩
  · exact .of_left (intBits_le_64 h1 h2)
  · exact .of_right (intBits_le_64 h1 h2)
theorem op_add : OpR X (binaryOp .Add) (rI0 fun i j => .int (i + j)) := opI0 fun _ _ _ _ _ _ _ q => add_int q
theorem op_sub : OpR X (binaryOp .Sub) (rI0 fun i j => .int (i - j)) := opI0 fun _ _ _ _ _ _ _ q => sub_int q
theorem op_mul : OpR X (binaryOp .Mult) (rI CMul fun i j => .int (i * j)) := opI fun _ _ _ _ _ _ _ hc q => mul_int q hc.ok
/-- % by a positive divisor of any size -/
theorem op_mod : OpR X (binaryOp .Mod) (rI (fun _ j => 0 < j) fun i j => .int (i % j)) := opI fun i j _ _ _ _ _ hc q => by
  have h1 : (0 : Int) < j := hc
  exact mod_int' (by omega) (by rw [Int.fmod_eq_emod_of_nonneg i (by omega)]; exact q)
theorem op_pow : OpR X (binaryOp .Pow) (rI CPow fun i j => .int (i ^ j.toNat)) := opI fun _ _ _ _ _ _ _ hc q => pow_int_small hc.1 hc.2.1 hc.2.2 q
theorem unI {f : Value → Sem Value} {g : Int → Int}
    (rule : ∀ (i : Int) (t : Tok) (s : Shared) (Q : Value → Shared → Prop) (E : Value → Shared → Prop), Q (.int (g i) s.toks) { s with toks := s.toks + 1 } → wpAny (model X.prog X.w) X.A (f (.int i t)) Q E s) :
    UnR X f (rU fun i => .int (g i)) := by
  intro pins s σ H x v Q I rx h
  obtain ⟨i, rfl, q⟩ := h
  obtain ⟨t, rfl⟩ := rx
  exact rule i t s _ _ ⟨.int (g i), H, I.tok _, ⟨_, rfl⟩, q⟩
theorem un_neg : UnR X (unaryOp .USub) (rU fun i => .int (-i)) := unI fun _ _ _ _ _ q => neg_int q
end

section
variable {X : Cx} {a b c : Expr} {ta tb tc : TE} {pos : Pos}
theorem fin_bl {pins : List (Addr × Obj)} {σ : St} {H : Hp} {s : Shared} {Q : VK} {k k' : Bool} (I : Inv X pins σ H s) (q : Q (.bl k) H) (e : k = k') : EP X pins σ Q (.bool k') s := by
  subst e
  exact ⟨.bl k, H, I, rfl, q⟩
theorem op_lt : OpR X (compareOp .Lt) (rI0 fun i j => .bl (decide (i < j))) := opB0 fun _ _ _ _ _ _ _ q => lt_int q
theorem op_le : OpR X (compareOp .LtE) (rI0 fun i j => .bl (decide (i ≤ j))) := opB0 fun _ _ _ _ _ _ _ q => le_int q
theorem op_gt : OpR X (compareOp .Gt) (rI0 fun i j => .bl (decide (j < i))) := opB0 fun _ _ _ _ _ _ _ q => gt_int q
/-- the one string within the other -/
theorem op_in_str : OpR X (compareOp .In) (fun x y H Q => ∃ i j, x = .str i ∧ y = .str j ∧ Q (.bl (!(Builtin.Str.occurrences j i 0 j.length 1).isEmpty)) H) := by
  intro pins s σ H x y v u Q I rx ry h
  obtain ⟨i, j, rfl, rfl, q⟩ := h
  obtain ⟨t, rfl⟩ := rx
  obtain ⟨t', rfl⟩ := ry
  exact in_str (fin_bl I q rfl)

/-- is None, is not None: the right side a value none -/
theorem op_isN : OpR X (compareOp .Is) (fun x y H Q => y = .non ∧ Q (.bl (decide (x = .non))) H) := by
  intro pins s σ H x y v u Q I rx ry h
  obtain ⟨rfl, q⟩ := h
  cases ry
  refine is_none_gen (fin_bl I q ?_)
  cases x <;> first
    | (cases rx; rfl)
    | (obtain ⟨t, rfl⟩ := rx; rfl)
/-- two rules for one operation: by cases -/
theorem OpR.or {f : Value → Value → Sem Value} {r r' : R2} (h : OpR X f r) (h' : OpR X f r') : OpR X f (fun x y H Q => r x y H Q ∨ r' x y H Q) := by
  intro pins s σ H x y v u Q I rx ry q
  rcases q with q | q
  · exact h pins s σ H x y v u Q I rx ry q
  · exact h' pins s σ H x y v u Q I rx ry q

theorem nomark (b : Expr) {op : CmpOp} (h : op ≠ .In := by decide) (h2 : op ≠ .NotIn := by decide) : behindInMarks op b = false := by
  have e1 : (op == CmpOp.In) = false := by cases op <;> first | rfl | exact absurd rfl h
  have e2 : (op == CmpOp.NotIn) = false := by cases op <;> first | rfl | exact absurd rfl h2
  cases b <;> simp [behindInMarks, e1, e2]
/-- a comparison as a value; hm: nomark b, or (for in, not in) by with_unfolding_all rfl -/
theorem pe_cmpR {op : CmpOp} {r : R2} (ho : OpR X (compareOp op) r) (ha : PE X a ta) (hb : PE X b tb) (hm : behindInMarks op b = false) : PE X (.Compare a [op] [b] pos) (tOp r ta tb) := by
  intro pins s σ H Q I h
  exact wpAny_Compare1 (binT ha hb I h fun v u s2 x y H2 I2 rx ry q => ho pins s2 σ H2 x y v u Q I2 rx ry q) hm
/-- a reading of a value as a test -/
def tTest (t : TE) : TT := fun σ H Q => t σ H fun x H' => ∃ k, x = .bl k ∧ Q k H'
theorem pt_cmpR {op : CmpOp} {r : R2} (ho : OpR X (compareOp op) r) (ha : PE X a ta) (hb : PE X b tb) (hm : behindInMarks op b = false) : PT X (.Compare a [op] [b] pos) (tTest (tOp r ta tb)) := by
  intro pins s σ H Q I h
  refine wpAny_isTrue_Compare1 (thn (ha pins s σ H _ I h) fun v s1 ⟨x, H1, I1, r1, q1⟩ => thn (hb pins s1 σ H1 _ I1 q1) fun u s2 ⟨y, H2, I2, r2, q2⟩ =>
    thn (ho pins s2 σ H2 x y v u _ I2 r1 r2 q2) fun c s3 ⟨z, H3, I3, r3, k, e, q3⟩ => ?_) hm
  subst e
  cases r3
  exact wpAny_truthy_bool ⟨H3, I3, q3⟩
/-- a op1 b op2 c -/
def tChain (r r' : R2) (ta tb tc : TE) : TE := fun σ H Q => ta σ H fun x H1 => tb σ H1 fun y H2 => r x y H2 fun z H3 => ∃ k, z = .bl k ∧
  (if k = true then tc σ H3 fun w' H4 => r' y w' H4 Q else Q (.bl false) H3)
theorem pe_chain {op op' : CmpOp} {r r' : R2} (ho : OpR X (compareOp op) r) (ho' : OpR X (compareOp op') r') (ha : PE X a ta) (hb : PE X b tb) (hc : PE X c tc)
    (hm : lastMarks [op, op'] [b, c] = false := by with_unfolding_all rfl) : PE X (.Compare a [op, op'] [b, c] pos) (tChain r r' ta tb tc) := by
  intro pins s σ H Q I h
  refine Compare_chain (thn (ha pins s σ H _ I h) fun v s1 ⟨x, H1, I1, r1, q1⟩ => chain_link (thn (hb pins s1 σ H1 _ I1 q1) fun u s2 ⟨y, H2, I2, r2, q2⟩ =>
    thn (ho pins s2 σ H2 x y v u _ I2 r1 r2 q2) fun d s3 ⟨z, H3, I3, r3, k, e, q3⟩ => ?_)) hm
  subst e
  cases r3
  refine wpAny_truthy_bool ?_
  cases k with
  | false => exact ite_ff ⟨.bl false, H3, I3, rfl, q3⟩
  | true => exact ite_tt (chain_last (thn (hc pins s3 σ H3 _ I3 q3) fun w' s4 ⟨z', H4, I4, r4, q4⟩ => ho' pins s4 σ H4 y z' u w' Q I4 r2 r4 q4))
theorem pt_chain {op op' : CmpOp} {r r' : R2} (ho : OpR X (compareOp op) r) (ho' : OpR X (compareOp op') r') (ha : PE X a ta) (hb : PE X b tb) (hc : PE X c tc)
    (hm : lastMarks [op, op'] [b, c] = false := by with_unfolding_all rfl) : PT X (.Compare a [op, op'] [b, c] pos) (tTest (tChain r r' ta tb tc)) := by
  intro pins s σ H Q I h
  refine isTrue_chain (thn (ha pins s σ H _ I h) fun v s1 ⟨x, H1, I1, r1, q1⟩ => test_link (thn (hb pins s1 σ H1 _ I1 q1) fun u s2 ⟨y, H2, I2, r2, q2⟩ =>
    thn (ho pins s2 σ H2 x y v u _ I2 r1 r2 q2) fun d s3 ⟨z, H3, I3, r3, k, e, q3⟩ => ?_)) hm
  subst e
  cases r3
  refine wpAny_truthy_bool ?_
  cases k with
  | false =>
    obtain ⟨k', e', q'⟩ := q3
    cases e'
    exact ite_ff ⟨H3, I3, q'⟩
  | true =>
    refine ite_tt (test_last (thn (hc pins s3 σ H3 _ I3 q3) fun w' s4 ⟨z', H4, I4, r4, q4⟩ => thn (ho' pins s4 σ H4 y z' u w' _ I4 r2 r4 q4) fun d' s5 ⟨z2, H5, I5, r5, k2, e2, q5⟩ => ?_))
    subst e2
    cases r5
    exact wpAny_truthy_bool ⟨H5, I5, q5⟩

/-- a value's truth by the abstract heap -/
def TruV (K : PySem.W.Frag) (x : V) (H : Hp) (k : Bool) : Prop :=
  match x with
  | .non => k = false
  | .bl b => k = b
  | .int i => k = (i != 0)
  | .str y => y.length ≤ sizeLine ∧ k = ((y.length : Int) != 0)
  | .byt y => y.size ≤ sizeLine ∧ k = ((y.size : Int) != 0)
  | .ref p => (∃ xs, SqL K H p xs ∧ k = !xs.isEmpty) ∨ (∃ xs, SqT K H p xs ∧ k = !xs.isEmpty) ∨ ∃ kvs, H p = some (.dK kvs) ∧ k = !kvs.isEmpty
  | _ => False
theorem isEmpty_kv {κ : Type} {kvs : List (κ × V)} {vs : List (κ × Value)} (r : KV kvs vs) : (!vs.isEmpty) = !kvs.isEmpty := by
  cases r <;> rfl
theorem isEmpty_of {xs : List V} {its : List Value} (r : Vals xs its) : (!its.toArray.isEmpty) = !xs.isEmpty := by
  cases r <;> simp
theorem line63 : (sizeLine : Nat) < 2 ^ 63 := by rw [sizeLine_eq]; decide
theorem tru_ok : TruR X (fun x H Q => ∃ k, TruV X.K x H k ∧ Q k H) := by
  intro pins s σ H x v Q I rx h
  obtain ⟨k, e, q⟩ := h
  have hl := line63
  have hs : sizeLine = 16777216 := sizeLine_eq
  cases x with
  | non =>
    cases rx
    have e' : k = false := e
    subst e'
    exact truthy_none ⟨H, I, q⟩
  | bl b =>
    cases rx
    have e' : k = b := e
    subst e'
    exact wpAny_truthy_bool ⟨H, I, q⟩
  | int i =>
    obtain ⟨t, rfl⟩ := rx
    have e' : k = (i != 0) := e
    subst e'
    exact PySem.P.truthy_int ⟨H, I, q⟩
  | str y =>
    obtain ⟨t, rfl⟩ := rx
    obtain ⟨hy, e'⟩ : y.length ≤ sizeLine ∧ k = ((y.length : Int) != 0) := e
    subst e'
    exact PySem.P.truthy_str (by omega) ⟨H, I.tok _, q⟩
  | byt y =>
    obtain ⟨t, rfl⟩ := rx
    obtain ⟨hy, e'⟩ : y.size ≤ sizeLine ∧ k = ((y.size : Int) != 0) := e
    subst e'
    exact PySem.W.truthy_bytes (by omega) ⟨H, I.tok _, q⟩
  | ref p =>
    cases rx
    have e' : (∃ xs, SqL X.K H p xs ∧ k = !xs.isEmpty) ∨ (∃ xs, SqT X.K H p xs ∧ k = !xs.isEmpty) ∨ ∃ kvs, H p = some (.dK kvs) ∧ k = !kvs.isEmpty := e
    rcases e' with ⟨xs, hx, e'⟩ | ⟨xs, hx, e'⟩ | ⟨kvs, hx, e'⟩
    · subst e'
      obtain ⟨its, r, pl, hz⟩ := I.list hx
      have hlen := r.length
      exact wpAny_truthy_list pl.isList (by simp only [List.size_toArray]; omega) ⟨H, I.tok _, by rw [isEmpty_of r]; exact q⟩
    · subst e'
      obtain ⟨its, r, pl, hz⟩ := I.tuple hx
      have hlen := r.length
      exact truthy_tuple pl (by simp only [List.size_toArray]; omega) ⟨H, I.tok _, by rw [isEmpty_of r]; exact q⟩
    · subst e'
      obtain ⟨hz, hS, vs, r, m⟩ : kvs.length ≤ sizeLine ∧ (p == sysModules) = false ∧ ∃ vs, KV kvs vs ∧ s.heap.DictOf (mixKind X.prog X.w) p vs := I.hok p _ hx
      have hlen : kvs.length = vs.length := Paired.length r
      exact wpAny_truthy_dict hS m (by omega) ⟨H, I.tok _, by rw [isEmpty_kv r]; exact q⟩
  | _ => exact (show False from e).elim
/-- any expression whose test is its value's truth (a name, a call, a subscript, a field ..: he by fun _ => rfl) -/
theorem pt_truth (ha : PE X a ta) (he : ∀ whole, isTrue a X.env whole = (do let v ← whole; standAt a.pos; holding [v] (truthy v))) :
    PT X a (fun σ H Q => ta σ H fun x H' => ∃ k, TruV X.K x H' k ∧ Q k H') := by
  intro pins s σ H Q I h
  exact isTrue_plain (thn (ha pins s σ H _ I h) fun v s1 ⟨x, H1, I1, r1, q1⟩ => tru_ok pins s1 σ H1 x v Q I1 r1 q1) (he _)

theorem op_add_str : OpR X (binaryOp .Add) (fun x y H Q => ∃ i j, x = .str i ∧ y = .str j ∧ i.length + j.length ≤ sizeLine ∧ Q (.str (i ++ j)) H) := by
  intro pins s σ H x y v u Q I rx ry h
  obtain ⟨i, j, rfl, rfl, hz, q⟩ := h
  obtain ⟨t, rfl⟩ := rx
  obtain ⟨t', rfl⟩ := ry
  exact add_str (fun t' tk => ⟨.str (i ++ j), H, I.tok _, ⟨_, rfl⟩, q⟩) hz
theorem vals1 {x : V} {us : List Value} (r : Vals [x] us) : ∃ u, us = [u] ∧ RelV x u := by
  cases r with
  | cons r1 r2 => cases r2; exact ⟨_, rfl, r1⟩
theorem vals2 {x y : V} {us : List Value} (r : Vals [x, y] us) : ∃ u w', us = [u, w'] ∧ RelV x u ∧ RelV y w' := by
  cases r with
  | cons r1 r2 =>
    cases r2 with
    | cons r3 r4 => cases r4; exact ⟨_, _, rfl, r1, r3⟩
theorem call_abs : CallR X (.builtin "abs") (fun xs H Q => ∃ i, xs = [.int i] ∧ Q (.int (if i < 0 then -i else i)) H) := by
  intro pins s σ H xs us Q I r h
  obtain ⟨i, rfl, q⟩ := h
  obtain ⟨u, rfl, t, rfl⟩ := vals1 r
  exact call_abs_int fun u tk => ⟨.int (if i < 0 then -i else i), H, I.tok _, ⟨_, rfl⟩, q⟩
theorem call_max2 (hc : X.calm = true) : CallR X (.builtin "max") (fun xs H Q => ∃ i j, xs = [.int i, .int j] ∧ Q (.int (if j > i then j else i)) H) := by
  intro pins s σ H xs us Q I r h
  obtain ⟨i, j, rfl, q⟩ := h
  obtain ⟨u, w', rfl, ⟨t, rfl⟩, ⟨t', rfl⟩⟩ := vals2 r
  refine max_two_ints (I.ok.hd hc) fun h' tk k => ⟨_, H, I.kept k, ?_, q⟩
  by_cases hj : j > i
  · rw [if_pos hj, if_pos hj]; exact ⟨_, rfl⟩
  · rw [if_neg hj, if_neg hj]; exact ⟨_, rfl⟩
theorem call_min2 (hc : X.calm = true) : CallR X (.builtin "min") (fun xs H Q => ∃ i j, xs = [.int i, .int j] ∧ Q (.int (if j < i then j else i)) H) := by
  intro pins s σ H xs us Q I r h
  obtain ⟨i, j, rfl, q⟩ := h
  obtain ⟨u, w', rfl, ⟨t, rfl⟩, ⟨t', rfl⟩⟩ := vals2 r
  refine min_two_ints (I.ok.hd hc) fun h' tk k => ⟨_, H, I.kept k, ?_, q⟩
  by_cases hj : j < i
  · rw [if_pos hj, if_pos hj]; exact ⟨_, rfl⟩
  · rw [if_neg hj, if_neg hj]; exact ⟨_, rfl⟩
theorem call_int1 : CallR X (.type "int") (fun xs H Q => (∃ i, xs = [.int i] ∧ Q (.int i) H) ∨ ∃ k, xs = [.bl k] ∧ Q (.int (if k then 1 else 0)) H) := by
  intro pins s σ H xs us Q I r h
  rcases h with ⟨i, rfl, q⟩ | ⟨k, rfl, q⟩
  · obtain ⟨u, rfl, t, rfl⟩ := vals1 r
    exact call_int_int ⟨.int i, H, I, ⟨_, rfl⟩, q⟩
  · obtain ⟨u, rfl, r1⟩ := vals1 r
    cases r1
    exact call_int_bool ⟨.int (if k then 1 else 0), H, I.tok _, ⟨_, rfl⟩, q⟩
/-- len of a str, a bytes, a list, a tuple -/
def LenV (K : PySem.W.Frag) (x : V) (H : Hp) (n : Nat) : Prop :=
  match x with
  | .str y => y.length ≤ sizeLine ∧ n = y.length
  | .byt y => y.size ≤ sizeLine ∧ n = y.size
  | .ref p => (∃ xs, SqL K H p xs ∧ n = xs.length) ∨ ∃ xs, SqT K H p xs ∧ n = xs.length
  | _ => False
theorem call_len : CallR X (.builtin "len") (fun xs H Q => ∃ x n, xs = [x] ∧ LenV X.K x H n ∧ Q (.int n) H) := by
  intro pins s σ H xs us Q I r h
  obtain ⟨x, n, rfl, e, q⟩ := h
  obtain ⟨u, rfl, rx⟩ := vals1 r
  have hl := line63
  have hs : sizeLine = 16777216 := sizeLine_eq
  cases x with
  | str y =>
    obtain ⟨t, rfl⟩ := rx
    obtain ⟨hy, e'⟩ : y.length ≤ sizeLine ∧ n = y.length := e
    subst e'
    exact len_str (by omega) ⟨.int _, H, I.tok _, ⟨_, rfl⟩, q⟩
  | byt y =>
    obtain ⟨t, rfl⟩ := rx
    obtain ⟨hy, e'⟩ : y.size ≤ sizeLine ∧ n = y.size := e
    subst e'
    exact PySem.W.len_bytes (by omega) ⟨.int _, H, I.tok _, ⟨_, rfl⟩, q⟩
  | ref p =>
    cases rx
    have e' : (∃ xs, SqL X.K H p xs ∧ n = xs.length) ∨ ∃ xs, SqT X.K H p xs ∧ n = xs.length := e
    rcases e' with ⟨xs, hx, e'⟩ | ⟨xs, hx, e'⟩
    · subst e'
      obtain ⟨its, r', pl, hz⟩ := I.list hx
      have hlen := r'.length
      exact Calls.call_len_list pl.isList (by simp only [List.size_toArray]; omega) ⟨.int xs.length, H, I.tok _, ⟨_, by simp only [List.size_toArray]; rw [hlen]⟩, q⟩
    · subst e'
      obtain ⟨its, r', pl, hz⟩ := I.tuple hx
      have hlen := r'.length
      exact len_tuple pl (by simp only [List.size_toArray]; omega) ⟨.int xs.length, H, I.tok _, ⟨_, by simp only [List.size_toArray]; rw [hlen]⟩, q⟩
  | _ => exact (show False from e).elim
end
end L2

namespace L2
open PySem PySem.Spec PyProof.Rows

structure ObjM (h : Heap) (x dx C : Addr) (mA : Str → Option Value) : Prop where
  obj : h.get? x = some (PySem.W.instObj C dx)
  ns : h.Ns1 dx mA
  ne : dx ≠ x

theorem lookIn_ns {h : Heap} {dx : Addr} {mA : Str → Option Value} (n : h.Ns1 dx mA) : ∃ od, h.get? dx = some od ∧ ∀ name, PySem.W.lookIn name od = some (mA name) := by
  obtain ⟨o, es, ep, ho, hd, hk, _, hm⟩ := n
  refine ⟨o, ho, fun name => ?_⟩
  have e := hm name
  unfold nsFind findBy at e
  rw [← Array.find?_toList] at e
  unfold PySem.W.lookIn
  rw [hd]
  dsimp only
  split
  · rename_i y q
    rw [q] at e
    exact congrArg some e
  · rename_i q
    rw [q] at e
    have a : es.toList.any (·.refKey) = false := by
      rw [List.any_eq_false]
      intro y hy
      obtain ⟨z, t, hkey⟩ := hk y (Array.mem_toList_iff.mp hy)
      simp [DictEntry.refKey, hkey]
    have a' : ¬ es.toList.any (·.refKey) = true := by rw [a]; exact Bool.false_ne_true
    rw [if_neg a']
    exact congrArg some e

theorem ObjM.look {h : Heap} {x dx C : Addr} {mA : Str → Option Value} (I : ObjM h x dx C mA) : ∃ od, PySem.W.InstAt h x (PySem.W.instObj C dx) C (some od) ∧ ∀ name, PySem.W.lookIn name od = some (mA name) :=
  let ⟨od, ho, hl⟩ := lookIn_ns I.ns
  ⟨od, ⟨I.obj, rfl, rfl, ho⟩, hl⟩

section
variable {prog : Program} {w : World} {A : Around} {E : Value → Shared → Prop} {s : Shared} {K : PySem.W.Frag} {x dx C f : Addr} {mA : Str → Option Value} {name : Str} {v : Value}

end

section
variable {P : Program} {w : World} {H H' : Hp} {h h' : Heap} {a C dx : Addr} {fs fs' : List (Str × V)}
theorem ins_get (hok : HOk P w H h) (e : H a = some (.ins C dx fs)) : ∃ mA, ObjM h a dx C mA ∧ (∀ f, RelO (fs.lookup f) (mA f)) ∧ PySem.Within mA (fs.map (·.1)) ∧ fs.length ≤ 1000 ∧ H dx = some (.own a) := by
  obtain ⟨d, z, ne, ob, mA, n, r, q⟩ := (show ObjOk P w H h a (.ins C dx fs) from hok a _ e)
  exact ⟨mA, ⟨ob, n, ne⟩, r, q, z, d⟩
end

structure Cls (K : PySem.W.Frag) (C : Addr) : Prop where
  pg : PySem.W.plainGet K C Str.empty = true
  hd : PySem.W.hasDictIn K C = true
  po : PySem.W.plainOver K C = true
  sa : PySem.W.findIn K (.ref C) "__setattr__" = some (some (.builtin "object.__setattr__"))
theorem Cls.get {K : PySem.W.Frag} {C : Addr} (c : Cls K C) (f : Str) : PySem.W.plainGet K C f = true := c.pg
structure Con (K : PySem.W.Frag) (C : Addr) (f : Str) (v : V) (u : Value) : Prop where
  at_ : PySem.W.findIn K (.ref C) f = some (some u)
  rel : RelV v u
  get : PySem.W.specialIn K u "__get__" = some none
  cp : PySem.W.copiedNames.contains f = false
structure Meth (K : PySem.W.Frag) (C : Addr) (m : Str) (f : Addr) : Prop where
  at_ : PySem.W.findIn K (.ref C) m = some (some (.ref f))
  fn : PySem.W.isFn K (.ref f) = true
  kp : PySem.W.keepIn K (.ref f) = true

section
variable {X : Cx} {pins : List (Addr × Obj)} {σ : St} {H : Hp} {s : Shared} {a C dx : Addr} {fs : List (Str × V)} {f : Str} {v : V} {A : Around} {E : Value → Shared → Prop}

end

section
variable {X : Cx} {o e value : Expr} {f : Str} {pos pos' tpos : Pos} {ta tv : TE}
end

section
variable {X : Cx} {pins : List (Addr × Obj)} {σ : St} {H : Hp} {s : Shared} {A : Around} {E : Value → Shared → Prop} {Q : Value → Shared → Prop} {c : Value} {b : Bool}
inductive TyOf (K : PySem.W.Frag) (H : Hp) : V → Value → Prop where
  | non : TyOf K H .non (.type "NoneType")
  | bl (x : Bool) : TyOf K H (.bl x) (.type "bool")
  | int (i : Int) : TyOf K H (.int i) (.type "int")
  | str (x : Str) : TyOf K H (.str x) (.type "str")
  | flt (x : UInt64) : TyOf K H (.flt x) (.type "float")
  | lst {a : Addr} {xs : List V} (e : H a = some (.lst xs)) : TyOf K H (.ref a) (.type "list")
  | frz {a : Addr} {o : Obj} {xs : List V} (e : H a = some (.frz o (.lst xs))) : TyOf K H (.ref a) (.type "list")
  | tup {a : Addr} {xs : List V} (e : H a = some (.tup xs)) : TyOf K H (.ref a) (.type "tuple")
  | dK {a : Addr} {kvs : List (Key × V)} (e : H a = some (.dK kvs)) : TyOf K H (.ref a) (.type "dict")
  | dT {a : Addr} {kvs : List (List Key × V)} (e : H a = some (.dT kvs)) : TyOf K H (.ref a) (.type "dict")
  | ins {a C dx : Addr} {fs : List (Str × V)} (e : H a = some (.ins C dx fs)) (cl : Cls K C) (ha : PySem.W.findIn K (.ref C) "__class__" = some (some (.builtin "object.__class__")))
      (hn : PySem.W.specialIn K (.builtin "object.__class__") "__get__" = some (some (.builtin "getset_descriptor.__get__"))) (htk : PySem.W.takesIn K (.builtin "object.__class__") = some true)
      (hm : PySem.W.mroIn K C (.type "object") = some true) : TyOf K H (.ref a) (.ref C)
/-- isinstance(x, c) for one class c, a built-in or an own one: kitOne's answer -/
theorem isinst_ok {x : V} {u t : Value} (I : Inv X pins σ H s) (rx : RelV x u) (ty : TyOf X.K H x t) (e : PySem.W.kitOne X.K t c = some b) (h : ∀ tk, Q (.bool b) { s with toks := tk }) :
    wpAny (model X.prog X.w) A (call (.builtin "isinstance") [u, c]) Q E s := by
  cases ty with
  | non => cases (show u = Value.none from rx); exact PySem.W.kia_one PySem.W.kitx_none I.kIn True.intro e (fun z => nomatch z) h
  | bl y => cases (show u = Value.bool y from rx); exact PySem.W.kia_one PySem.W.kitx_bool I.kIn True.intro e (fun z => nomatch z) h
  | int i => obtain ⟨t, q⟩ := (show ∃ t, u = Value.int i t from rx); cases q; exact PySem.W.kia_one PySem.W.kitx_int I.kIn True.intro e (fun z => nomatch z) h
  | str y => obtain ⟨t, q⟩ := (show ∃ t, u = Value.str y t from rx); cases q; exact PySem.W.kia_one PySem.W.kitx_str I.kIn True.intro e (fun z => nomatch z) h
  | flt y => obtain ⟨t, q⟩ := (show ∃ t, u = Value.float y t from rx); cases q; exact PySem.W.kia_one PySem.W.kitx_float I.kIn True.intro e (fun z => nomatch z) h
  | @lst a xs ea =>
    cases (show u = Value.ref a from rx)
    obtain ⟨_, _, n, _, h1⟩ := (show ObjOk X.prog X.w H s.heap a (.lst xs) from I.hok a _ ea)
    exact PySem.W.kia_one PySem.W.kitx_list I.kIn ⟨_, h1, rfl⟩ e (fun z => nomatch z) h
  | @frz a ob xs ea =>
    cases (show u = Value.ref a from rx)
    obtain ⟨_, _, _, n, _, h1⟩ := (show ObjOk X.prog X.w H s.heap a (.frz ob (.lst xs)) from I.hok a _ ea)
    exact PySem.W.kia_one PySem.W.kitx_list I.kIn ⟨_, h1, rfl⟩ e (fun z => nomatch z) h
  | @tup a xs ea =>
    cases (show u = Value.ref a from rx)
    obtain ⟨_, _, _, p⟩ := (show ObjOk X.prog X.w H s.heap a (.tup xs) from I.hok a _ ea)
    obtain ⟨o, h1, h2, _⟩ := p
    exact PySem.W.kia_one PySem.W.kitx_tuple I.kIn ⟨o, h1, h2⟩ e (fun z => nomatch z) h
  | @dK a kvs ea =>
    cases (show u = Value.ref a from rx)
    obtain ⟨_, _, vs, _, p⟩ := (show ObjOk X.prog X.w H s.heap a (.dK kvs) from I.hok a _ ea)
    obtain ⟨o, es, ep, h1, h2, _⟩ := p
    exact PySem.W.kia_one PySem.W.kitx_dict I.kIn ⟨o, h1, h2.1⟩ e (fun z => nomatch z) h
  | @dT a kvs ea =>
    cases (show u = Value.ref a from rx)
    obtain ⟨_, _, xs, _, o, es, ep, h1, h2, _⟩ := (show ObjOk X.prog X.w H s.heap a (.dT kvs) from I.hok a _ ea)
    exact PySem.W.kia_one PySem.W.kitx_dict I.kIn ⟨o, h1, h2.1⟩ e (fun z => nomatch z) h
  | @ins a C dx fs ea cl ha hn htk hm =>
    cases (show u = Value.ref a from rx)
    obtain ⟨mA, O, _⟩ := ins_get I.hok ea
    obtain ⟨od, J, _⟩ := O.look
    exact PySem.W.kia_one (PySem.W.kitx_own (cl.get _) cl.hd ha hn htk hm) I.kIn J e (fun z => nomatch z) h
end
end L2

namespace L2
open PySem PySem.Spec PyProof.Rows

structure Room (k : Nat) (A : Around) : Prop where
  hd : A.handled = none
  dp : A.depth + 3 * k + 5 < recursionLimit
  un : A.units + 16 * k + 200 < cLine
theorem Room.mono {j k : Nat} {A : Around} (r : Room k A) (h : j ≤ k) : Room j A := ⟨r.hd, by have := r.dp; omega, by have := r.un; omega⟩
theorem Room.deeper {k : Nat} {A : Around} (r : Room (k + 1) A) (env : Env) : Room k (A.deeper env) :=
  ⟨r.hd, by have := r.dp; show A.depth + 1 + 3 * k + 5 < _; omega, by have := r.un; show A.units + 3 + 16 * k + 200 < _; omega⟩
theorem Room.in1 {k : Nat} {A : Around} (r : Room (k + 1) A) : Room k A.in1 :=
  ⟨r.hd, by have := r.dp; show A.depth + 3 * k + 5 < _; omega, by have := r.un; show A.units + 1 + 16 * k + 200 < _; omega⟩
theorem Room.depth {k : Nat} {A : Around} (r : Room k A) : A.depth < recursionLimit := by have := r.dp; omega
theorem Room.units {k : Nat} {A : Around} (r : Room k A) : A.units + 64 < cLine := by have := r.un; omega
def tNil : TA := fun _ H Q => Q [] H
def tCons (ta : TE) (tr : TA) : TA := fun σ H Q => ta σ H fun x H1 => tr σ H1 fun xs H2 => Q (x :: xs) H2
section
variable {X : Cx} {e : Expr} {es : List Expr} {te : TE} {t : TA} {pos : Pos}
theorem pa_nil : PA X [] tNil := fun _ _ _ _ H Q I h => Calls.spliced_nil ⟨[], H, I, .nil, h⟩
theorem pa_cons (ha : PE X e te) (hr : PA X es t) (hs : starEach (e :: es) X.env = (false, eval e X.env) :: starEach es X.env := by rfl) : PA X (e :: es) (tCons te t) := by
  intro pos pins s σ H Q I h
  rw [hs]
  show wpAny _ _ (spliced ((false, eval e X.env) :: backTo pos (starEach es X.env))) _ _ s
  refine Calls.spliced_cons (thn (ha pins s σ H _ I h) fun u s1 ⟨x, H1, I1, r1, q1⟩ => ?_)
  exact thn (hr pos pins s1 σ H1 _ I1 q1) fun us s2 ⟨xs, H2, I2, r2, q2⟩ => ⟨x :: xs, H2, I2, .cons r1 r2, q2⟩

/-- a tuple, a list of written items -/
def tTup (t : TA) : TE := fun σ H Q => t σ H fun xs H1 => xs.length ≤ sizeLine ∧ ∀ p, H1 p = none → Q (.ref p) (upd H1 p (.tup xs))
def tLst (t : TA) : TE := fun σ H Q => t σ H fun xs H1 => xs.length ≤ sizeLine ∧ ∀ p, H1 p = none → Q (.ref p) (upd H1 p (.lst xs))
theorem pe_tup {x1} (h : PA X es t) : PE X (.Tuple es x1 pos) (tTup t) := by
  intro pins s σ H Q I hq
  refine wpAny_Tuple_spliced (thn (h pos pins s σ H _ I hq) fun us s1 ⟨xs, H1, I1, r, z, q⟩ => ⟨by rw [← r.length]; exact z, ?_⟩)
  have hf : H1 s1.heap.objs.size = none := I1.hok.fresh (Nat.le_refl _)
  refine ⟨.ref s1.heap.objs.size, upd H1 s1.heap.objs.size (.tup xs), I1.laid (t' := s1.toks) (fun b u e => Heap.get?_push_of_some _ e) (Nat.le_refl _) ?_, rfl, q _ hf⟩
  exact ⟨z, us, r, ⟨_, Heap.get?_push_size _ rfl, rfl, _, rfl⟩⟩
theorem pe_lst (h : PA X es t) : PE X (.List es pos) (tLst t) := by
  intro pins s σ H Q I hq
  refine wpAny_List_spliced (thn (h pos pins s σ H _ I hq) fun us s1 ⟨xs, H1, I1, r, z, q⟩ => ⟨by rw [← r.length]; exact z, ?_⟩)
  have hf : H1 s1.heap.objs.size = none := I1.hok.fresh (Nat.le_refl _)
  refine ⟨.ref s1.heap.objs.size, upd H1 s1.heap.objs.size (.lst xs), I1.laid (t' := s1.toks) (fun b u e => Heap.get?_push_of_some _ e) (Nat.le_refl _) ?_, rfl, q _ hf⟩
  exact ⟨z, us, 0, r, Heap.get?_push_size _ rfl⟩
end

/-- a def's promise: the bound arguments in the parameters' order, the heap, the wanted end, the wanted exception -/
abbrev Sp := List V → Hp → VK → XK → Prop
/-- how an exception lies behind a call (file 08 gives it): the callers' frames, abstract heap and state ahead of the call, the wish, the exception, the state -/
abbrev CXT := List Env → Hp → Shared → XK → Value → Shared → Prop

structure Env0 (P : Program) (w : World) (K : PySem.W.Frag) (mg : Str → Option Value) (base : Heap) (A : Around) (outer : List Env) (s : Shared) (H : Hp) : Prop where
  frames : A.frames = some outer
  mod : Mod K mg base
  bs : ∀ b o, base.get? b = some o → s.heap.get? b = some o ∧ H b = none
  bsz : base.objs.size ≤ s.heap.objs.size
  funs : s.heap.FunFrames base outer
  frf : ∀ b ∈ frs outer, H b = none
  hok : HOk P w H s.heap
  bare : AllBare s.gens
/-- a call's end -/
def CE (outer : List Env) (P : Program) (w : World) (H : Hp) (s : Shared) (Q : VK) (u : Value) (s' : Shared) : Prop :=
  ∃ v H', s'.os = s.os ∧ AllBare s'.gens ∧ Un (frs outer) [] H H' s.heap s'.heap ∧ HOk P w H' s'.heap ∧ RelV v u ∧ Q v H'
def CR (CX : CXT) (outer : List Env) (P : Program) (w : World) (H : Hp) (s : Shared) (Q : VK) (E : XK) (r : Result) (s' : Shared) : Prop :=
  match r with
  | .ok (.ret u) => CE outer P w H s Q u s'
  | .ok _ => False
  | .error e => CX outer H s E e s'
structure FnOk (P : Program) (w : World) (K : PySem.W.Frag) (mg : Str → Option Value) (base : Heap) (CX : CXT) (k : Nat) (f : Addr) (fd : FuncData) (ps : List Str) (sp : Sp) : Prop where
  len : ∀ vs H Q E, sp vs H Q E → vs.length = ps.length
  run : ∀ (A : Around) (outer : List Env) (s : Shared) (H : Hp) (args : Args) (us : List Value) (vs : List V) (Q : VK) (E : XK), Room k A → Env0 P w K mg base A outer s H → BindsTo s fd args (ps.zip us) → Vals vs us → sp vs H Q E →
    codeAny (model P w) A (.call (.ref f) args) (CR CX outer P w H s Q E) s
theorem FnOk.mono {P : Program} {w : World} {K : PySem.W.Frag} {mg : Str → Option Value} {base : Heap} {CX : CXT} {j k : Nat} {f : Addr} {fd : FuncData} {ps : List Str} {sp : Sp} (F : FnOk P w K mg base CX j f fd ps sp) (h : j ≤ k) :
    FnOk P w K mg base CX k f fd ps sp := ⟨F.len, fun A outer s H args us vs Q E hr => F.run A outer s H args us vs Q E (hr.mono h)⟩
/-- a weaker promise -/
theorem FnOk.imp {P : Program} {w : World} {K : PySem.W.Frag} {mg : Str → Option Value} {base : Heap} {CX : CXT} {k : Nat} {f : Addr} {fd : FuncData} {ps : List Str} {sp sp' : Sp} (F : FnOk P w K mg base CX k f fd ps sp)
    (h : ∀ vs H Q E, sp' vs H Q E → sp vs H Q E) : FnOk P w K mg base CX k f fd ps sp' :=
  ⟨fun vs H Q E q => F.len vs H Q E (h _ _ _ _ q), fun A outer s H args us vs Q E hr he hb hv hs => F.run A outer s H args us vs Q E hr he hb hv (h _ _ _ _ hs)⟩

theorem Env0.in1 {P : Program} {w : World} {K : PySem.W.Frag} {mg : Str → Option Value} {base : Heap} {A : Around} {outer : List Env} {s : Shared} {H : Hp} (e : Env0 P w K mg base A outer s H) :
    Env0 P w K mg base A.in1 outer s H := ⟨e.frames, e.mod, e.bs, e.bsz, e.funs, e.frf, e.hok, e.bare⟩

section
variable {X : Cx} {pins : List (Addr × Obj)} {σ : St} {H : Hp} {s s' : Shared}
/-- from a body: what a callee wants -/
theorem Inv.env0 (I : Inv X pins σ H s) : Env0 X.prog X.w X.K X.mg X.base X.A X.stack s H :=
  ⟨I.ok.frames, I.ok.mod, I.bs, Nat.le_trans I.ok.bsz I.sz, I.stack, I.stkFree, I.hok, I.bare⟩
/-- behind a call -/
theorem Inv.after {Q : VK} {u : Value} (I : Inv X pins σ H s) (h : CE X.stack X.prog X.w H s Q u s') : EP X pins σ Q u s' := by
  obtain ⟨v, H', os, bare, un, hok, r, q⟩ := h
  obtain ⟨hh, g, d, t, os'⟩ := s'
  obtain rfl : os' = s.os := os
  exact ⟨v, H', I.call (h' := hh) (g' := g) (d' := d) (t' := t) (ch := []) un hok bare (fun b z => absurd z (by simp)), r, q⟩
end

/-- f(..): the written arguments, then the defaults dvs; E: what is wanted of an exception -/
def tCall (sp : Sp) (dvs : List V) (E : XK) (t : TA) : TE := fun σ H Q => t σ H fun vs H1 => sp (vs ++ dvs) H1 Q E
/-- how the parameters are bound: us the positional arguments, kw the keywords' values by name, ds the defaults that fill up -/
def Binds (K : PySem.W.Frag) (fd : FuncData) (ps : List Str) (ds : List Value) : Prop :=
  ∀ (s : Shared) (us : List Value), K.In s.heap → (us ++ ds).length = ps.length → BindsTo s fd ⟨us, []⟩ (ps.zip (us ++ ds))
/-- every parameter is given -/
theorem Binds.all {K : PySem.W.Frag} {fd : FuncData} {ps : List Str} (h : ∀ us : List Value, us.length = ps.length → bindArgs fd ⟨us, []⟩ = pure (ps.zip us)) : Binds K fd ps [] := fun s us _ hl => by
  rw [List.append_nil] at hl ⊢
  exact .of_eq (h us hl)

/-- an exception of a callee reaches what this body wants of exceptions -/
def Passes (CX : CXT) (X : Cx) (E : XK) : Prop := ∀ (pins : List (Addr × Obj)) (σ : St) (H : Hp) (s : Shared) (e : Value) (s' : Shared), Inv X pins σ H s → CX X.stack H s E e s' → X.xe e s'

section
variable {X : Cx} {CX : CXT} {k : Nat} {f C : Addr} {fd : FuncData} {ps : List Str} {sp : Sp} {dvs : List V} {ds : List Value} {E : XK} {x m : Str} {p pos apos : Pos} {e o : Expr} {es : List Expr} {ta : TE} {t : TA}

/-- the callee runs -/
theorem run_fn {pins : List (Addr × Obj)} {σ : St} {H : Hp} {s : Shared} {Q : VK} {us : List Value} {vs : List V} (F : FnOk X.prog X.w X.K X.mg X.base CX k f fd ps sp) (hr : Room k X.A) (hb : Binds X.K fd ps ds) (hd : Vals dvs ds) (hx : Passes CX X E)
    (I : Inv X pins σ H s) (r : Vals vs us) (h : sp (vs ++ dvs) H Q E) : wpAny (model X.prog X.w) X.A (call (.ref f) us) (EP X pins σ Q) X.xe s := by
  have r2 : Vals (vs ++ dvs) (us ++ ds) := r.append hd
  have hl : (us ++ ds).length = ps.length := by rw [← r2.length]; exact F.len _ _ _ _ h
  refine wpAny_call (codeAny_mono (F.run X.A X.stack s H ⟨us, []⟩ (us ++ ds) (vs ++ dvs) Q E hr I.env0 (hb s us I.kIn hl) r2 h) fun r s' hq => ?_)
  cases r with
  | error e => exact hx pins σ H s e s' I hq
  | ok fl =>
    cases fl with
    | ret u => exact I.after hq
    | next => exact False.elim hq
    | brk => exact False.elim hq
    | cont => exact False.elim hq

theorem pe_call (F : FnOk X.prog X.w X.K X.mg X.base CX k f fd ps sp) (hr : Room k X.A) (hg : Gl X x) (hm : X.mg x = some (.ref f)) (hk : PySem.W.keepIn X.K (.ref f) = true) (hb : Binds X.K fd ps ds) (hd : Vals dvs ds) (hx : Passes CX X E)
    (ha : PA X (e :: es) t) (hdb : (x == ("__debug__" : Str)) = false := by decide) (he : starEach (e :: es) X.env = (false, eval e X.env) :: starEach es X.env := by rfl) (hpl : (backTo pos (starEach es X.env)).any (·.1) = false := by rfl) :
    PE X (.Call (.Name x p) (e :: es) [] pos) (tCall sp dvs E t) := by
  intro pins s σ H Q I h
  refine wpAny_Call_Name_kw (ld_glob I hg hm ?_ hdb)
  refine PySem.W.callWith_K (h₀ := X.base) I.ok.mod.kin hk (thn (ha pos pins s σ H _ I h) fun us s1 ⟨vs, H1, I1, r, q⟩ => ⟨I1.kIn, ?_⟩) he hpl
  exact run_fn F hr hb hd hx I1 r q
structure Mk (K : PySem.W.Frag) (C f : Addr) : Prop where
  makes : PySem.W.makesIn K C = true
  init : PySem.W.findIn K (.ref C) "__init__" = some (some (.ref f))
  fn : PySem.W.isFn K (.ref f) = true
  kp : PySem.W.keepIn K (.ref C) = true

end

/-- the values of the keywords, from the left -/
def PK (X : Cx) (kws : List Keyword) (t : TA) : Prop :=
  ∀ (pos : Pos) (pins : List (Addr × Obj)) (s : Shared) (σ : St) (H : Hp) (Q : List V → Hp → Prop), Inv X pins σ H s → t σ H Q → wpAny (model X.prog X.w) X.A (evalAll ((backToKw pos (keywordEach kws X.env)).map (·.2))) (AP X pins σ Q) X.xe s
section
variable {X : Cx} {CX : CXT} {k : Nat} {f C : Addr} {fd : FuncData} {ps ks : List Str} {sp : Sp} {E : XK} {x m : Str} {p pos apos kpos : Pos} {e o : Expr} {es : List Expr} {kws : List Keyword} {te ta : TE} {t tk : TA} {nm : Option Str}
structure KBinds (K : PySem.W.Frag) (fd : FuncData) (ps ks : List Str) (g : List Value → List Value → List Value) (gV : List V → List V → List V) : Prop where
  to : ∀ (s : Shared) (us ws : List Value), K.In s.heap → (g us ws).length = ps.length → BindsTo s fd ⟨us, ks.zip ws⟩ (ps.zip (g us ws))
  rel : ∀ {vs : List V} {us : List Value} {zs : List V} {ws : List Value}, Vals vs us → Vals zs ws → Vals (gV vs zs) (g us ws)
variable {g : List Value → List Value → List Value} {gV : List V → List V → List V}
end

structure FnScope (N P : List Str) (sc : Scope) : Prop where
  kind : sc.kind = .function
  co : sc.isCoroutine = false
  gen : sc.isGenerator = false
  nd : N.Nodup
  pre : N.take P.length = P
  par : ∀ x ∈ P, sc.names.lookup x = some .local ∨ sc.names.lookup x = some .cell
  nofree : ∀ y ∈ sc.names, y.2 ≠ .free

theorem bindL_out {kindOf : Str → Option NameKind} {x : Str} : ∀ {binds : List (Str × Value)} {m : Str → Option Value}, (∀ v, (x, v) ∉ binds) → bindL kindOf binds m x = m x
  | [], _, _ => rfl
  | (n, v) :: r, m, h => by
    unfold bindL
    rw [bindL_out fun w hw => h w (List.mem_cons_of_mem _ hw)]
    split
    · have : x ≠ n := by rintro rfl; exact h v List.mem_cons_self
      simp [this]
    · rfl
theorem bindC_out {kindOf : Str → Option NameKind} {x : Str} : ∀ {binds : List (Str × Value)} {m : Str → Option Value}, (∀ v, (x, v) ∉ binds) → bindC kindOf binds m x = m x
  | [], _, _ => rfl
  | (n, v) :: r, m, h => by
    unfold bindC
    rw [bindC_out fun w hw => h w (List.mem_cons_of_mem _ hw)]
    split
    · rfl
    · have : x ≠ n := by rintro rfl; exact h v List.mem_cons_self
      simp [this]
theorem bindL_get {kindOf : Str → Option NameKind} {x : Str} {v : Value} : ∀ {P : List Str} {vs : List Value} {i : Nat} {m : Str → Option Value}, P.Nodup → P[i]? = some x → vs[i]? = some v → kindOf x = some .local →
    bindL kindOf (P.zip vs) m x = some v
  | [], _, _, _, _, h, _, _ => by simp at h
  | _ :: _, [], _, _, _, _, h, _ => by simp at h
  | p :: P, w :: vs, 0, m, nd, h1, h2, hk => by
    simp at h1 h2; subst h1; subst h2
    show bindL kindOf ((p, w) :: P.zip vs) m p = _
    unfold bindL
    rw [bindL_out fun v hv => (List.nodup_cons.mp nd).1 (List.of_mem_zip hv).1, if_pos hk]
    simp
  | p :: P, w :: vs, i + 1, m, nd, h1, h2, hk => by
    show bindL kindOf ((p, w) :: P.zip vs) m x = _
    unfold bindL
    exact bindL_get (i := i) (List.nodup_cons.mp nd).2 (by simpa using h1) (by simpa using h2) hk
theorem bindC_get {kindOf : Str → Option NameKind} {x : Str} {v : Value} : ∀ {P : List Str} {vs : List Value} {i : Nat} {m : Str → Option Value}, P.Nodup → P[i]? = some x → vs[i]? = some v → kindOf x ≠ some .local →
    bindC kindOf (P.zip vs) m x = some v
  | [], _, _, _, _, h, _, _ => by simp at h
  | _ :: _, [], _, _, _, _, h, _ => by simp at h
  | p :: P, w :: vs, 0, m, nd, h1, h2, hk => by
    simp at h1 h2; subst h1; subst h2
    show bindC kindOf ((p, w) :: P.zip vs) m p = _
    unfold bindC
    rw [bindC_out fun v hv => (List.nodup_cons.mp nd).1 (List.of_mem_zip hv).1, if_neg hk]
    simp
  | p :: P, w :: vs, i + 1, m, nd, h1, h2, hk => by
    show bindC kindOf ((p, w) :: P.zip vs) m x = _
    unfold bindC
    exact bindC_get (i := i) (List.nodup_cons.mp nd).2 (by simpa using h1) (by simpa using h2) hk

/-- the names' values at the entry -/
def start (N : List Str) (vs : List V) : St := vs.map some ++ List.replicate (N.length - vs.length) none

/-- the context of a def's body, at its entry; an exception leaves the frame, then lies as CX says -/
def cxOf (CX : CXT) (P : Program) (w : World) (K : PySem.W.Frag) (mg : Str → Option Value) (base : Heap) (N : List Str) (qual : Str) (scope : Scope) (f : Addr) (cd : Value) (A : Around) (outer : List Env) (s : Shared) (H : Hp) (E : XK) : Cx where
  prog := P
  w := w
  K := K
  mg := mg
  base := base
  A := A.deeper (envOfC qual scope s.heap.objs.size f cd)
  N := N
  s₀ := s
  H₀ := H
  env := envOfC qual scope s.heap.objs.size f cd
  outer := outer
  stack := envOfC qual scope s.heap.objs.size f cd :: outer
  ex := []
  calm := true
  fn := fun _ => true
  pn := []
  xe := fun e s' => wpAny (model P w) (A.deeper (envOfC qual scope s.heap.objs.size f cd)) (leaving (envOfC qual scope s.heap.objs.size f cd) e) (fun _ s'' => CX outer H s E e s'') (fun e' s'' => CX outer H s E e' s'') s'

theorem cell_has {sc : Scope} {n : Nat} {x : Str} (h : sc.names.lookup x = some .cell) : ∃ c, (cellsFrom n sc.names []).lookup x = some c := by
  have q := PySem.W.cellsFrom_some sc.names n [] (.inl h)
  exact Option.isSome_iff_exists.mp q

theorem inv_start {CX : CXT} {P : Program} {w : World} {K : PySem.W.Frag} {mg : Str → Option Value} {base : Heap} {N ps : List Str} {qual : Str} {scope : Scope} {f : Addr} {cd : Value} {A : Around} {outer : List Env} {s s1 : Shared} {H : Hp} {E : XK} {us : List Value} {vs : List V}
    (S : FnScope N ps scope) (hd : A.handled = none) (e0 : Env0 P w K mg base A outer s H) (hl : vs.length = ps.length) (r : Vals vs us)
    (x : InCallC s s.heap.objs.size (bindL (envOfC qual scope s.heap.objs.size f cd).kindOf (ps.zip us) fun _ => none) (cellsFrom (s.heap.objs.size + 1) scope.names []) (bindC (envOfC qual scope s.heap.objs.size f cd).kindOf (ps.zip us) fun _ => none) s1) :
    Inv (cxOf CX P w K mg base N qual scope f cd A outer s H E) [] (start N vs) H s1 := by
  have hpl : ps.length ≤ N.length := by have := congrArg List.length S.pre; rw [List.length_take] at this; omega
  obtain ⟨h1, tk, rfl, hk⟩ := x.done
  have noA : ∀ b : Addr, b ∉ (cxOf CX P w K mg base N qual scope f cd A outer s H E).ex := fun b z => absurd (show b ∈ ([] : List Addr) from z) (by simp)
  refine ⟨⟨e0.mod, S.kind, rfl, rfl, Nat.le_refl _, fun y z c h1 h2 => ?_, fun y hy => ?_, fun y c _ h => ?_, fun _ => hd, Around.frames_deeper e0.frames, .inr ⟨rfl, rfl⟩, fun b z => absurd z (noA b), e0.bs, e0.bsz, fun b _ _ => noA b, fun b z => absurd z (noA b), e0.funs, e0.frf⟩,
    rfl, e0.bare, Un.kept hk, ⟨_, x.toInCall.ns, fun i y v h1 h2 h3 => ?_⟩, fun y c h => ⟨_, x.cell y c h⟩, e0.hok.fresh (Nat.le_refl _), fun y c h => ?_, fun p hp => absurd (show p ∈ ([] : List (Addr × Obj)) from hp) (by simp), e0.hok.kept hk, ?_⟩
  · exact name_of_addr x.apart (PySem.mem_of_lookup h1) (PySem.mem_of_lookup h2)
  · have hy : scope.names.lookup y = some .cell ∨ scope.names.lookup y = some .free := hy
    rcases hy with hy | hy
    · exact cell_has hy
    · exact absurd rfl (S.nofree _ (PySem.mem_of_lookup hy))
  · exact Nat.le_of_lt (x.above y c (PySem.mem_of_lookup h))
  · have hi : i < vs.length := by
      unfold start at h2
      by_cases hi : i < vs.length
      · exact hi
      · rw [List.getElem?_append_right (by simpa using hi)] at h2
        rw [List.getElem?_replicate] at h2
        split at h2 <;> cases h2
    have ha : vs[i]? = some v := by
      unfold start at h2
      rw [List.getElem?_append_left (by simpa using hi), List.getElem?_map] at h2
      cases e : vs[i]? with
      | none => rw [e] at h2; cases h2
      | some a => rw [e] at h2; cases h2; rfl
    obtain ⟨u, hu, rv⟩ := r.get ha
    have hp : ps[i]? = some y := by
      rw [← S.pre, List.getElem?_take_of_lt (by omega)]; exact h1
    have ndP : ps.Nodup := by rw [← S.pre]; exact S.nd.sublist (List.take_sublist _ _)
    refine ⟨u, rv, ?_⟩
    rcases S.par y (List.mem_of_getElem? hp) with k | k
    · exact .inl ⟨k, bindL_get ndP hp hu k⟩
    · obtain ⟨c, e⟩ := cell_has (n := s.heap.objs.size + 1) k
      refine .inr ⟨.inl k, c, e, ?_⟩
      have q := x.cell y c e
      rw [bindC_get ndP hp hu (by show scope.names.lookup y ≠ _; rw [k]; decide)] at q
      exact q
  · exact e0.hok.fresh (Nat.le_of_lt (x.above y c (PySem.mem_of_lookup h)))
  · unfold start
    show _ = N.length
    rw [List.length_append, List.length_map, List.length_replicate]
    omega

/-- THE RULE: a def (or a method) of the text, by its body. The body's reading t is chosen for each entry; it is run at the parameters' values -/
theorem fn_of {CX : CXT} {P : Program} {w : World} {K : PySem.W.Frag} {mg : Str → Option Value} {base : Heap} {k : Nat} {f : Addr} {name qual : Str} {params : Arguments} {body : List Stmt} {scope : Scope} {dV kV doc pm cdv ct oc : Value} {an od : Option Addr}
    {osl : Array (Option Value)} {N ps : List Str} {sp : Sp} (lk : K.lookup f = some ⟨oc, od, .func (PySem.W.fnOf name qual params body scope dV kV doc pm an cdv ct), osl⟩) (hcd : PySem.W.codeIn K cdv qual = true) (S : FnScope N ps scope)
    (len : ∀ vs H Q E, sp vs H Q E → vs.length = ps.length)
    (hbody : ∀ (A : Around) (outer : List Env) (s : Shared) (H : Hp) (vs : List V) (Q : VK) (E : XK), Room k (A.deeper (envOfC qual scope s.heap.objs.size f cdv)) → sp vs H Q E →
      ∃ t, PSs (cxOf CX P w K mg base N qual scope f cdv A outer s H E) body t ∧ t { nx := fun _ H' => Q .non H', rt := Q } (start N vs) H) :
    FnOk P w K mg base CX (k + 1) f (PySem.W.fnOf name qual params body scope dV kV doc pm an cdv ct) ps sp := by
  refine ⟨len, fun A outer s H args us vs Q E hr e0 hb r hsp => ?_⟩
  have hl := len _ _ _ _ hsp
  have KX : K.In s.heap := e0.mod.kin.keeps fun b o e => (e0.bs b o e).1
  have lim : s.heap.NoLimit := e0.mod.nolimit.keeps fun b o e => (e0.bs b o e).1
  have hkind : ∀ y ∈ ps.zip us, scope.names.lookup y.1 = some .local ∨ (scope.names.lookup y.1 = some .cell ∧ ((cellsFrom (s.heap.objs.size + 1) scope.names []).lookup y.1).isSome = true) := fun ⟨n, v⟩ hy => by
    rcases S.par n (List.of_mem_zip hy).1 with q | q
    · exact .inl q
    · exact .inr ⟨q, PySem.W.cellsFrom_some _ _ _ (.inl q)⟩
  refine codeAny_call_function hr.depth (KX _ _ lk) rfl S.co S.gen rfl (PySem.W.codeRec_of KX hcd) (hb _ _ _ _ ?_)
  refine wpAny_newFunctionEnv_cells S.kind hkind fun env he s1 x => ?_
  subst he
  refine ⟨lim.keeps x.toInCall.keep, codeAny_func ?_⟩
  obtain ⟨t, ht, hq⟩ := hbody A outer s H vs Q E (hr.deeper _) hsp
  have I : Inv (cxOf CX P w K mg base N qual scope f cdv A outer s H E) [] (start N vs) H s1 := inv_start S hr.hd e0 hl r x
  refine wpAny_mono (ht [] s1 (start N vs) H _ I hq) (fun fl s' hs => ?_) fun e s' hs => hs
  have fin : ∀ {σ' : St} {H' : Hp} {v : V} {u : Value}, Inv (cxOf CX P w K mg base N qual scope f cdv A outer s H E) [] σ' H' s' → RelV v u → Q v H' → CE outer P w H s Q u s' :=
    fun {σ' H' v u} J rv q => ⟨v, H', J.os, J.bare, J.base, J.hok, rv, q⟩
  cases fl with
  | ret u =>
    obtain ⟨v, σ', H', J, rv, q⟩ := hs
    exact fin J rv q
  | next =>
    obtain ⟨σ', H', J, q⟩ := hs
    exact fin (v := V.non) (u := Value.none) J rfl q
  | brk =>
    obtain ⟨_, _, _, q⟩ := hs
    exact False.elim q
  | cont =>
    obtain ⟨_, _, _, q⟩ := hs
    exact False.elim q
end L2

namespace L2
open PySem PySem.Spec PyProof.Rows
section
variable {X : Cx} {x : Str} {p pos : Pos} {e : Expr} {es : List Expr} {t : TA} {id T : String} {r : List V → Hp → VK → Prop}

def tCB (r : List V → Hp → VK → Prop) (t : TA) : TE := fun σ H Q => t σ H fun vs H1 => r vs H1 Q
/-- f(e, ..), f a built-in function -/
theorem pe_callB (hc : CallR X (.builtin id) r) (hg : Gl X x) (hm : X.mg x = none) (hv : bootBuiltins x = some (.builtin id)) (ha : PA X (e :: es) t) (hn : x ≠ "__name__" := by decide) (hdb : (x == ("__debug__" : Str)) = false := by decide)
    (he : starEach (e :: es) X.env = (false, eval e X.env) :: starEach es X.env := by rfl) (hpl : (backTo pos (starEach es X.env)).any (·.1) = false := by rfl) : PE X (.Call (.Name x p) (e :: es) [] pos) (tCB r t) := by
  intro pins s σ H Q I h
  refine wpAny_Call_Name_kw (ld_blt I hg hm hv ?_ hn hdb)
  exact PyProof.Rows.callWith_builtin1 (thn (ha pos pins s σ H _ I h) fun us s1 ⟨vs, H1, I1, r1, q1⟩ => hc pins s1 σ H1 vs us Q I1 r1 q1) he hpl
/-- T(e, ..), T a built-in type -/
theorem pe_callTy (hc : CallR X (.type T) r) (hg : Gl X x) (hm : X.mg x = none) (hv : bootBuiltins x = some (.type T)) (ha : PA X (e :: es) t) (hn : x ≠ "__name__" := by decide) (hdb : (x == ("__debug__" : Str)) = false := by decide)
    (he : starEach (e :: es) X.env = (false, eval e X.env) :: starEach es X.env := by rfl) (hpl : (backTo pos (starEach es X.env)).any (·.1) = false := by rfl) : PE X (.Call (.Name x p) (e :: es) [] pos) (tCB r t) := by
  intro pins s σ H Q I h
  refine wpAny_Call_Name_kw (ld_blt I hg hm hv ?_ hn hdb)
  exact PyProof.Rows.callWith_type1 (thn (ha pos pins s σ H _ I h) fun us s1 ⟨vs, H1, I1, r1, q1⟩ => hc pins s1 σ H1 vs us Q I1 r1 q1) he hpl
end
end L2

namespace HT
open PySem PyProof.Rows

section
open PySem.SeqAt
open PySem.AutoSeq1 (wpAny_loadPart')
open PySem.MeetsSeq PySem.MeetsSeq2 PySem.MeetsSeq3

end

section
variable {prog : Program} {w : World} {A : Around} {E : Value → Shared → Prop} {s : Shared}

/-- t + u, t not empty -/
theorem cat_tup {t b : Addr} {vs ws : List Value} {Q : Value → Shared → Prop} (ht : IsTup s.heap t vs.toArray) (hb : IsTup s.heap b ws.toArray) (hv : vs ≠ [])
    (h1 : ws = [] → Q (.ref t) s) (h2 : ws ≠ [] → Q (.ref s.heap.objs.size) { s with heap := s.heap.push { cls := .type "tuple", data := .seq (vs ++ ws).toArray } })
    (hsz : vs.length + ws.length ≤ sizeLine) : wpAny (model prog w) A (binaryOp .Add (.ref t) (.ref b)) Q E s := by
  obtain ⟨⟨cls, dd, data, sl⟩, ho, hc, n, hd⟩ := id ht
  obtain ⟨⟨cls2, dd2, data2, sl2⟩, ho2, hc2, n2, hd2⟩ := id hb
  simp only at hc hd hc2 hd2
  subst hc hd hc2 hd2
  have e : vs.toArray ++ ws.toArray = (vs ++ ws).toArray := by simp
  by_cases hw : ws = []
  · exact concat_meets ⟨_, ho, rfl⟩ ⟨_, ho2, rfl⟩ noFill_tuple_add seq_tuple_add PySem.F.slot_tuple_add PySem.F.entry_tuple_add (PySem.F.args_tuple_add_2 _ _)
      (tuple_addW1 t b vs.toArray ws.toArray n n2 dd dd2 sl sl2 (by simpa using hv) (by simp [hw])) ⟨ho, ho2, h1 hw⟩
  · refine concat_meets ⟨_, ho, rfl⟩ ⟨_, ho2, rfl⟩ noFill_tuple_add seq_tuple_add PySem.F.slot_tuple_add PySem.F.entry_tuple_add (PySem.F.args_tuple_add_2 _ _)
      (tuple_addW2 t b vs.toArray ws.toArray n n2 dd dd2 sl sl2 (by simpa using hv) (by simpa using hw) (by rw [List.size_toArray, List.size_toArray]; exact hsz)) ⟨ho, ho2, ?_⟩
    rw [e]
    exact h2 hw

/-- a slice's bound as a place among n (d where it is left out) -/
def sIx (n d : Nat) : Option Int → Nat
  | none => d
  | some v => if v < 0 then (v + (n : Int)).toNat else min v.toNat n
theorem sIx_none (n d : Nat) : sIx n d none = d := rfl
theorem sIx_nat (n d k : Nat) : sIx n d (some (k : Int)) = min k n := by
  show (if (k : Int) < 0 then ((k : Int) + (n : Int)).toNat else min (k : Int).toNat n) = min k n
  rw [if_neg (by omega), Int.toNat_natCast]
theorem sIx_le (n d : Nat) (hd : d ≤ n) (o : Option Int) : sIx n d o ≤ n := by
  cases o with
  | none => exact hd
  | some v =>
    show (if v < 0 then (v + (n : Int)).toNat else min v.toNat n) ≤ n
    by_cases hv : v < 0
    · rw [if_pos hv]; omega
    · rw [if_neg hv]; exact Nat.min_le_right _ _
theorem clip_eq (v : Int) (n d : Nat) : (if v < 0 then max (v + (n : Int)) 0 else min v (n : Int)) = ((sIx n d (some v) : Nat) : Int) := by
  show (if v < 0 then max (v + (n : Int)) 0 else min v (n : Int)) = (((if v < 0 then (v + (n : Int)).toNat else min v.toNat n) : Nat) : Int)
  by_cases hv : v < 0
  · simp only [if_pos hv]; omega
  · simp only [if_neg hv]; omega
theorem adjust_gen (lo hi : Option Int) (n : Nat) : Builtin.Slice.sliceAdjust lo hi 1 (n : Int) = (((sIx n 0 lo : Nat) : Int), ((sIx n n hi : Nat) : Int)) := by
  have h1 : ¬ ((1 : Int) < 0) := by omega
  unfold Builtin.Slice.sliceAdjust
  simp only [h1, if_false]
  refine Prod.ext ?_ ?_
  · cases lo with
    | none => rfl
    | some v => exact clip_eq v n 0
  · cases hi with
    | none => rfl
    | some v => exact clip_eq v n n
theorem places_gen (i j : Nat) : Builtin.Slice.slicePlaces (i : Int) (j : Int) 1 = j - i := by
  unfold Builtin.Slice.slicePlaces
  have h1 : (1 : Int) > 0 := by omega
  simp only [h1, if_true, Int.ediv_one]
  split <;> omega
theorem slicePart_ {v : Value} {o : Option Int} {Q : Option Int → Shared → Prop} (p : IsPart v o) (h : Q o s) : wpAny (model prog w) A (Builtin.Slice.slicePartIndex v) Q E s := by
  cases p with
  | none => exact slicePart_none h
  | int i t => exact slicePart_int h
theorem sliceApplied_gen {sl : Addr} {vl vu : Value} {lo hi : Option Int} {n : Nat} {Q : Int × Int × Nat → Shared → Prop} (hs : s.heap.IsSliceOf sl vl vu .none) (pl : IsPart vl lo) (pu : IsPart vu hi)
    (h : Q (((sIx n 0 lo : Nat) : Int), 1, sIx n n hi - sIx n 0 lo) s) : wpAny (model prog w) A (Builtin.Slice.sliceApplied (.ref sl) (pure (n : Int))) Q E s := by
  obtain ⟨os, hos, hcs, hds⟩ := id hs
  unfold Builtin.Slice.sliceApplied Builtin.Slice.sliceFields
  refine wpAny_bind (wpAny_bind (wpAny_field hos hds (x := vl) rfl (wpAny_bind (wpAny_field hos hds (x := vu) rfl (wpAny_bind (wpAny_field hos hds (x := .none) rfl (wpAny_pure ?_)))))))
  refine wpAny_bind (slicePart_none ?_)
  show wpAny _ _ (if ((1 : Int) == 0) = true then _ else _) _ _ s
  rw [if_neg (by decide)]
  refine wpAny_bind (slicePart_ pl (wpAny_bind (slicePart_ pu (wpAny_bind (wpAny_pure ?_)))))
  show wpAny _ _ (match Builtin.Slice.sliceAdjust lo hi 1 (n : Int) with | (lo, hi) => pure (lo, (1 : Int), Builtin.Slice.slicePlaces lo hi 1)) _ _ s
  rw [adjust_gen lo hi n]
  show wpAny _ _ (pure (((sIx n 0 lo : Nat) : Int), (1 : Int), Builtin.Slice.slicePlaces ((sIx n 0 lo : Nat) : Int) ((sIx n n hi : Nat) : Int) 1)) _ _ s
  rw [places_gen]
  exact wpAny_pure h
theorem pick_gen (xs : Array Value) (i k : Nat) : ((List.range k).filterMap fun (m : Nat) => xs[((i : Int) + (m : Int) * 1).toNat]?).toArray = ((xs.toList.drop i).take k).toArray := by
  have e : (fun (m : Nat) => xs[((i : Int) + (m : Int) * 1).toNat]?) = fun m => xs[i + m]? := by
    funext m
    have : ((i : Int) + (m : Int) * 1).toNat = i + m := by omega
    rw [this]
  rw [e]
  have := pick_run xs i k
  rw [List.filterMap_map] at this
  have e2 : ((fun x => xs[x]?) ∘ fun x => i + x) = fun m => xs[i + m]? := rfl
  rw [e2] at this
  rw [this]

theorem getItem_tuple_cut {t sl : Addr} {items : Array Value} {vl vu : Value} {lo hi : Option Int} {Q : Value → Shared → Prop} (ht : IsTup s.heap t items) (hs : s.heap.IsSliceOf sl vl vu .none) (pl : IsPart vl lo) (pu : IsPart vu hi)
    (hw : ¬ (sIx items.size 0 lo = 0 ∧ sIx items.size items.size hi = items.size))
    (h : Q (.ref s.heap.objs.size) { s with heap := s.heap.push { cls := .type "tuple", data := .seq ((items.toList.drop (sIx items.size 0 lo)).take (sIx items.size items.size hi - sIx items.size 0 lo)).toArray } })
    (hsz : items.size ≤ sizeLine) : wpAny (model prog w) A (getItem (.ref t) (.ref sl)) Q E s := by
  have htake : sizeOk (.seq ((items.toList.drop (sIx items.size 0 lo)).take (sIx items.size items.size hi - sIx items.size 0 lo)).toArray) := by
    show ((items.toList.drop (sIx items.size 0 lo)).take (sIx items.size items.size hi - sIx items.size 0 lo)).toArray.size ≤ sizeLine
    rw [List.size_toArray, List.length_take, List.length_drop, Array.length_toList]
    omega
  have hj : sIx items.size items.size hi ≤ items.size := sIx_le _ _ (Nat.le_refl _) hi
  obtain ⟨os, hos, hcs, hds⟩ := id hs
  have hTs : s.TypeIs (.ref sl) "slice" := ⟨os, hos, hcs⟩
  unfold getItem
  try with_reducible refine wpAny_holding ?_
  first | refine wpAny_bind (wpAny_pure ?_) | skip
  refine wpAny_bind (wpAny_sequenceKey ht.typeIs (by decide) ?_)
  refine wpAny_bind (wpAny_callSpecial?_slot (name := Str.ofString "__getitem__") ht.typeIs PyProof.Rows.slot_tuple_getitem
    (wpAny_call_entry PyProof.Rows.slot_tuple_getitem ht.typeIs entry_tuple_getitem ?_ (args_tuple_getitem _ _)))
  show wpAny _ _ (Builtin.Tuple.tupleItemsOf (.ref t) >>= _) _ _ s
  refine wpAny_bind (tupleItemsOf_ ht ?_)
  refine wpAny_bind (wpAny_typeOf hTs ?_)
  rw [if_pos (by decide)]
  refine wpAny_bind (sliceApplied_gen hs pl pu ?_)
  have hno : ¬ ((((sIx items.size 0 lo : Nat) : Int) == 0 && (1 : Int) == 1 && (sIx items.size items.size hi - sIx items.size 0 lo) == items.size) = true) := by
    intro q
    rw [Bool.and_eq_true, Bool.and_eq_true] at q
    have q1 : ((sIx items.size 0 lo : Nat) : Int) = 0 := eq_of_beq q.1.1
    have q2 : sIx items.size items.size hi - sIx items.size 0 lo = items.size := eq_of_beq q.2
    exact hw ⟨by omega, by omega⟩
  show wpAny _ _ (if (((sIx items.size 0 lo : Nat) : Int) == 0 && (1 : Int) == 1 && (sIx items.size items.size hi - sIx items.size 0 lo) == items.size) = true then _ else _) _ _ s
  rw [if_neg hno, pick_gen]
  first
    | exact wpAny_bind (m := Builtin.Tuple.tupleExact _) (wpAny_newObj_type (wpAny_pure ⟨_, rfl, wpAny_pure h⟩) htake)
    | exact wpAny_bind (m := Builtin.Tuple.tupleExact _) (wpAny_newObj_type (wpAny_bind (wpAny_pure (wpAny_pure ⟨_, rfl, wpAny_pure h⟩))) htake)
    | exact wpAny_bind (wpAny_bind (m := Builtin.Tuple.tupleExact _) (wpAny_newObj_type (wpAny_pure (wpAny_pure ⟨_, rfl, wpAny_pure h⟩)) htake))
    | exact wpAny_bind (wpAny_bind (m := Builtin.Tuple.tupleExact _) (wpAny_newObj_type (wpAny_pure ⟨_, rfl, wpAny_pure h⟩) htake))
end
end HT

namespace L2
open PySem PySem.Spec PyProof.Rows

abbrev TO := St → Hp → (Option Int → Hp → Prop) → Prop
/-- a slice's part (left out, or an int) -/
def PO (X : Cx) (e : Option Expr) (t : TO) : Prop :=
  ∀ (pins : List (Addr × Obj)) (s : Shared) (σ : St) (H : Hp) (Q : Option Int → Hp → Prop), Inv X pins σ H s → t σ H Q →
    wpAny (model X.prog X.w) X.A (evalPart e X.env) (fun u s' => ∃ o H', Inv X pins σ H' s' ∧ IsPart u o ∧ Q o H') X.xe s
def tNoPart : TO := fun _ H Q => Q none H
def tPart (t : TE) : TO := fun σ H Q => t σ H fun x H1 => ∃ i, x = .int i ∧ Q (some i) H1

theorem intsAre_of {ns : List Int} : ∀ {us : List Value}, Vals (ns.map V.int) us → IntsAre us ns := by
  induction ns with
  | nil => intro us r; rw [List.map_nil] at r; cases r; exact .nil
  | cons n ns ih =>
    intro us r
    rw [List.map_cons] at r
    cases r with
    | cons r1 r2 =>
      obtain ⟨t, e⟩ := r1
      subst e
      exact .cons n t (ih r2)

section
variable {X : Cx} {e : Expr} {te : TE} {lo hi : Option Expr} {tl th : TO} {pos p2 : Pos}

theorem po_none : PO X none tNoPart := by
  intro pins s σ H Q I h
  rw [evalPart_none]
  exact wpAny_pure ⟨none, H, I, .none, h⟩
theorem po_some (h : PE X e te) : PO X (some e) (tPart te) := by
  intro pins s σ H Q I hw
  rw [evalPart_some]
  refine thn (h pins s σ H _ I hw) fun u s1 ⟨x, H1, I1, r1, q1⟩ => ?_
  obtain ⟨i, rfl, q⟩ := q1
  obtain ⟨t, rfl⟩ := r1
  exact ⟨some i, H1, I1, .int i t, q⟩

/-- what a slice of a value is, by values: the slice object stands at sl -/
def SlR (X : Cx) (r : V → Option Int → Option Int → Hp → VK → Prop) : Prop :=
  ∀ (pins : List (Addr × Obj)) (s : Shared) (σ : St) (H : Hp) (x : V) (v vl vu : Value) (lo hi : Option Int) (sl : Addr) (Q : VK), Inv X pins σ H s → RelV x v → s.heap.IsSliceOf sl vl vu .none → IsPart vl lo → IsPart vu hi → r x lo hi H Q →
    ∃ T id, typeLookup (.type T) "__getitem__" = pure (some (.builtin id)) ∧ s.TypeIs v T ∧ wpAny (model X.prog X.w) X.A (getItem v (.ref sl)) (EP X pins σ Q) X.xe s
theorem SlR.or {r r' : V → Option Int → Option Int → Hp → VK → Prop} (h : SlR X r) (h' : SlR X r') : SlR X (fun x lo hi H Q => r x lo hi H Q ∨ r' x lo hi H Q) := by
  intro pins s σ H x v vl vu lo hi sl Q I rx hs pl pu q
  rcases q with q | q
  · exact h pins s σ H x v vl vu lo hi sl Q I rx hs pl pu q
  · exact h' pins s σ H x v vl vu lo hi sl Q I rx hs pl pu q
def tSl (r : V → Option Int → Option Int → Hp → VK → Prop) (te : TE) (tl th : TO) : TE := fun σ H Q => te σ H fun x H1 => tl σ H1 fun l H2 => th σ H2 fun u H3 => r x l u H3 Q
/-- a[lo:hi], any a -/
theorem pe_slice {r : V → Option Int → Option Int → Hp → VK → Prop} (hr : SlR X r) (he : PE X e te) (hl : PO X lo tl) (hu : PO X hi th) : PE X (.Subscript e (.Slice lo hi none p2) pos) (tSl r te tl th) := by
  intro pins s σ H Q I h
  refine Subscript_ (thn (he pins s σ H _ I h) fun v s1 ⟨x, H1, I1, r1, q1⟩ => ?_)
  refine wpAny_Slice (thn (hl pins s1 σ H1 _ I1 q1) fun vl s2 ⟨l, H2, I2, pl, q2⟩ => thn (hu pins s2 σ H2 _ I2 q2) fun vu s3 ⟨u, H3, I3, pu, q3⟩ => ?_)
  rw [evalPart_none]
  refine wpAny_pure ?_
  have I4 : Inv X pins σ H3 { s3 with heap := s3.heap.push { cls := .type "slice", data := .fields #[vl, vu, .none] } } := I3.kept (t' := s3.toks) fun b ob q => Heap.get?_push_of_some _ q
  obtain ⟨T, id, hT, ht, hg⟩ := hr pins { s3 with heap := s3.heap.push { cls := .type "slice", data := .fields #[vl, vu, .none] } } σ H3 x v vl vu l u s3.heap.objs.size Q I4 r1 (Heap.IsSliceOf.new ..) pl pu q3
  show wpAny (model X.prog X.w) X.A (subscriptTail e (.Slice lo hi none p2) v (.ref s3.heap.objs.size)) (EP X pins σ Q) X.xe { s3 with heap := s3.heap.push { cls := .type "slice", data := .fields #[vl, vu, .none] } }
  exact tail_any (ops := [.ref s3.heap.objs.size, v]) ht hT hg (by with_unfolding_all rfl)

/-- the items of xs[lo:hi] -/
def cutV (xs : List V) (lo hi : Option Int) : List V := (xs.drop (HT.sIx xs.length 0 lo)).take (HT.sIx xs.length xs.length hi - HT.sIx xs.length 0 lo)
theorem cutV_length (xs : List V) (lo hi : Option Int) : (cutV xs lo hi).length ≤ xs.length := by
  unfold cutV
  rw [List.length_take, List.length_drop]
  omega
/-- t[lo:hi], not the whole of it (the whole would be t itself) -/
def rSlT (K : PySem.W.Frag) : V → Option Int → Option Int → Hp → VK → Prop := fun x lo hi H Q => ∃ a xs, x = .ref a ∧ SqT K H a xs ∧
  ¬ (HT.sIx xs.length 0 lo = 0 ∧ HT.sIx xs.length xs.length hi = xs.length) ∧ ∀ p, H p = none → Q (.ref p) (upd H p (.tup (cutV xs lo hi)))
theorem sl_tup : SlR X (rSlT X.K) := by
  intro pins s σ H x v vl vu lo hi sl Q I rx hs pl pu h
  obtain ⟨a, xs, rfl, hx, hw, q⟩ := h
  cases rx
  obtain ⟨its, r, ht, hz⟩ := I.tuple hx
  have hlen : its.toArray.size = xs.length := by rw [List.size_toArray]; exact r.length.symm
  refine ⟨"tuple", _, PyProof.Rows.slot_tuple_getitem.lookup, ht.typeIs, ?_⟩
  refine HT.getItem_tuple_cut ht hs pl pu (by rw [hlen]; exact hw) ?_ (by rw [hlen]; exact hz)
  rw [hlen]
  refine ⟨.ref s.heap.objs.size, _, I.laid (t' := s.toks) (o := .tup (cutV xs lo hi)) (fun b ob q => Heap.get?_push_of_some _ q) (Nat.le_refl _) ?_, rfl, q _ (I.hok.fresh (Nat.le_refl _))⟩
  exact ⟨Nat.le_trans (cutV_length xs lo hi) hz, _, (r.drop (HT.sIx xs.length 0 lo)).take (HT.sIx xs.length xs.length hi - HT.sIx xs.length 0 lo), IsTup.new _ _⟩

/-- t + u, t not empty: u empty gives t itself -/
def rCatT (K : PySem.W.Frag) : R2 := fun x y H Q => ∃ a b xs ys, x = .ref a ∧ y = .ref b ∧ SqT K H a xs ∧ SqT K H b ys ∧ xs ≠ [] ∧ xs.length + ys.length ≤ sizeLine ∧
  (ys = [] → Q (.ref a) H) ∧ (ys ≠ [] → ∀ p, H p = none → Q (.ref p) (upd H p (.tup (xs ++ ys))))
theorem Vals.nil_iff {xs : List V} {us : List Value} (r : Vals xs us) : us = [] ↔ xs = [] := by
  cases r with
  | nil => simp
  | cons _ _ => simp
theorem op_catT : OpR X (binaryOp .Add) (rCatT X.K) := by
  intro pins s σ H x y v u Q I rx ry h
  obtain ⟨a, b, xs, ys, rfl, rfl, ha, hb, hx, hz, q1, q2⟩ := h
  cases rx
  cases ry
  obtain ⟨its, r1, p1, _⟩ := I.tuple ha
  obtain ⟨its2, r2, p2, _⟩ := I.tuple hb
  refine HT.cat_tup p1 p2 (fun z => hx (r1.nil_iff.mp z)) (fun z => ⟨.ref a, H, I, rfl, q1 (r2.nil_iff.mp z)⟩) (fun z => ?_) (by rw [← r1.length, ← r2.length]; exact hz)
  refine ⟨.ref s.heap.objs.size, _, I.laid (t' := s.toks) (o := .tup (xs ++ ys)) (fun b ob q => Heap.get?_push_of_some _ q) (Nat.le_refl _) ?_, rfl, q2 (fun w => z (r2.nil_iff.mpr w)) _ (I.hok.fresh (Nat.le_refl _))⟩
  exact ⟨by rw [List.length_append]; exact hz, _, r1.append r2, IsTup.new _ _⟩
end
end L2

namespace L2
open PySem PySem.Spec PyProof.Rows

/-- the place that an index of any sign means -/
def ixN (n : Nat) (i : Int) : Option Nat := if 0 ≤ i then (if i < n then some i.toNat else none) else if -(n : Int) ≤ i then some (i + n).toNat else none
def atI {α : Type} (xs : List α) (i : Int) : Option α := (ixN xs.length i).bind fun j => xs[j]?
theorem ixN_seq {n : Nat} {i : Int} {j : Nat} (h : ixN n i = some j) : seqIndex? i n = some j ∧ j < n ∧ -(n : Int) ≤ i ∧ i < n := by
  unfold ixN at h
  by_cases h0 : 0 ≤ i
  · rw [if_pos h0] at h
    by_cases h1 : i < n
    · rw [if_pos h1] at h
      have e : i.toNat = j := Option.some.inj h
      exact ⟨by rw [seqIndex_of h0 h1, e], by omega, by omega, h1⟩
    · rw [if_neg h1] at h; cases h
  · rw [if_neg h0] at h
    by_cases h1 : -(n : Int) ≤ i
    · rw [if_pos h1] at h
      have e : (i + n).toNat = j := Option.some.inj h
      exact ⟨by rw [seqIndex_neg (by omega) h1, e], by omega, h1, by omega⟩
    · rw [if_neg h1] at h; cases h
theorem atI_get {α : Type} {xs : List α} {i : Int} {v : α} (h : atI xs i = some v) : ∃ j, seqIndex? i xs.length = some j ∧ xs[j]? = some v ∧ j < xs.length ∧ -(xs.length : Int) ≤ i ∧ i < xs.length := by
  unfold atI at h
  cases e : ixN xs.length i with
  | none => rw [e] at h; cases h
  | some j =>
    rw [e] at h
    obtain ⟨h1, h2, h3, h4⟩ := ixN_seq e
    exact ⟨j, h1, h, h2, h3, h4⟩
/-- what stands as an index of a plain subscript -/
def PlainIx (b : Expr) : Prop := ∀ o i, subscripted b false o i = operate [o, i] (getItem o i)
/-- a subscript by values -/
def IxR (X : Cx) (r : R2) : Prop :=
  ∀ (value slice : Expr) (pins : List (Addr × Obj)) (s : Shared) (σ : St) (H : Hp) (x y : V) (v u : Value) (Q : VK), Inv X pins σ H s → RelV x v → RelV y u → r x y H Q →
    subscripted slice false v u = operate [v, u] (getItem v u) → wpAny (model X.prog X.w) X.A (subscriptTail value slice v u) (EP X pins σ Q) X.xe s
/-- a call of a builtin's method by values: the receiver, the arguments -/
def MtR (X : Cx) (id : String) (r : V → List V → Hp → VK → Prop) : Prop :=
  ∀ (pins : List (Addr × Obj)) (s : Shared) (σ : St) (H : Hp) (x : V) (xs : List V) (v : Value) (us : List Value) (Q : VK), Inv X pins σ H s → RelV x v → Vals xs us → r x xs H Q →
    wpAny (model X.prog X.w) X.A (call (.builtin id) (v :: us)) (EP X pins σ Q) X.xe s
section
variable {X : Cx} {a b : Expr} {ta tb : TE} {pos : Pos}
theorem IxR.or {r r' : R2} (h : IxR X r) (h' : IxR X r') : IxR X (fun x y H Q => r x y H Q ∨ r' x y H Q) := by
  intro value slice pins s σ H x y v u Q I rx ry q hs
  rcases q with q | q
  · exact h value slice pins s σ H x y v u Q I rx ry q hs
  · exact h' value slice pins s σ H x y v u Q I rx ry q hs
theorem MtR.or {id : String} {r r' : V → List V → Hp → VK → Prop} (h : MtR X id r) (h' : MtR X id r') : MtR X id (fun x xs H Q => r x xs H Q ∨ r' x xs H Q) := by
  intro pins s σ H x xs v us Q I rx rs q
  rcases q with q | q
  · exact h pins s σ H x xs v us Q I rx rs q
  · exact h' pins s σ H x xs v us Q I rx rs q
/-- a[b] -/
theorem pe_ix {r : R2} (hr : IxR X r) (ha : PE X a ta) (hb : PE X b tb) (hs : PlainIx b) : PE X (.Subscript a b pos) (tOp r ta tb) := by
  intro pins s σ H Q I h
  exact Subscript_ (binT ha hb I h fun v u s2 x y H2 I2 rx ry q => hr a b pins s2 σ H2 x y v u Q I2 rx ry q (hs _ _))

def rIxL (K : PySem.W.Frag) : R2 := fun x y H Q => ∃ p xs i v, x = .ref p ∧ y = .int i ∧ SqL K H p xs ∧ atI xs i = some v ∧ Q v H
def rIxT (K : PySem.W.Frag) : R2 := fun x y H Q => ∃ p xs i v, x = .ref p ∧ y = .int i ∧ SqT K H p xs ∧ atI xs i = some v ∧ Q v H
def rIxS : R2 := fun x y H Q => ∃ z i c, x = .str z ∧ y = .int i ∧ z.length ≤ sizeLine ∧ atI z.cps.toList i = some c ∧ Q (.str ⟨#[c]⟩) H
theorem ix_list : IxR X (rIxL X.K) := by
  intro value slice pins s σ H x y v u Q I rx ry h hs
  obtain ⟨p, xs, i, z, rfl, rfl, hq, he, q⟩ := h
  cases rx
  obtain ⟨t, rfl⟩ := ry
  obtain ⟨its, r, pl, hz⟩ := I.list hq
  obtain ⟨j, h1, h2, h3, h4, h5⟩ := atI_get he
  obtain ⟨w, ew, rw'⟩ := r.get h2
  have hl := r.length
  have hn := line63
  have fin : EP X pins σ Q w s := ⟨z, H, I, rw', q⟩
  by_cases h0 : 0 ≤ i
  · have hj : i.toNat = j := by
      rw [seqIndex_of h0 h5] at h1
      exact Option.some.inj h1
    exact item_listR pl.isList h0 (by omega) (by rw [hj]; simpa using ew) fin hs
  · have hj : (i + (its.toArray.size : Int)).toNat = j := by
      rw [seqIndex_neg (by omega) h4] at h1
      rw [List.size_toArray, ← hl]
      exact Option.some.inj h1
    exact subscriptTail_builtinR (x := w) pl.isList.typeIs slot_list_getitem.lookup
      (wpAny_getItem_list_neg (Q := fun r s' => r = w ∧ EP X pins σ Q r s') pl.isList (by omega) (by rw [List.size_toArray] <;> omega) (by omega) (by rw [hj]; simpa using ew) ⟨rfl, fin⟩) hs
theorem ix_tup : IxR X (rIxT X.K) := by
  intro value slice pins s σ H x y v u Q I rx ry h hs
  obtain ⟨p, xs, i, z, rfl, rfl, hq, he, q⟩ := h
  cases rx
  obtain ⟨t, rfl⟩ := ry
  obtain ⟨its, r, pl, hz⟩ := I.tuple hq
  obtain ⟨j, h1, h2, h3, h4, h5⟩ := atI_get he
  obtain ⟨w, ew, rw'⟩ := r.get h2
  have hl := r.length
  have hn := line63
  have fin : EP X pins σ Q w s := ⟨z, H, I, rw', q⟩
  exact subscriptTail_builtinR (x := w) pl.typeIs slot_tuple_getitem.lookup
    (getItem_tuple (j := j) (Q := fun r s' => r = w ∧ EP X pins σ Q r s') pl (by omega) (by omega) (by rw [List.size_toArray, ← hl]; exact h1) (by simpa using ew) ⟨rfl, fin⟩) hs
theorem ix_str : IxR X rIxS := by
  intro value slice pins s σ H x y v u Q I rx ry h hs
  obtain ⟨z, i, c, rfl, rfl, hz, he, q⟩ := h
  obtain ⟨t, rfl⟩ := rx
  obtain ⟨t', rfl⟩ := ry
  obtain ⟨j, h1, h2, h3, h4, h5⟩ := atI_get he
  have hl : z.cps.toList.length = z.length := by simp [Str.length]
  rw [hl] at h1 h4 h5
  have hn := line63
  exact tail_any (typeIs_str s z t) slot_str_getitem.lookup (getItem_str (c := c) (by
    have e1 : decide (i < -(2 ^ 63 : Int)) = false := decide_eq_false (by omega)
    have e2 : decide (i ≥ 2 ^ 63) = false := decide_eq_false (by omega)
    rw [e1, e2, Bool.or_false]) (by rw [h1]; simpa using h2) ⟨.str ⟨#[c]⟩, H, I.tok _, ⟨_, rfl⟩, q⟩) hs
/-- list, tuple or str -/
def rIx (K : PySem.W.Frag) : R2 := fun x y H Q => rIxL K x y H Q ∨ rIxT K x y H Q ∨ rIxS x y H Q
theorem ix_seq : IxR X (rIx X.K) := ix_list.or (ix_tup.or ix_str)

/-- the list's object behind a store -/
theorem mapSeq_set (its : List Value) (n j : Nat) (u : Value) : Obj.mapSeq (·.setIfInBounds j u) { cls := .type "list", data := .seq its.toArray n } = { cls := .type "list", data := .seq (its.set j u).toArray n } := by
  simp [Obj.mapSeq]
theorem Inv.lst {pins : List (Addr × Obj)} {σ : St} {H : Hp} {s : Shared} {p : Addr} {xs : List V} (I : Inv X pins σ H s) (h : H p = some (.lst xs)) :
    ∃ (its : List Value) (n : Nat), Vals xs its ∧ s.heap.get? p = some { cls := .type "list", data := .seq its.toArray n } ∧ xs.length ≤ sizeLine := by
  obtain ⟨z, its, n, r, e⟩ := I.hok p _ h
  exact ⟨its, n, r, e, z⟩
/-- the list at p is written by an update of its object -/
theorem Inv.lstUpd {pins : List (Addr × Obj)} {σ : St} {H : Hp} {s : Shared} {p : Addr} {xs ys : List V} {its its' : List Value} {n n' : Nat} {f : Obj → Obj} (I : Inv X pins σ H s) (h : H p = some (.lst xs))
    (ho : s.heap.get? p = some { cls := .type "list", data := .seq its.toArray n }) (hf : f { cls := .type "list", data := .seq its.toArray n } = { cls := .type "list", data := .seq its'.toArray n' }) (r : Vals ys its') (hz : ys.length ≤ sizeLine) (t : Nat) :
    Inv X pins σ (upd H p (.lst ys)) { s with heap := s.heap.update p f, toks := t } := by
  have e : (s.heap.update p f).get? p = some { cls := .type "list", data := .seq its'.toArray n' } := by
    rw [Heap.get?_update_self f ho (by rw [hf] <;> rfl), hf]
  refine I.write (x := p) (e := p) (by rw [h]; trivial) (.inl rfl) (fun b u hb q => (Heap.get?_update_other _ _ (Ne.symm hb)).trans q) ⟨_, e⟩ ?_
  exact ⟨hz, its', n', r, e⟩
def rSetL : V → V → V → Hp → (Hp → Prop) → Prop := fun o i v H Q => ∃ p xs k j, o = .ref p ∧ i = .int k ∧ H p = some (.lst xs) ∧ ixN xs.length k = some j ∧ Q (upd H p (.lst (xs.set j v)))
theorem set_list : PSet X rSetL := by
  intro pins s σ H o i v ov iv u Q I ro ri rv h
  obtain ⟨p, xs, k, j, rfl, rfl, hp, hj, q⟩ := h
  cases ro
  obtain ⟨t, rfl⟩ := ri
  obtain ⟨its, n, r, ho, hz⟩ := I.lst hp
  obtain ⟨h1, h2, h3, h4⟩ := ixN_seq hj
  have hl := r.length
  have hn := line63
  have I' : Inv X pins σ (upd H p (.lst (xs.set j v))) { s with heap := s.heap.update p (Obj.mapSeq (·.setIfInBounds j u)) } :=
    I.lstUpd hp ho (mapSeq_set its n j u) (r.set rv j) (by rw [List.length_set]; exact hz) s.toks
  by_cases h0 : 0 ≤ k
  · have hk : k.toNat = j := by
      rw [seqIndex_of h0 h4] at h1
      exact Option.some.inj h1
    exact PySem.W.ki_setAt ho h0 (by omega) (by rw [List.size_toArray, ← hl]; exact h4) (by rw [hk]; exact ⟨_, I', q⟩)
  · have hk : (k + (its.toArray.size : Int)).toNat = j := by
      rw [seqIndex_neg (by omega) h3] at h1
      rw [List.size_toArray, ← hl]
      exact Option.some.inj h1
    exact PySem.W.ki_setBack ho (by omega) (by rw [List.size_toArray, ← hl]; exact h3) (by omega) (by rw [hk]; exact ⟨_, I', q⟩)

theorem slice_bounds (lo hi : Option Int) (n : Nat) : (sliceBounds lo hi none n).1 = ((HT.sIx n 0 lo : Nat) : Int) ∧ (sliceBounds lo hi none n).2.1 = ((HT.sIx n n hi : Nat) : Int) ∧ (sliceBounds lo hi none n).2.2 = 1 := by
  refine ⟨?_, ?_, rfl⟩
  · cases lo with
    | none => simp [sliceBounds, HT.sIx]
    | some i =>
      simp only [sliceBounds, HT.sIx, Option.getD_none, show (1 : Int) > 0 by decide, if_true]
      by_cases h : i < 0
      · simp only [h, if_true] <;> omega
      · simp only [h, if_false] <;> omega
  · cases hi with
    | none => simp [sliceBounds, HT.sIx]
    | some i =>
      simp only [sliceBounds, HT.sIx, Option.getD_none, show (1 : Int) > 0 by decide, if_true]
      by_cases h : i < 0
      · simp only [h, if_true] <;> omega
      · simp only [h, if_false] <;> omega
theorem slicePick_cut (its : List Value) (lo hi : Option Int) : slicePick its.toArray lo hi none = ((its.drop (HT.sIx its.length 0 lo)).take (HT.sIx its.length its.length hi - HT.sIx its.length 0 lo)).toArray := by
  obtain ⟨h1, h2, h3⟩ := slice_bounds lo hi its.toArray.size
  unfold slicePick
  rw [h1, h2, h3]
  simp only [sliceRange_one, pick_run, List.size_toArray] <;> rfl
/-- xs[lo:hi] of a list: a new list -/
def rSlL (K : PySem.W.Frag) : V → Option Int → Option Int → Hp → VK → Prop := fun x lo hi H Q => ∃ a xs, x = .ref a ∧ SqL K H a xs ∧ ∀ p, H p = none → Q (.ref p) (upd H p (.lst (cutV xs lo hi)))
theorem sl_list : SlR X (rSlL X.K) := by
  intro pins s σ H x v vl vu lo hi sl Q I rx hs pl pu h
  obtain ⟨a, xs, rfl, hx, q⟩ := h
  cases rx
  obtain ⟨its, r, ht, hz⟩ := I.list hx
  have hlen := r.length
  refine ⟨"list", _, slot_list_getitem.lookup, ht.isList.typeIs, ?_⟩
  refine wpAny_getItem_list_slice ht.isList hs pl pu .none (by simp) ?_ (by rw [List.size_toArray] <;> omega)
  rw [slicePick_cut, ← hlen]
  refine ⟨.ref s.heap.objs.size, _, I.laid (t' := s.toks) (o := .lst (cutV xs lo hi)) (fun b ob q => Heap.get?_push_of_some _ q) (Nat.le_refl _) ?_, rfl, q _ (I.hok.fresh (Nat.le_refl _))⟩
  exact ⟨Nat.le_trans (cutV_length xs lo hi) hz, _, 0, (r.drop (HT.sIx xs.length 0 lo)).take (HT.sIx xs.length xs.length hi - HT.sIx xs.length 0 lo), Heap.get?_push_size _ rfl⟩

def flatV : V → Bool
  | .non => true
  | .bl _ => true
  | .int _ => true
  | .str _ => true
  | _ => false
/-- == of flat values -/
def eqV : V → V → Bool
  | .non, .non => true
  | .bl a, .bl b => a == b
  | .bl a, .int b => (if a then 1 else 0) == b
  | .int a, .bl b => a == (if b then 1 else 0)
  | .int a, .int b => a == b
  | .str a, .str b => a == b
  | _, _ => false
theorem eqAt_V {A : Around} {s : Shared} {y x : V} {u v : Value} (ry : RelV y u) (rx : RelV x v) (fy : flatV y = true) (fx : flatV x = true) : SeqAt.EqAt A s u v (eqV y x) := by
  cases y with
  | non =>
    cases ry
    cases x with
    | non => cases rx; exact SeqAt.EqAt.same _
    | bl b => cases rx; exact SeqAt.EqAt.none_bool b
    | int b => obtain ⟨t, rfl⟩ := rx; exact SeqAt.EqAt.none_int b t
    | str b => obtain ⟨t, rfl⟩ := rx; exact SeqAt.EqAt.none_str b t
    | _ => exact absurd (show false = true from fx) Bool.false_ne_true
  | bl a =>
    cases ry
    cases x with
    | non => cases rx; exact SeqAt.EqAt.bool_none a
    | bl b => cases rx; exact SeqAt.EqAt.bool_bool a b
    | int b => obtain ⟨t, rfl⟩ := rx; exact SeqAt.EqAt.bool_int a b t
    | str b => obtain ⟨t, rfl⟩ := rx; exact SeqAt.EqAt.bool_str a b t
    | _ => exact absurd (show false = true from fx) Bool.false_ne_true
  | int a =>
    obtain ⟨t', rfl⟩ := ry
    cases x with
    | non => cases rx; exact SeqAt.EqAt.int_none a t'
    | bl b => cases rx; exact SeqAt.EqAt.int_bool a t' b
    | int b => obtain ⟨t, rfl⟩ := rx; exact SeqAt.EqAt.int_int a t' b t
    | str b => obtain ⟨t, rfl⟩ := rx; exact SeqAt.EqAt.int_str a t' b t
    | _ => exact absurd (show false = true from fx) Bool.false_ne_true
  | str a =>
    obtain ⟨t', rfl⟩ := ry
    cases x with
    | non => cases rx; exact SeqAt.EqAt.str_none a t'
    | bl b => cases rx; exact SeqAt.EqAt.str_bool a t' b
    | int b => obtain ⟨t, rfl⟩ := rx; exact SeqAt.EqAt.str_int a t' b t
    | str b => obtain ⟨t, rfl⟩ := rx; exact SeqAt.EqAt.str_str a t' b t
    | _ => exact absurd (show false = true from fx) Bool.false_ne_true
  | _ => exact absurd (show false = true from fy) Bool.false_ne_true
/-- the items' answers, read off the values (a value's own answer does not lean on its token) -/
def eqU (x : V) (u : Value) : Bool := match u with
  | .none => eqV .non x
  | .bool b => eqV (.bl b) x
  | .int i _ => eqV (.int i) x
  | .str z _ => eqV (.str z) x
  | _ => false
theorem eqU_of {x y : V} {u : Value} (r : RelV y u) (f : flatV y = true) : eqU x u = eqV y x := by
  cases y with
  | non => cases r; rfl
  | bl b => cases r; rfl
  | int i => obtain ⟨t, rfl⟩ := r; rfl
  | str z => obtain ⟨t, rfl⟩ := r; rfl
  | _ => exact absurd (show false = true from f) Bool.false_ne_true
theorem any_eqU {x : V} : ∀ {xs : List V} {us : List Value}, Vals xs us → xs.all flatV = true → us.any (eqU x) = xs.any fun y => eqV y x
  | _, _, .nil, _ => rfl
  | y :: xs, u :: us, .cons r t, f => by
    rw [List.all_cons, Bool.and_eq_true] at f
    rw [List.any_cons, List.any_cons, eqU_of r f.1, any_eqU t f.2]
theorem mem_eqAt {A : Around} {s : Shared} {x : V} {v : Value} (rx : RelV x v) (fx : flatV x = true) : ∀ {xs : List V} {us : List Value}, Vals xs us → xs.all flatV = true → ∀ u ∈ us, SeqAt.EqAt A s u v (eqU x u)
  | _, _, .nil, _ => fun u hu => by cases hu
  | y :: xs, u :: us, .cons r t, f => fun u' hu => by
    rw [List.all_cons, Bool.and_eq_true] at f
    rcases List.mem_cons.mp hu with rfl | hu
    · rw [eqU_of r f.1]; exact eqAt_V r rx f.1 fx
    · exact mem_eqAt rx fx t f.2 u' hu
def inV (x : V) (xs : List V) : Bool := xs.any fun y => eqV y x
/-- x in a list or tuple of flat items -/
def rIn (K : PySem.W.Frag) (neg : Bool) : R2 := fun x y H Q => ∃ p xs, y = .ref p ∧ (SqL K H p xs ∨ SqT K H p xs) ∧ flatV x = true ∧ xs.all flatV = true ∧ Q (.bl (if neg then !inV x xs else inV x xs)) H
theorem op_in_seq : OpR X (compareOp .In) (rIn X.K false) := by
  intro pins s σ H x y v u Q I rx ry h
  obtain ⟨p, xs, rfl, hq, fx, fs, q⟩ := h
  cases ry
  rcases hq with hq | hq
  · obtain ⟨its, r, pl, hz⟩ := I.list hq
    refine SeqAt.in_listAt (eqU x) pl.isList (fun w hw => mem_eqAt rx fx r fs w (by simpa using hw)) ⟨.bl _, H, I, rfl, ?_⟩
    rw [show its.toArray.any (eqU x) = its.any (eqU x) by simp, any_eqU r fs]
    exact q
  · obtain ⟨its, r, pl, hz⟩ := I.tuple hq
    refine SeqAt.in_tupleAt (eqU x) pl (fun w hw => mem_eqAt rx fx r fs w (by simpa using hw)) ⟨.bl _, H, I, rfl, ?_⟩
    rw [show its.toArray.any (eqU x) = its.any (eqU x) by simp, any_eqU r fs]
    exact q
theorem op_notIn_seq : OpR X (compareOp .NotIn) (rIn X.K true) := by
  intro pins s σ H x y v u Q I rx ry h
  obtain ⟨p, xs, rfl, hq, fx, fs, q⟩ := h
  cases ry
  rcases hq with hq | hq
  · obtain ⟨its, r, pl, hz⟩ := I.list hq
    refine SeqAt.notIn_listAt (eqU x) pl.isList (fun w hw => mem_eqAt rx fx r fs w (by simpa using hw)) ⟨.bl _, H, I, rfl, ?_⟩
    rw [show its.toArray.any (eqU x) = its.any (eqU x) by simp, any_eqU r fs]
    exact q
  · obtain ⟨its, r, pl, hz⟩ := I.tuple hq
    refine SeqAt.notIn_tupleAt (eqU x) pl (fun w hw => mem_eqAt rx fx r fs w (by simpa using hw)) ⟨.bl _, H, I, rfl, ?_⟩
    rw [show its.toArray.any (eqU x) = its.any (eqU x) by simp, any_eqU r fs]
    exact q
theorem op_notIn_str : OpR X (compareOp .NotIn) (fun x y H Q => ∃ i j, x = .str i ∧ y = .str j ∧ Q (.bl (!(!(Builtin.Str.occurrences j i 0 j.length 1).isEmpty))) H) := by
  intro pins s σ H x y v u Q I rx ry h
  obtain ⟨i, j, rfl, rfl, q⟩ := h
  obtain ⟨t, rfl⟩ := rx
  obtain ⟨t', rfl⟩ := ry
  exact notIn_str ⟨.bl _, H, I, rfl, q⟩

theorem CallR.or {f : Value} {r r' : List V → Hp → VK → Prop} (h : CallR X f r) (h' : CallR X f r') : CallR X f (fun xs H Q => r xs H Q ∨ r' xs H Q) := by
  intro pins s σ H xs us Q I rs q
  rcases q with q | q
  · exact h pins s σ H xs us Q I rs q
  · exact h' pins s σ H xs us Q I rs q
theorem call_list_of : CallR X (.type "list") (fun xs H Q => ∃ p ys, xs = [.ref p] ∧ (SqL X.K H p ys ∨ SqT X.K H p ys) ∧ ∀ l, H l = none → Q (.ref l) (upd H l (.lst ys))) := by
  intro pins s σ H xs us Q I r h
  obtain ⟨p, ys, rfl, hq, q⟩ := h
  obtain ⟨u, rfl, rx⟩ := vals1 r
  cases rx
  have fin : ∀ (its : List Value), Vals ys its → ys.length ≤ sizeLine → ∀ (h' : Heap) (c' : Nat), (∀ b o', s.heap.get? b = some o' → h'.get? b = some o') →
      h'.get? s.heap.objs.size = some { cls := .type "list", dict := none, data := .seq its.toArray c', slots := #[] } → EP X pins σ Q (.ref s.heap.objs.size) { s with heap := h' } := fun its r' hz h' c' kp e =>
    ⟨.ref s.heap.objs.size, _, I.laid (t' := s.toks) kp (Nat.le_refl _) (show ObjOk X.prog X.w _ h' _ (.lst ys) from ⟨hz, its, c', r', e⟩), rfl, q _ (I.hok.fresh (Nat.le_refl _))⟩
  rcases hq with hq | hq
  · obtain ⟨its, r', pl, hz⟩ := I.list hq
    have hlen := r'.length
    obtain ⟨o, ho, hc, n, hd⟩ := pl.isList
    exact call_list_seq p (.inl rfl) ho hc hd (fun h' c' kp e => fin its r' hz h' c' kp e) (by simp only [List.size_toArray] <;> omega)
  · obtain ⟨its, r', pl, hz⟩ := I.tuple hq
    have hlen := r'.length
    obtain ⟨o, ho, hc, n, hd⟩ := pl
    exact call_list_seq p (.inr rfl) ho hc hd (fun h' c' kp e => fin its r' hz h' c' kp e) (by simp only [List.size_toArray] <;> omega)
theorem call_tuple_of : CallR X (.type "tuple") (fun xs H Q => ∃ p ys, xs = [.ref p] ∧ ((SqL X.K H p ys ∧ ∀ l, H l = none → Q (.ref l) (upd H l (.tup ys))) ∨ (SqT X.K H p ys ∧ Q (.ref p) H))) := by
  intro pins s σ H xs us Q I r h
  obtain ⟨p, ys, rfl, h⟩ := h
  obtain ⟨u, rfl, rx⟩ := vals1 r
  cases rx
  rcases h with ⟨hq, q⟩ | ⟨hq, q⟩
  · obtain ⟨its, r', pl, hz⟩ := I.list hq
    have hlen := r'.length
    refine call_tuple_list pl.isList (fun h' kp => ?_) (by simp only [List.size_toArray] <;> omega)
    have I1 : Inv X pins σ H { s with heap := h' } := I.kept (t' := s.toks) kp
    have I2 : Inv X pins σ (upd H h'.objs.size (.tup ys)) { s with heap := h'.push { cls := .type "tuple", data := .seq its.toArray } } :=
      I1.laid (t' := s.toks) (fun b o e => Heap.get?_push_of_some _ e) (Nat.le_refl _) (show ObjOk X.prog X.w _ _ _ (.tup ys) from ⟨hz, its, r', IsTup.new _ _⟩)
    exact ⟨.ref h'.objs.size, _, I2, rfl, q _ (I1.hok.fresh (Nat.le_refl _))⟩
  · obtain ⟨its, r', pl, hz⟩ := I.tuple hq
    exact call_tuple_same pl ⟨.ref p, H, I, rfl, q⟩

/-- the value is of that builtin type -/
def tyV (K : PySem.W.Frag) (T : String) (x : V) (H : Hp) : Prop := match x with
  | .str _ => T = "str"
  | .int _ => T = "int"
  | .ref p => (T = "list" ∧ ∃ xs, SqL K H p xs) ∨ (T = "tuple" ∧ ∃ o, K.lookup p = some o ∧ o.cls = .type "tuple" ∧ o.dict = none) ∨
      (T = "dict" ∧ ((∃ kvs, H p = some (.dK kvs)) ∨ ∃ kvs, H p = some (.dT kvs))) ∨ (T = "set" ∧ ∃ S n, H p = some (.set S n))
  | _ => False
theorem tyV_is {pins : List (Addr × Obj)} {σ : St} {H : Hp} {s : Shared} {T : String} {x : V} {v : Value} (I : Inv X pins σ H s) (r : RelV x v) (ty : tyV X.K T x H) :
    s.TypeIs v T ∧ ∀ a, v = .ref a → ∃ ob, s.heap.get? a = some ob ∧ ob.dict = none := by
  cases x with
  | str z =>
    obtain ⟨t, rfl⟩ := r
    cases (show T = "str" from ty)
    exact ⟨typeIs_str s z t, fun _ e => nomatch e⟩
  | int i =>
    obtain ⟨t, rfl⟩ := r
    cases (show T = "int" from ty)
    exact ⟨typeIs_int s i t, fun _ e => nomatch e⟩
  | ref p =>
    cases r
    rcases ty with ⟨rfl, xs, hq⟩ | ⟨rfl, o, hk, hc, hd⟩ | ⟨rfl, hk⟩ | ⟨rfl, S, n, hk⟩
    · obtain ⟨its, _, pl, _⟩ := I.list hq
      refine ⟨pl.isList.typeIs, fun a e => ?_⟩
      cases e
      obtain ⟨o, n, e, c, hd, _⟩ := pl
      exact ⟨o, e, hd⟩
    · refine ⟨⟨o, I.kIn p o hk, hc⟩, fun a e => ?_⟩
      cases e
      exact ⟨o, I.kIn _ o hk, hd⟩
    · have z : ∃ o, s.heap.get? p = some o ∧ o.ExactDict := by
        rcases hk with ⟨kvs, hk⟩ | ⟨kvs, hk⟩
        · obtain ⟨_, _, _, _, o, _, _, e, ex, _⟩ := I.hok p _ hk
          exact ⟨o, e, ex⟩
        · obtain ⟨_, _, _, _, o, _, _, e, ex, _⟩ := I.hok p _ hk
          exact ⟨o, e, ex⟩
      obtain ⟨o, e, ex⟩ := z
      refine ⟨⟨o, e, ex.1⟩, fun a e2 => ?_⟩
      cases e2
      exact ⟨o, e, ex.2.1⟩
    · obtain ⟨o, _, _, _, e, ex, _⟩ := I.hok p _ hk
      refine ⟨⟨o, e, ex.1⟩, fun a e2 => ?_⟩
      cases e2
      exact ⟨o, e, ex.2.1⟩
  | _ => exact False.elim ty
def tBM (K : PySem.W.Frag) (T : String) (r : V → List V → Hp → VK → Prop) (to : TE) (t : TA) : TE := fun σ H Q => to σ H fun x H1 => tyV K T x H1 ∧ t σ H1 fun xs H2 => r x xs H2 Q
variable {o e : Expr} {es : List Expr} {to : TE} {t : TA} {name : Str} {apos cpos : Pos} {T id : String} {r : V → List V → Hp → VK → Prop}
theorem pe_bm (pa : PlainAttrs T) (slot : Slot T name id) (hty : typeOf (.builtin id) = pure (.type "method_descriptor")) (hm : MtR X id r) (ho : PE X o to) (ha : PA X (e :: es) t)
    (hbase : attributeBase o name X.env (eval o X.env) = eval o X.env := by rfl)
    (hfew : ((backTo cpos (starEach (e :: es) X.env)).all (fun x => !x.1) && (backToKw cpos (keywordEach [] X.env)).all (fun x => x.1.isSome)
      && decide ((e :: es).length + ([] : List Keyword).length + (if ([] : List Keyword).isEmpty then 0 else 1) < 30)) = true := by rfl)
    (hline : (apos.endLine == cpos.line) = true := by rfl) (hs : starEach (e :: es) X.env = (false, eval e X.env) :: starEach es X.env := by rfl) (hplain : (backTo cpos (starEach es X.env)).any (·.1) = false := by rfl) :
    PE X (.Call (.Attribute o name apos) (e :: es) [] cpos) (tBM X.K T r to t) := by
  intro pins s σ H Q I h
  refine wpAny_Call_method_late hbase hfew hline rfl (thn (ho pins s σ H _ I h) fun v s1 ⟨x, H1, I1, r1, ty, q1⟩ => ?_)
  obtain ⟨h1, h2⟩ := tyV_is I1 r1 ty
  refine ⟨T, id, pa, slot, hty, h1, h2, ?_⟩
  have hA := ha cpos pins s1 σ H1 _ I1 q1
  rw [hs] at hA ⊢
  refine Calls.callWith_builtin (by show (false || (backTo cpos (starEach es X.env)).any (·.1)) = false; rw [hplain] <;> rfl) (Calls.evalArgs_plain ?_)
  exact thn hA fun us s2 ⟨vs, H2, I2, r2, q2⟩ => hm pins s2 σ H2 x vs v us Q I2 r1 r2 q2
end
end L2

namespace L2
open PySem PySem.Spec PyProof.Rows

def MtM (X : Cx) (id : String) (r : V → List V → Hp → VK → Prop) : Prop :=
  ∀ (pins : List (Addr × Obj)) (s : Shared) (σ : St) (H : Hp) (x : V) (xs : List V) (v : Value) (us : List Value) (Q : VK), Inv X pins σ H s → RelV x v → Vals xs us → r x xs H Q →
    wpAny (model X.prog X.w) X.A (call (.builtin id) (v :: us)) (EP X pins σ Q) X.xe s

theorem Vals.one : ∀ {x : V} {us : List Value}, Vals [x] us → ∃ u, us = [u] ∧ RelV x u
  | _, _, .cons r .nil => ⟨_, rfl, r⟩
theorem Vals.two : ∀ {x y : V} {us : List Value}, Vals [x, y] us → ∃ u v, us = [u, v] ∧ RelV x u ∧ RelV y v
  | _, _, _, .cons r (.cons q .nil) => ⟨_, _, rfl, r, q⟩
theorem Vals.zero : ∀ {us : List Value}, Vals [] us → us = []
  | _, .nil => rfl
theorem Vals.dropLast {xs : List V} {us : List Value} (h : Vals xs us) : Vals xs.dropLast us.dropLast := by
  induction h with
  | nil => exact .nil
  | cons r t ih =>
    cases t with
    | nil => exact .nil
    | cons q t' => exact .cons r ih
theorem Vals.eraseIdx : ∀ {xs : List V} {us : List Value} (i : Nat), Vals xs us → Vals (xs.eraseIdx i) (us.eraseIdx i)
  | _, _, _, .nil => .nil
  | _, _, 0, .cons _ t => t
  | _, _, i + 1, .cons r t => .cons r (Vals.eraseIdx i t)
theorem Vals.reverse {xs : List V} {us : List Value} (h : Vals xs us) : Vals xs.reverse us.reverse := by
  induction h with
  | nil => exact .nil
  | cons r t ih => rw [List.reverse_cons, List.reverse_cons]; exact Vals.append ih (.cons r .nil)
theorem Vals.rep {xs : List V} {us : List Value} (h : Vals xs us) : ∀ k : Nat, Vals (List.replicate k xs).flatten (List.replicate k us).flatten
  | 0 => .nil
  | k + 1 => by
    rw [List.replicate_succ, List.replicate_succ, List.flatten_cons, List.flatten_cons]
    exact Vals.append h (Vals.rep h k)
theorem len_erase {α : Type} : ∀ (l : List α) (i : Nat), (l.eraseIdx i).length ≤ l.length
  | [], _ => Nat.le_refl _
  | _ :: _, 0 => Nat.le_succ _
  | _ :: r, i + 1 => Nat.succ_le_succ (len_erase r i)
theorem foldl_rep (its : List Value) : ∀ (k : Nat) (acc : List Value),
    List.foldl (fun x1 x2 => x1 ++ x2) acc.toArray (List.replicate k its.toArray) = (acc ++ (List.replicate k its).flatten).toArray
  | 0, acc => by simp
  | k + 1, acc => by
    have e : acc.toArray ++ its.toArray = (acc ++ its).toArray := by simp
    have e2 : (acc ++ its) ++ (List.replicate k its).flatten = acc ++ (List.replicate (k + 1) its).flatten := by
      rw [List.replicate_succ, List.flatten_cons, List.append_assoc]
    rw [← e2, ← foldl_rep its k (acc ++ its), ← e, List.replicate_succ, List.foldl_cons]

section
variable {X : Cx} {pins : List (Addr × Obj)} {σ : St} {H : Hp} {s : Shared} {l b : Addr} {xs ys zs : List V}

theorem Inv.lset {its its' : List Value} {n : Nat} {f : Array Value → Array Value} {t' : Nat} (I : Inv X pins σ H s) (hH : H l = some (.lst xs))
    (e : s.heap.get? l = some { cls := .type "list", data := .seq its.toArray n }) (hf : f its.toArray = its'.toArray) (hv : Vals ys its') (hz : ys.length ≤ sizeLine) :
    Inv X pins σ (upd H l (.lst ys)) { s with heap := s.heap.update l (Obj.mapSeq f), toks := t' } := by
  have q := PySem.IsL.update e f
  rw [hf] at q
  refine I.write (x := l) (e := l) (by rw [hH]; exact trivial) (.inl rfl) (fun b' u hb hu => (Heap.get?_update_other s.heap (Obj.mapSeq f) (Ne.symm hb)).trans hu) ⟨_, q⟩ ?_
  exact ⟨hz, its', _, hv, q⟩
theorem Inv.lnew {its : List Value} {t' : Nat} (I : Inv X pins σ H s) (hv : Vals ys its) (hz : ys.length ≤ sizeLine) :
    Inv X pins σ (upd H s.heap.objs.size (.lst ys)) { s with heap := s.heap.push { cls := .type "list", data := .seq its.toArray }, toks := t' } :=
  I.laid (fun _ _ q => Heap.get?_push_of_some _ q) (Nat.le_refl _) ⟨hz, its, 0, hv, Heap.get?_push_size _ rfl⟩
theorem Inv.fresh (I : Inv X pins σ H s) : H s.heap.objs.size = none := I.hok.fresh (Nat.le_refl _)
theorem Inv.lstM (I : Inv X pins σ H s) (hH : H l = some (.lst xs)) : xs.length ≤ sizeLine ∧ ∃ (its : List Value) (n : Nat), Vals xs its ∧ xs.length = its.length ∧ s.heap.get? l = some { cls := .type "list", data := .seq its.toArray n } := by
  obtain ⟨z, its, n, r, e⟩ := I.hok l _ hH
  exact ⟨z, its, n, r, r.length, e⟩

theorem notLongL {n : Nat} (h : n ≤ sizeLine) : Builtin.List.listTooLong n = false := by
  unfold Builtin.List.listTooLong
  exact decide_eq_false (by omega)
end

section
variable {X : Cx}

def rAppend : V → List V → Hp → VK → Prop := fun x vs H Q => ∃ l xs y, x = .ref l ∧ vs = [y] ∧ H l = some (.lst xs) ∧ xs.length < sizeLine ∧ Q .non (upd H l (.lst (xs ++ [y])))
theorem mt_append : MtM X "list.append" rAppend := by
  intro pins s σ H x vs v us Q I rx rv h
  obtain ⟨l, xs, y, rfl, rfl, hH, hz, q⟩ := h
  cases rx
  obtain ⟨u, rfl, ru⟩ := rv.one
  obtain ⟨z, its, n, r, hl, e⟩ := I.lstM hH
  refine call_meets F.slot_list_append ⟨_, e, rfl⟩ F.entry_list_append (F.args_list_append_2 _ _) (PySem.list_append l its.toArray n u (by rw [List.size_toArray]; omega)) ⟨e, ?_⟩
  refine ⟨.non, _, I.lset (its' := its ++ [u]) hH e (by simp) (r.append (.cons ru .nil)) ?_, rfl, q⟩
  rw [List.length_append, List.length_singleton]
  omega

def rPopAt : V → List V → Hp → VK → Prop := fun x vs H Q => ∃ l xs i k y, x = .ref l ∧ vs = [.int i] ∧ H l = some (.lst xs) ∧ -(2 ^ 63) ≤ i ∧ i < 2 ^ 63 ∧ seqIndex? i xs.length = some k ∧ xs[k]? = some y ∧ Q y (upd H l (.lst (xs.eraseIdx k)))
theorem mt_popAt : MtM X "list.pop" rPopAt := by
  intro pins s σ H x vs v us Q I rx rv h
  obtain ⟨l, xs, i, k, y, rfl, rfl, hH, h1, h2, hk, hy, q⟩ := h
  cases rx
  obtain ⟨u, rfl, ru⟩ := rv.one
  obtain ⟨t, rfl⟩ := ru
  obtain ⟨z, its, n, r, hl, e⟩ := I.lstM hH
  obtain ⟨w, hw, rw'⟩ := r.get hy
  refine call_meets F.slot_list_pop ⟨_, e, rfl⟩ F.entry_list_pop (F.args_list_pop_2 _ _)
    (MeetsSeq.list_pop_at l its.toArray n i t k w (fitsIndex_both h1 h2) (by rw [List.size_toArray, ← hl]; exact hk) (by rw [← Array.getElem?_toList]; exact hw) (by rw [List.size_toArray]; omega)) ⟨e, ?_⟩
  refine ⟨y, _, I.lset (its' := its.eraseIdx k) hH e ?_ (r.eraseIdx k) ?_, rw', q⟩
  · show its.toArray.eraseIdxIfInBounds k = (its.eraseIdx k).toArray
    rw [List.eraseIdxIfInBounds_toArray]
  · have := len_erase xs k
    omega

def rCat : R2 := fun x y H Q => ∃ l b xs zs, x = .ref l ∧ y = .ref b ∧ H l = some (.lst xs) ∧ H b = some (.lst zs) ∧ xs.length + zs.length ≤ sizeLine ∧ ∀ p, H p = none → Q (.ref p) (upd H p (.lst (xs ++ zs)))
theorem op_cat : OpR X (binaryOp .Add) rCat := by
  intro pins s σ H x y v u Q I rx ry h
  obtain ⟨l, b, xs, zs, rfl, rfl, hH, hB, hz, q⟩ := h
  cases rx
  cases ry
  obtain ⟨z, its, n, r, hl, e⟩ := I.lstM hH
  obtain ⟨z2, its2, n2, r2, hl2, e2⟩ := I.lstM hB
  refine PySem.P.add_list e e2 ?_ (by rw [List.size_toArray, List.size_toArray]; omega)
  have ea : its.toArray ++ its2.toArray = (its ++ its2).toArray := by simp
  rw [ea]
  exact ⟨.ref _, _, I.lnew (t' := s.toks) (r.append r2) (by rw [List.length_append]; omega), rfl, q _ I.fresh⟩
/-- a list times an int (a negative one is nothing) -/
def rRep : R2 := fun x y H Q => ∃ l k xs, x = .ref l ∧ y = .int k ∧ H l = some (.lst xs) ∧ -(2 ^ 63) ≤ k ∧ k < 2 ^ 63 ∧ xs.length * k.toNat ≤ sizeLine ∧
  ∀ p, H p = none → Q (.ref p) (upd H p (.lst (List.replicate k.toNat xs).flatten))
theorem len_rep {α : Type} (xs : List α) (k : Nat) : (List.replicate k xs).flatten.length = k * xs.length := by
  induction k with
  | zero => simp
  | succ k ih => rw [List.replicate_succ, List.flatten_cons, List.length_append, ih, Nat.succ_mul, Nat.add_comm]
theorem op_rep : OpR X (binaryOp .Mult) rRep := by
  intro pins s σ H x y v u Q I rx ry h
  obtain ⟨l, k, xs, rfl, rfl, hH, h1, h2, hz, q⟩ := h
  cases rx
  obtain ⟨t, rfl⟩ := ry
  obtain ⟨z, its, n, r, hl, e⟩ := I.lstM hH
  have hlen : its.toArray.size * k.toNat ≤ sizeLine := by rw [List.size_toArray, ← hl]; exact hz
  have hcap : ¬ its.toArray.size * k.toNat > (2 ^ 63 - 1) / 8 := by
    have : (sizeLine : Nat) ≤ (2 ^ 63 - 1) / 8 := by decide
    omega
  have hfit : ¬ (!Builtin.List.listFitsIndex k) = true := by
    rw [fitsIndex_both h1 h2]
    exact Bool.false_ne_true
  have hlong : ¬ Builtin.List.listTooLong (its.toArray.size * k.toNat) = true := by
    rw [notLongL hlen]
    exact Bool.false_ne_true
  have hnew : List.foldl (fun x1 x2 => x1 ++ x2) #[] (List.replicate (if its.toArray.isEmpty = true then 0 else k.toNat) its.toArray) = (List.replicate k.toNat its).flatten.toArray := by
    have f0 : ∀ m : Nat, List.foldl (fun x1 x2 => x1 ++ x2) #[] (List.replicate m its.toArray) = (List.replicate m its).flatten.toArray := fun m => by
      have := foldl_rep its m []
      rw [List.nil_append] at this
      exact this
    rw [f0]
    cases its with
    | nil => simp
    | cons a r' => rw [if_neg (by simp)]
  refine wpAny_binaryOp_repeat_ref (T := "list") (U := "int") (by decide) ⟨_, e, rfl⟩ (fun s' => typeIs_int s' k t) noFill_list_mul F.fills_int_mul F.slot_int_rmul repeat_list F.slot_int_index.lookup
    (call_meets F.slot_int_rmul (typeIs_int s k t) F.entry_int_rmul (F.args_int_rmul_2 _ _) (int___rmul___int_list k t l its.toArray n)
      ⟨e, rfl, ⟨_, e, rfl⟩, call_meets F.slot_list_mul ⟨_, e, rfl⟩ F.entry_list_mul (F.args_list_mul_2 _ _) (AutoListH.list___mul___list_int_3 l its.toArray n k t hfit hcap hlong) ⟨e, ?_⟩⟩)
  rw [hnew]
  exact ⟨.ref _, _, I.lnew (t' := s.toks) (r.rep k.toNat) (by rw [len_rep, Nat.mul_comm]; exact hz), rfl, q _ I.fresh⟩

end

section
variable {prog : Program} {w : World} {A : Around} {E : Value → Shared → Prop} {s : Shared}
end

section
variable {X : Cx}
end
end L2

namespace Att
open PySem PySem.W PySem.Calls PyProof.Rows

theorem ints_of_wellAll {P : Params} {h : Heap} : ∀ (ns : List Int) (vs : List Value), WellAll P h vs (ns.map WData.int) → IntsAre vs ns := by
  intro ns
  induction ns with
  | nil =>
    intro vs w
    rw [List.map_nil] at w
    cases w
    exact .nil
  | cons n ns ih =>
    intro vs w
    rw [List.map_cons] at w
    cases w with
    | cons a b =>
      cases a
      exact .cons _ _ (ih _ b)

theorem script_of {l : OpenLaw} {n : Nat} (hn : l.most = some n) {P : Params} {h : Heap} {args : List WData} {vals : List Value}
    (hpre : l.row.toRowW.claim.pre args = true) (hwl : WellAll P h vals args) :
    ∃ a vs ns, vals = [Value.ref a] ∧ args = [WData.list (ns.map WData.int)] ∧ h.get? a = some { cls := .type "list", data := .seq vs.toArray } ∧ IntsAre vs ns ∧ ns.length ≤ n := by
  have hsh : WShape.hasAll [] args [.list .int] = true := (pre_splitW hpre).1
  have hc : l.pre.holds [] { args := args } = true := (pre_splitW hpre).2
  obtain ⟨d, r, rfl, h1, h2⟩ := hasAllW_cons hsh
  obtain rfl := hasAllW_nil h2
  obtain ⟨xs, rfl, h3⟩ := hasW_list h1
  obtain ⟨ns, rfl⟩ := items_int h3
  have hlen : ns.length ≤ n := by
    unfold OpenLaw.pre at hc
    have h4 : (WTm.not (.lt (.lit (.int (n : Int))) (.len (.arg 0)))).holds [] { args := [.list (ns.map .int)] } = true := by
      have h4 := (holds_andW hc).1
      rw [hn] at h4
      exact h4
    have h5 := condW_of h4 (w_not (w_lt w_lit (w_len_list (w_arg rfl))))
    rw [List.length_map] at h5
    refine Nat.le_of_not_lt fun q => ?_
    have q' : (n : Int) < ((ns.length : Nat) : Int) := by omega
    first
      | (rw [decide_eq_true q'] at h5; exact absurd h5 (by decide))
      | (simp at h5; omega)
  cases hwl with
  | cons w1 w2 =>
    cases w2
    cases w1 with
    | list ho hall => exact ⟨_, _, ns, rfl, rfl, ho, ints_of_wellAll ns _ hall, hlen⟩

theorem post_true (l : OpenLaw) (args : List WData) : l.row.toRowW.claim.post args (.bool true) args = true :=
  postW_of (r := l.row.toRowW) (X := (true == true))
    (show WShape.has [] (.bool true) .bool = true by first | rfl | decide | simp [WShape.has, WShape.arms, WShape.armsAll])
    (show (WTm.eq .res (.lit (.bool true))).value [] { args := args, res := some (.bool true), after := args } = some (.bool (true == true)) from w_eq_bool (w_res rfl) w_lit) rfl

/-- the same from a codeAny of the CALL (for a layer whose function contracts speak of calls) -/
theorem attach_call {l : OpenLaw} {n : Nat} {q : Program} {loose : List Str} {XP : (Str → Option Value) → Heap → Prop} {YP : World → Heap → Prop} {d : DefRec}
    (hn : l.most = some n) (hdf : d.params.defaults = [])
    (call : ∀ (w : World) (s₀ s₁ : Shared) (mg mb : Str → Option Value) (fa : Addr) (o : Obj) (pm cd doc : Value) (a : Addr) (vs : List Value) (ns : List Int),
      Ground q loose [] XP w s₀ mg mb s₁.heap → YP w s₁.heap →
      s₁.heap.get? fa = some o → o.data = .func (docDef d.name d.params d.body d.scope pm cd doc) → s₁.heap.CodeRec cd d.name → mg d.name = some (.ref fa) →
      s₁.heap.get? a = some { cls := .type "list", data := .seq vs.toArray } → IntsAre vs ns → ns.length ≤ n → s₁.gens = #[] →
      codeAny (model l.prog w) callerA (.call (.ref fa) ⟨[.ref a], []⟩) (fun r s' => r = .ok (.ret (.bool true)) ∧ OldK s₁.heap s'.heap ∧ s'.os = s₁.os ∧ AllBare s'.gens) s₁) :
    WalkO q loose XP YP l.row.toRowW d [] (fun f vs => PySem.call f vs) := by
  intro w s₀ s₁ mg mb G Y fa o pm cd doc dV kV ho hd hcd hD hmg hg args vals as hpre hlay hrd hwl hlo
  obtain rfl : dV = .none := Dflts.none hD hdf
  obtain rfl : kV = .none := Dflts.noKw hD
  obtain ⟨a, vs, ns, rfl, rfl, hobj, hints, hlen⟩ := script_of hn hpre hwl
  refine enter_call (codeAny_mono (call w s₀ s₁ mg mb fa o pm cd doc a vs ns G Y ho (fd_plain hd) hcd hmg hobj hints hlen hg) fun r s' hq => ?_)
  obtain ⟨rfl, h2, h3, h4⟩ := hq
  exact ⟨.inl ⟨.bool true, .bool true, [], rfl, fun _ => rfl, .bool true, post_true l _, fun _ => ⟨List.Pairwise.nil, fun _ hm => (nomatch hm)⟩⟩, h2, h3, h4⟩

section
variable {prog : Program} {w : World} {A : Around} {E : Value → Shared → Prop} {s : Shared} {K : Frag}

end
end Att

namespace L2
open PySem PySem.Spec PyProof.Rows

theorem vals_ints : ∀ {vs : List Value} {ns : List Int}, IntsAre vs ns → Vals (ns.map V.int) vs
  | _, _, .nil => .nil
  | _, _, .cons n t h => .cons ⟨t, rfl⟩ (vals_ints h)

/-- nothing is tracked but the script, known to the object (or it is an object of the module) -/
def Only (H : Hp) : Prop := ∀ b, H b = none ∨ ∃ o xs, H b = some (.frz o (.lst xs))

/-- THE HEAD: the law's promise, at the heap behind the top. F, the promise of the law's def, may use that base is part of the heap (so K.In base, base.Ns mainGlobals mg stand in Mod) -/
theorem law_call {P : Program} {w : World} {K : PySem.W.Frag} {mg mb : Str → Option Value} {CX : CXT} {k : Nat} {fa a : Addr} {fd : FuncData} {x : Str} {sp : Sp} {s₁ : Shared} {vs : List Value} {ns : List Int}
    (KX : K.In s₁.heap) (hns : s₁.heap.Ns mainGlobals mg) (hb : s₁.heap.Ns builtinsNs mb) (hbb : ∀ x : Str, x ≠ "__name__" → mb x = bootBuiltins x) (hlim : s₁.heap.NoLimit) (hg : s₁.gens = #[])
    (ha : s₁.heap.get? a = some { cls := .type "list", data := .seq vs.toArray }) (hi : IntsAre vs ns) (hl : ns.length ≤ sizeLine) (hr : Room k callerA)
    (F : ∀ base : Heap, K.In base → base.Ns mainGlobals mg → FnOk P w K mg base CX k fa fd [x] sp) (hbind : ∀ (s : Shared) (u : Value), BindsTo s fd ⟨[u], []⟩ [(x, u)])
    (hsp : ∀ H : Hp, Only H → SqL K H a (ns.map V.int) → sp [.ref a] H (fun v _ => v = .bl true) fun _ _ _ => False)
    (hCX : ∀ H e s', CX [] H s₁ (fun _ _ _ => False) e s' → False) :
    codeAny (model P w) callerA (.call (.ref fa) ⟨[.ref a], []⟩) (fun r s' => r = .ok (.ret (.bool true)) ∧ OldK s₁.heap s'.heap ∧ s'.os = s₁.os ∧ AllBare s'.gens) s₁ := by
  have rv := vals_ints hi
  have lenV := hi.length
  -- from an abstract heap in which nothing but the script may be tracked
  have core : ∀ H : Hp, Only H → SqL K H a (ns.map V.int) → HOk P w H s₁.heap → (∀ b, H b ≠ none → b = a) → (H a ≠ none → K.lookup a = none) →
      codeAny (model P w) callerA (.call (.ref fa) ⟨[.ref a], []⟩) (fun r s' => r = .ok (.ret (.bool true)) ∧ OldK s₁.heap s'.heap ∧ s'.os = s₁.os ∧ AllBare s'.gens) s₁ := by
    intro H hO hS hok hA hK
    have base_of : ∀ {b : Addr} {o : Obj}, s₁.heap.get? b = some o → H b = none → (hidT s₁.heap H).get? b = some o := fun e n => hidT_get e n
    have noA : ∀ {b : Addr} {o : Obj} {es : Array DictEntry} {ep : Nat}, s₁.heap.get? b = some o → o.data = .dict es ep → H b = none := fun {b o es ep} e d => by
      cases q : H b with
      | none => rfl
      | some u =>
        have e' : b = a := hA b (by rw [q]; simp)
        subst e'
        rw [ha] at e; cases e
        have d' : Data.seq vs.toArray _ = Data.dict es ep := d
        cases d'
    have nsK : ∀ {b : Addr} {m : Str → Option Value}, s₁.heap.Ns b m → (hidT s₁.heap H).Ns b m := fun {b m} ⟨o, es, ep, e, d, r⟩ => ⟨o, es, ep, base_of e (noA e d), d, r⟩
    have hKb : K.In (hidT s₁.heap H) := fun b o e => base_of (KX b o e) (by
      cases q : H b with
      | none => rfl
      | some u =>
        have e' : b = a := hA b (by rw [q]; simp)
        subst e'
        rw [hK (by rw [q]; simp)] at e; cases e)
    have hM : Mod K mg (hidT s₁.heap H) := ⟨hKb, nsK hns, ⟨mb, nsK hb, hbb⟩, let ⟨mc, h1, h2⟩ := hlim; ⟨mc, nsK h1, h2⟩⟩
    have e0 : Env0 P w K mg (hidT s₁.heap H) callerA [] s₁ H := ⟨rfl, hM, fun b o e => of_hidT e, Nat.le_of_eq (hidT_size _ _), trivial, fun b hb => absurd (show b ∈ ([] : List Addr) from hb) (by simp), hok, .of_eq hg⟩
    refine codeAny_mono ((F _ hKb (nsK hns)).run callerA [] s₁ H ⟨[.ref a], []⟩ [.ref a] [.ref a] _ _ hr e0 (hbind s₁ (.ref a)) (.cons rfl .nil) (hsp H hO hS)) fun r s' h => ?_
    cases r with
    | error e => exact (hCX H e s' h).elim
    | ok fl =>
      cases fl with
      | next => exact False.elim h
      | brk => exact False.elim h
      | cont => exact False.elim h
      | ret u =>
        obtain ⟨v, H', os, bare, un, hok', r', q⟩ := h
        have q' : v = .bl true := q
        subst q'
        obtain rfl : u = Value.bool true := r'
        refine ⟨rfl, OldK.of_keep fun b o e => ?_, os, bare⟩
        cases q : H b with
        | none => exact un.keep b o e q (by intro z; exact absurd (show b ∈ ([] : List Addr) from z) (by simp)) (by simp)
        | some u =>
          rcases hO b with z | ⟨ob, xs, z⟩
          · rw [q] at z; cases z
          · have z2 := un.frzs b ob _ z
            obtain ⟨e1, _⟩ := hok b _ z
            obtain ⟨e2, _⟩ := hok' b _ z2
            rw [e] at e1; cases e1
            exact e2
  cases hk : K.lookup a with
  | some o =>
    -- the script is one of the module's own objects
    have e := KX a o hk
    rw [ha] at e
    cases e
    refine core (fun _ => none) (fun _ => .inl rfl) (.inr ⟨_, vs.toArray, _, hk, rfl, rfl, rfl, by rw [List.size_toArray, lenV]; exact hl, by simpa using rv⟩) (fun b u z => by have z' : (none : Option HO) = some u := z; cases z') (fun b z => absurd rfl z) fun z => absurd rfl z
  | none =>
    refine core (fun b => if b = a then some (.frz { cls := .type "list", data := .seq vs.toArray } (.lst (ns.map V.int))) else none) (fun b => ?_) (.inl (.inr ⟨{ cls := .type "list", data := .seq vs.toArray }, if_pos rfl⟩)) (fun b u z => ?_) (fun b z => ?_) fun _ => hk
    · by_cases hb : b = a
      · exact .inr ⟨_, _, if_pos hb⟩
      · exact .inl (if_neg hb)
    · by_cases hb : b = a
      · have z' := (if_pos hb).symm.trans z
        cases z'
        subst hb
        exact ⟨ha, by rw [List.length_map]; exact hl, vs, _, rv, ha⟩
      · have z' := (if_neg hb).symm.trans z
        cases z'
    · by_cases hb : b = a
      · exact hb
      · exact absurd (if_neg hb) z
end L2

namespace L2
open PySem PySem.Spec PyProof.Rows

/-- the goal that k_head leaves (case hc), from the law's promise. F gives the function object fd (K's own) once, then the promise over every base -/
theorem walk_of {l : PySem.W.OpenLaw} {n k : Nat} {q : Program} {loose : List Str} {XP : (Str → Option Value) → Heap → Prop} {YP : World → Heap → Prop} {d : DefRec} {K : Params → PySem.W.Frag} {CX : World → CXT} {sp : World → Sp} {x : Str}
    (hn : l.most = some n) (hn2 : n ≤ sizeLine) (hdf : d.params.defaults = []) (hr : Room k callerA)
    (hY : ∀ (w : World) (h : Heap), YP w h → (K w.params).In h)
    (F : ∀ (w : World) (mg : Str → Option Value) (fa : Addr) (h : Heap), (K w.params).In h → h.Ns mainGlobals mg → mg d.name = some (.ref fa) →
      ∃ fd : FuncData, (∀ (s : Shared) (u : Value), BindsTo s fd ⟨[u], []⟩ [(x, u)]) ∧
        ∀ base : Heap, (K w.params).In base → base.Ns mainGlobals mg → FnOk l.prog w (K w.params) mg base (CX w) k fa fd [x] (sp w))
    (hsp : ∀ (w : World) (H : Hp) (a : Addr) (ns : List Int), ns.length ≤ n → Only H → SqL (K w.params) H a (ns.map V.int) → sp w [.ref a] H (fun v _ => v = .bl true) fun _ _ _ => False)
    (hCX : ∀ (w : World) (H : Hp) (s : Shared) (e : Value) (s' : Shared), CX w [] H s (fun _ _ _ => False) e s' → False) :
    PySem.W.WalkO q loose XP YP l.row.toRowW d [] (fun f vs => PySem.call f vs) := by
  refine Att.attach_call hn hdf fun w s₀ s₁ mg mb fa o pm cd doc a vs ns G Y ho hd hcd hmg hobj hints hlen hg => ?_
  have KX := hY w _ Y
  obtain ⟨fd, hb, hF⟩ := F w mg fa _ KX G.T.g hmg
  exact law_call KX G.T.g G.T.b G.T.builtins G.T.nolimit hg hobj hints (Nat.le_trans hlen hn2) hr hF hb (fun H hO hS => hsp w H a ns hlen hO hS) fun H e s' => hCX w H s₁ e s'
end L2


namespace L2
open PySem PySem.Spec PyProof.Rows

def defArgs (s : Stmt) : Arguments := match s with
  | .FunctionDef _ a _ _ _ _ _ _ _ _ => a
  | _ => { posonlyargs := [], args := [], vararg := none, kwonlyargs := [], kw_defaults := [], kwarg := none, defaults := [] }
def defBody (s : Stmt) : List Stmt := match s with
  | .FunctionDef _ _ b _ _ _ _ _ _ _ => b
  | _ => []
def defScope (s : Stmt) : Scope := match s with
  | .FunctionDef _ _ _ _ _ _ sc _ _ _ => sc
  | _ => { kind := .function, names := [], isGenerator := false, isCoroutine := false }

abbrev CX0 : CXT := fun _ _ _ _ _ _ => False
abbrev E0 : XK := fun _ _ _ => False
theorem pass0 {X : Cx} : Passes CX0 X E0 := fun _ _ _ _ _ _ _ h => h.elim

structure Fun (K : PySem.W.Frag) (x qual : Str) (st : Stmt) (f : Addr) (fd : FuncData) : Prop where
  ex : ∃ (oc : Value) (od : Option Addr) (kV doc pm : Value) (an : Option Addr) (cdv ct : Value) (osl : Array (Option Value)),
    fd = PySem.W.fnOf x qual (defArgs st) (defBody st) (defScope st) .none kV doc pm an cdv ct ∧ K.lookup f = some ⟨oc, od, .func fd, osl⟩ ∧ PySem.W.codeIn K cdv qual = true
  kp : PySem.W.keepIn K (.ref f) = true
section
variable {P : Program} {w : World} {K : PySem.W.Frag} {mg : Str → Option Value} {base : Heap}
/-- THE RULE for a def: its body as a term of rules, and the reading of that term -/
theorem Fun.ok {x qual : Str} {st : Stmt} {f : Addr} {fd : FuncData} {N ps : List Str} {k : Nat} {sp : Sp} (F : Fun K x qual st f fd) (S : FnScope N ps (defScope st)) (len : ∀ vs H Q E, sp vs H Q E → vs.length = ps.length)
    (hbody : ∀ (cdv : Value) (A : Around) (outer : List Env) (s : Shared) (H : Hp) (vs : List V) (Q : VK) (E : XK), Room k (A.deeper (envOfC qual (defScope st) s.heap.objs.size f cdv)) → sp vs H Q E →
      ∃ t, PSs (cxOf CX0 P w K mg base N qual (defScope st) f cdv A outer s H E).nox (defBody st) t ∧ t { nx := fun _ H' => Q .non H', rt := Q } (start N vs) H) : FnOk P w K mg base CX0 (k + 1) f fd ps sp := by
  obtain ⟨oc, od, kV, doc, pm, an, cdv, ct, osl, rfl, lk, hcd⟩ := F.ex
  refine fn_of lk hcd S len fun A outer s H vs Q E hr hsp => ?_
  obtain ⟨t, h, q⟩ := hbody cdv A outer s H vs Q E hr hsp
  exact ⟨t, h.nox, q⟩
/-- how its arguments bind (no defaults): h is «fun _ _ _ _ _ _ us hl => match us, hl with | [_, _], _ => rfl», one _ a parameter -/
theorem Fun.binds {x qual : Str} {st : Stmt} {f : Addr} {fd : FuncData} {ps : List Str} (F : Fun K x qual st f fd)
    (h : ∀ (kV doc pm : Value) (an : Option Addr) (cdv ct : Value) (us : List Value), us.length = ps.length → bindArgs (PySem.W.fnOf x qual (defArgs st) (defBody st) (defScope st) .none kV doc pm an cdv ct) ⟨us, []⟩ = pure (ps.zip us)) : Binds K fd ps [] := by
  obtain ⟨oc, od, kV, doc, pm, an, cdv, ct, osl, rfl, lk, hcd⟩ := F.ex
  exact .all (h kV doc pm an cdv ct)
theorem fun_mk {x qual : Str} {st : Stmt} {f : Addr} {oc : Value} {od an : Option Addr} {osl : Array (Option Value)} {kV doc pm cdv ct : Value} (l : K.lookup f = some ⟨oc, od, .func (PySem.W.fnOf x qual (defArgs st) (defBody st) (defScope st) .none kV doc pm an cdv ct), osl⟩)
    (c : PySem.W.codeIn K cdv qual = true) (k : PySem.W.keepIn K (.ref f) = true) : Fun K x qual st f (PySem.W.fnOf x qual (defArgs st) (defBody st) (defScope st) .none kV doc pm an cdv ct) := ⟨⟨oc, od, kV, doc, pm, an, cdv, ct, osl, rfl, l, c⟩, k⟩
end
section
variable {X : Cx}
end

theorem iteF {A B : Prop} (h : B) : if false = true then A else B := by
  rw [if_neg Bool.false_ne_true]
  exact h
theorem iteT {A B : Prop} (h : A) : if true = true then A else B := by
  rw [if_pos rfl]
  exact h
/-- all that was tracked is as it was -/
def Same (H H' : Hp) : Prop := ∀ b o, H b = some o → H' b = some o
theorem Same.refl (H : Hp) : Same H H := fun _ _ h => h
theorem Same.trans {H H1 H2 : Hp} (a : Same H H1) (b : Same H1 H2) : Same H H2 := fun c o h => b c o (a c o h)
theorem Same.free {H H' : Hp} (e : Same H H') {l : Addr} (h : H' l = Option.none) : H l = Option.none := by
  cases q : H l with
  | none => rfl
  | some o =>
    rw [e l o q] at h
    cases h
theorem Same.seq {K : PySem.W.Frag} {H H' : Hp} {a : Addr} {xs : List V} (e : Same H H') (h : SqL K H a xs) : SqL K H' a xs := by
  rcases h with (h | ⟨o, h⟩) | h
  · exact .inl (.inl (e _ _ h))
  · exact .inl (.inr ⟨o, e _ _ h⟩)
  · exact .inr h

end L2

set_option Elab.async false
set_option linter.all false
set_option maxRecDepth 100000
set_option maxHeartbeats 4000000
namespace L2
open PySem PySem.Spec PyProof.Rows
section
variable {κ : Type} [DecidableEq κ]
def valV (kvs : List (κ × V)) (k : κ) : Option V := (kvs.find? fun kv => decide (kv.1 = k)).map (·.2)
/-- in its place, or at the end -/
def putK (kvs : List (κ × V)) (k : κ) (v : V) : List (κ × V) :=
  if (kvs.any fun kv => decide (kv.1 = k)) = true then kvs.map (fun kv => if kv.1 = k then (kv.1, v) else kv) else kvs ++ [(k, v)]
def dropK (kvs : List (κ × V)) (k : κ) : List (κ × V) := kvs.filter fun kv => decide (kv.1 ≠ k)

theorem valV_pos {p : κ × V} {r : List (κ × V)} {k : κ} (e : p.1 = k) : valV (p :: r) k = some p.2 := by simp [valV, List.find?_cons, e]
theorem valV_neg {p : κ × V} {r : List (κ × V)} {k : κ} (e : ¬ p.1 = k) : valV (p :: r) k = valV r k := by simp [valV, List.find?_cons, e]
theorem valV_any (k : κ) : ∀ kvs : List (κ × V), (kvs.any fun kv => decide (kv.1 = k)) = (valV kvs k).isSome
  | [] => rfl
  | p :: r => by
    rw [List.any_cons]
    by_cases e : p.1 = k
    · simp only [valV_pos e, decide_eq_true e, Bool.true_or, Option.isSome_some]
    · rw [valV_neg e, decide_eq_false e, Bool.false_or]; exact valV_any k r
theorem length_putK (kvs : List (κ × V)) (k : κ) (v : V) : (putK kvs k v).length ≤ kvs.length + 1 := by
  unfold putK
  split
  · rw [List.length_map]; omega
  · rw [List.length_append, List.length_cons, List.length_nil]; omega
theorem RelO.isSome_eq {o : Option V} {u : Option Value} (r : RelO o u) : o.isSome = u.isSome := by
  cases o with
  | none => cases u with
    | none => rfl
    | some _ => exact (show False from r).elim
  | some _ => cases u with
    | none => exact (show False from r).elim
    | some _ => rfl
theorem RelO.getD {o : Option V} {u : Option Value} {d : V} {d' : Value} (r : RelO o u) (rd : RelV d d') : RelV (o.getD d) (u.getD d') := by
  cases o with
  | none => cases u with
    | none => exact rd
    | some _ => exact (show False from r).elim
  | some _ => cases u with
    | none => exact (show False from r).elim
    | some _ => exact r

/-- raw tables of the same keys -/
theorem KV.val {kvs : List (κ × V)} {vs : List (κ × Value)} (r : KV kvs vs) (k : κ) : RelO (valV kvs k) (valueAt vs k) := by
  unfold KV at r
  induction r with
  | nil => exact True.intro
  | @cons p q ps qs h t ih =>
    obtain ⟨h1, h2⟩ := h
    by_cases e : p.1 = k
    · have e' : q.1 = k := h1.symm.trans e
      have b : valueAt (q :: qs) k = some q.2 := by simp [valueAt, List.find?_cons, e']
      rw [valV_pos e, b]; exact h2
    · have e' : ¬ q.1 = k := fun z => e (h1.trans z)
      have b : valueAt (q :: qs) k = valueAt qs k := by simp [valueAt, List.find?_cons, e']
      rw [valV_neg e, b]; exact ih
theorem KV.any {kvs : List (κ × V)} {vs : List (κ × Value)} (r : KV kvs vs) (k : κ) : (kvs.any fun kv => decide (kv.1 = k)) = vs.any fun kv => decide (kv.1 = k) := by
  unfold KV at r
  induction r with
  | nil => rfl
  | cons h t ih => rw [List.any_cons, List.any_cons, ih, h.1]
theorem KV.repl {kvs : List (κ × V)} {vs : List (κ × Value)} (r : KV kvs vs) (k : κ) {y : V} {u : Value} (ry : RelV y u) :
    KV (kvs.map fun kv => if kv.1 = k then (kv.1, y) else kv) (vs.map fun kv => if kv.1 = k then (kv.1, u) else kv) := by
  unfold KV at r ⊢
  induction r with
  | nil => exact .nil
  | @cons p q ps qs h t ih =>
    rw [List.map_cons, List.map_cons]
    refine .cons ?_ ih
    obtain ⟨h1, h2⟩ := h
    by_cases e : p.1 = k
    · rw [if_pos e, if_pos (h1.symm.trans e)]; exact ⟨h1, ry⟩
    · rw [if_neg e, if_neg (fun z => e (h1.trans z))]; exact ⟨h1, h2⟩
theorem KV.put {kvs : List (κ × V)} {vs : List (κ × Value)} (r : KV kvs vs) (k : κ) {y : V} {u : Value} (ry : RelV y u) : KV (putK kvs k y) (stored vs k u) := by
  unfold putK stored
  rw [r.any k]
  by_cases e : (vs.any fun kv => decide (kv.1 = k)) = true
  · rw [if_pos e, if_pos e]; exact r.repl k ry
  · rw [if_neg e, if_neg e]; exact Paired.snoc r ⟨rfl, ry⟩
theorem KV.drop {kvs : List (κ × V)} {vs : List (κ × Value)} (r : KV kvs vs) (k : κ) : KV (dropK kvs k) (without vs k) := by
  unfold KV at r ⊢
  unfold dropK without
  induction r with
  | nil => exact .nil
  | @cons p q ps qs h t ih =>
    obtain ⟨h1, h2⟩ := h
    rw [List.filter_cons, List.filter_cons]
    by_cases e : p.1 = k
    · have a : ¬ decide (p.1 ≠ k) = true := by simp [e]
      have b : ¬ decide (q.1 ≠ k) = true := by simp [h1.symm.trans e]
      rw [if_neg a, if_neg b]; exact ih
    · have e' : ¬ q.1 = k := fun z => e (h1.trans z)
      have a : decide (p.1 ≠ k) = true := by simp [e]
      have b : decide (q.1 ≠ k) = true := by simp [e']
      rw [if_pos a, if_pos b]; exact .cons ⟨h1, h2⟩ ih
theorem KV.keys {kvs : List (κ × V)} {vs : List (κ × Value)} (r : KV kvs vs) : kvs.map (·.1) = vs.map (·.1) := by
  unfold KV at r
  induction r with
  | nil => rfl
  | cons h t ih => rw [List.map_cons, List.map_cons, ih, h.1]
theorem KV.length {kvs : List (κ × V)} {vs : List (κ × Value)} (r : KV kvs vs) : kvs.length = vs.length := Paired.length r
end


theorem kV_is {P : Program} {w : World} {k : Key} {u : Value} (r : RelV (kV k) u) : (mixKind P w).is k u = true := by
  cases k with
  | inl i => obtain ⟨t, e⟩ := (show ∃ t, u = Value.int i t from r); subst e; exact mixKind_int P w i t
  | inr x => obtain ⟨t, e⟩ := (show ∃ t, u = Value.str x t from r); subst e; exact mixKind_str P w x t
theorem items_are {P : Program} {w : World} : ∀ {ks : List Key} {us : List Value}, Vals (ks.map kV) us → ItemsAre (mixKind P w) ks us
  | [], _, r => by rw [List.map_nil] at r; cases r; exact .nil
  | k :: ks, _, r => by
    rw [List.map_cons] at r
    cases r with
    | cons h t => exact .cons (kV_is h) (items_are t)

/-- raw entries of a dict with tuple keys -/
abbrev KT (H : Hp) : List (List Key × V) → List (List Key × Addr × Value) → Prop := Paired fun p q => p.1 = q.1 ∧ H q.2.1 = some (.tup (p.1.map kV)) ∧ RelV p.2 q.2.2
theorem KT.val {H : Hp} {kvs : List (List Key × V)} {xs : List (List Key × Addr × Value)} (r : KT H kvs xs) (k : List Key) : RelO (valV kvs k) ((atKey xs k).map (·.2)) := by
  induction r with
  | nil => exact True.intro
  | @cons p q ps qs h t ih =>
    obtain ⟨h1, _, h2⟩ := h
    by_cases e : p.1 = k
    · have e' : q.1 = k := h1.symm.trans e
      have b : atKey (q :: qs) k = some q.2 := by simp [atKey, List.find?_cons, e']
      rw [valV_pos e, b]; exact h2
    · have e' : ¬ q.1 = k := fun z => e (h1.trans z)
      have b : atKey (q :: qs) k = atKey qs k := by simp [atKey, List.find?_cons, e']
      rw [valV_neg e, b]; exact ih
theorem KT.repl {H : Hp} {kvs : List (List Key × V)} {xs : List (List Key × Addr × Value)} (r : KT H kvs xs) (k : List Key) {y : V} {u : Value} (ry : RelV y u) :
    KT H (kvs.map fun kv => if kv.1 = k then (kv.1, y) else kv) (xs.map (putAt k u)) := by
  induction r with
  | nil => exact .nil
  | @cons p q ps qs h t ih =>
    rw [List.map_cons, List.map_cons]
    refine .cons ?_ ih
    obtain ⟨h1, h2, h3⟩ := h
    unfold putAt
    by_cases e : p.1 = k
    · rw [if_pos e, if_pos (h1.symm.trans e)]; exact ⟨h1, h2, ry⟩
    · rw [if_neg e, if_neg (fun z => e (h1.trans z))]; exact ⟨h1, h2, h3⟩
theorem KT.put {H : Hp} {kvs : List (List Key × V)} {xs : List (List Key × Addr × Value)} (r : KT H kvs xs) (k : List Key) {b : Addr} {y : V} {u : Value} (hb : H b = some (.tup (k.map kV))) (ry : RelV y u) :
    KT H (putK kvs k y) (storedH xs k b u) := by
  have e : (kvs.any fun kv => decide (kv.1 = k)) = (atKey xs k).isSome := by
    rw [valV_any, (r.val k).isSome_eq, Option.isSome_map]
  unfold putK storedH
  rw [e]
  by_cases q : (atKey xs k).isSome = true
  · rw [if_pos q, if_pos q]; exact r.repl k ry
  · rw [if_neg q, if_neg q]; exact Paired.snoc r ⟨rfl, hb, ry⟩
theorem KT.keeps {H H' : Hp} {kvs : List (List Key × V)} {xs : List (List Key × Addr × Value)} (r : KT H kvs xs) (ht : ∀ b ys, H b = some (.tup ys) → H' b = some (.tup ys)) : KT H' kvs xs :=
  Paired.mapP r fun _ _ z => ⟨z.1, ht _ _ z.2.1, z.2.2⟩

section
variable {P : Program} {w : World} {H : Hp} {h : Heap} {a : Addr}
theorem rd_of {u : HO} (ok : HOk P w H h) (e : Rd H a u) : ObjOk P w H h a u := e.ok ok
theorem dk_rd {kvs : List (Key × V)} (ok : HOk P w H h) (e : Rd H a (.dK kvs)) : kvs.length ≤ sizeLine ∧ (a == sysModules) = false ∧ ∃ vs, KV kvs vs ∧ h.DictOf (mixKind P w) a vs :=
  show ObjOk P w H h a (.dK kvs) from rd_of ok e
theorem dk_of {kvs : List (Key × V)} (ok : HOk P w H h) (e : H a = some (.dK kvs)) : kvs.length ≤ sizeLine ∧ (a == sysModules) = false ∧ ∃ vs, KV kvs vs ∧ h.DictOf (mixKind P w) a vs := dk_rd ok (.inl e)
/-- a tracked tuple of ints and texts is a key -/
theorem key_of {ks : List Key} (ok : HOk P w H h) (e : H a = some (.tup (ks.map kV))) : (tupleKind (mixKind P w)).is h ks a := by
  obtain ⟨_, its, r, o, h1, h2, n, h3⟩ := (show ObjOk P w H h a (.tup (ks.map kV)) from ok a _ e)
  exact ⟨o, its.toArray, n, h1, h2, h3, by simpa using items_are r⟩
theorem dt_rd {kvs : List (List Key × V)} (ok : HOk P w H h) (e : Rd H a (.dT kvs)) : kvs.length ≤ sizeLine ∧ (a == sysModules) = false ∧
    ∃ xs, KT H kvs xs ∧ h.DictOfH (tupleKind (mixKind P w)) a xs := by
  obtain ⟨z, y, xs, r, o, es, ep, h1, h2, h3, h4, h5⟩ := (show ObjOk P w H h a (.dT kvs) from rd_of ok e)
  refine ⟨z, y, xs, r, o, es, ep, h1, h2, h3, h4, fun x hx => ?_, h5⟩
  have all : ∀ {l : List (List Key × V)} {m : List (List Key × Addr × Value)}, KT H l m → ∀ x ∈ m, (tupleKind (mixKind P w)).is h x.1 x.2.1 := by
    intro l m q
    induction q with
    | nil => intro x hx; exact nomatch hx
    | @cons p q ps qs hq t ih =>
      intro x hx
      rcases List.mem_cons.mp hx with e | hx
      · subst e
        exact key_of ok (by rw [← hq.1]; exact hq.2.1)
      · exact ih x hx
  exact all r x hx
theorem dt_of {kvs : List (List Key × V)} (ok : HOk P w H h) (e : H a = some (.dT kvs)) : kvs.length ≤ sizeLine ∧ (a == sysModules) = false ∧
    ∃ xs, KT H kvs xs ∧ h.DictOfH (tupleKind (mixKind P w)) a xs := dt_rd ok (.inl e)
end

/-- what the dict at a holds at the key y -/
def DGet (H : Hp) (a : Addr) (y : V) (r : Option V) : Prop :=
  (∃ kvs k, Rd H a (.dK kvs) ∧ y = kV k ∧ r = valV kvs k) ∨ ∃ kvs k b, Rd H a (.dT kvs) ∧ y = .ref b ∧ H b = some (.tup (k.map kV)) ∧ r = valV kvs k
/-- the heap behind a[y] = v -/
def DPut (H : Hp) (a : Addr) (y v : V) (H' : Hp) : Prop :=
  (∃ kvs k, H a = some (.dK kvs) ∧ y = kV k ∧ kvs.length < sizeLine ∧ H' = upd H a (.dK (putK kvs k v))) ∨
  ∃ kvs k b, H a = some (.dT kvs) ∧ y = .ref b ∧ H b = some (.tup (k.map kV)) ∧ kvs.length < sizeLine ∧ H' = upd H a (.dT (putK kvs k v))
theorem DGet.k {H : Hp} {a : Addr} {kvs : List (Key × V)} {k : Key} (e : H a = some (.dK kvs)) : DGet H a (kV k) (valV kvs k) := .inl ⟨kvs, k, .inl e, rfl, rfl⟩
theorem DGet.t {H : Hp} {a b : Addr} {kvs : List (List Key × V)} {k : List Key} (e : H a = some (.dT kvs)) (eb : H b = some (.tup (k.map kV))) : DGet H a (.ref b) (valV kvs k) := .inr ⟨kvs, k, b, .inl e, rfl, eb, rfl⟩
theorem DPut.k {H : Hp} {a : Addr} {kvs : List (Key × V)} {k : Key} {v : V} (e : H a = some (.dK kvs)) (hl : kvs.length < sizeLine) : DPut H a (kV k) v (upd H a (.dK (putK kvs k v))) := .inl ⟨kvs, k, e, rfl, hl, rfl⟩
theorem DPut.t {H : Hp} {a b : Addr} {kvs : List (List Key × V)} {k : List Key} {v : V} (e : H a = some (.dT kvs)) (eb : H b = some (.tup (k.map kV))) (hl : kvs.length < sizeLine) :
    DPut H a (.ref b) v (upd H a (.dT (putK kvs k v))) := .inr ⟨kvs, k, b, e, rfl, eb, hl, rfl⟩


section
variable {X : Cx} {pins : List (Addr × Obj)} {σ : St} {H : Hp} {s : Shared} {a : Addr} {y v : V} {u r : Value} {o : Option V} {A : Around} {E : Value → Shared → Prop}

theorem Inv.big (I : Inv X pins σ H s) : sysModules < s.heap.objs.size := by
  have h : mainGlobals < s.heap.objs.size := (I.mod.glob.keeps I.bk).lt
  exact Nat.lt_trans (by decide) h

/-- y in d -/
theorem d_in {Q : Value → Shared → Prop} (hu : A.units + 1 < cLine) (I : Inv X pins σ H s) (g : DGet H a y o) (ry : RelV y u) (h : ∀ s', Inv X pins σ H s' → Q (.bool o.isSome) s') :
    wpAny (model X.prog X.w) A (compareOp .In u (.ref a)) Q E s := by
  rcases g with ⟨kvs, k, e, ey, l⟩ | ⟨kvs, k, b, e, ey, eb, l⟩
  · subst ey
    obtain ⟨z, hd, vs, rel, dd⟩ := dk_rd I.hok e
    refine wpAny_in_of (kV_is ry) hd dd.mapOf ?_
    rw [← (rel.val k).isSome_eq, ← l]
    exact h _ (I.tok _)
  · subst ey
    cases (show u = Value.ref b from ry)
    obtain ⟨z, hd, xs, rel, dd⟩ := dt_rd I.hok e
    refine wpAny_in_heap (tupleKind_room_in1 hu) (key_of I.hok eb) hd dd ?_
    have q := (rel.val k).isSome_eq
    rw [Option.isSome_map] at q
    rw [← q, ← l]
    exact h _ (I.tok _)
/-- a dict's object is replaced -/
theorem d_write {h' : Heap} {t' : Nat} {ob : HO} (I : Inv X pins σ H s) (mu : Mut (H a)) (hs : Heap.SameBut a s.heap h') (he : ∃ q, h'.get? a = some q) (new : ObjOk X.prog X.w (upd H a ob) h' a ob) :
    Inv X pins σ (upd H a ob) { s with heap := h', toks := t' } :=
  I.write (x := a) (e := a) mu (.inl rfl) (fun b q hb z => (hs.2 b hb).trans z) he new
theorem dk_new {P : Program} {w : World} {H' : Hp} {h' : Heap} {kvs : List (Key × V)} {vs : List (Key × Value)} (z : kvs.length ≤ sizeLine) (hd : (a == sysModules) = false) (rel : KV kvs vs) (dd : h'.DictOf (mixKind P w) a vs) :
    ObjOk P w H' h' a (.dK kvs) := ⟨z, hd, vs, rel, dd⟩
/-- d[y] = v -/
theorem d_setItem {H' : Hp} {Q : Unit → Shared → Prop} (hu : A.units + 1 < cLine) (I : Inv X pins σ H s) (g : DPut H a y v H') (ry : RelV y u) (rv : RelV v r) (h : ∀ s', Inv X pins σ H' s' → Q () s') :
    wpAny (model X.prog X.w) A (setItem (.ref a) u r) Q E s := by
  rcases g with ⟨kvs, k, e, ey, l, eH⟩ | ⟨kvs, k, b, e, ey, eb, l, eH⟩
  · subst ey eH
    obtain ⟨z, hd, vs, rel, dd⟩ := dk_of I.hok e
    have hz : vs.length ≤ sizeLine := by rw [← rel.length]; exact z
    have hl : (putK kvs k v).length ≤ sizeLine := by have := length_putK kvs k v; omega
    refine wpAny_setItem_pairs (hsz := hz) (kV_is ry) dd fun h' dd' hs => h _ ?_
    have he : ∃ q, h'.get? a = some q := let ⟨q, _, _, hq, _⟩ := dd'; ⟨q, hq⟩
    exact d_write I (by rw [e]; exact True.intro) hs he (dk_new hl hd (rel.put k rv) dd')
  · subst ey eH
    cases (show u = Value.ref b from ry)
    obtain ⟨z, hd, xs, rel, dd⟩ := dt_of I.hok e
    have hz : xs.length ≤ sizeLine := by rw [← Paired.length rel]; exact z
    have hl : (putK kvs k v).length ≤ sizeLine := by have := length_putK kvs k v; omega
    refine wpAny_setItem_heap (hsz := hz) (tupleKind_room_in1 hu) (key_of I.hok eb) dd fun h' dd' hs => h _ ?_
    obtain ⟨q, es, ep, hq, h2, h3, h4, _, h5⟩ := dd'
    refine d_write I (by rw [e]; exact True.intro) hs ⟨q, hq⟩ ⟨hl, hd, _, (rel.put k eb rv).keeps fun c ys ec => ?_, q, es, ep, hq, h2, h3, h4, h5⟩
    rw [upd_ne (ne_of ec e (fun z => nomatch z))]
    exact ec
end

section
variable {X : Cx} {pins : List (Addr × Obj)} {σ : St} {H : Hp} {s : Shared} {a : Addr} {kvs : List (Key × V)} {k : Key} {u : Value} {A : Around} {E : Value → Shared → Prop}
end


/-- d[y] = v -/
def sDPut (td ty tv : TE) : TS := fun D σ H => tv σ H fun v H1 => td σ H1 fun x H2 => ty σ H2 fun y H3 => ∃ a H4, x = .ref a ∧ DPut H3 a y v H4 ∧ D.nx σ H4
section
variable {X : Cx} {o i e value : Expr} {pos pos' tpos : Pos} {td ty tv : TE}
theorem ps_dput (hu : X.A.units + 1 < cLine) (ho : PE X o td) (hi : PE X i ty) (hv : PE X value tv) (hs : swapsWith value (some (.Subscript o i pos')) pos.line X.env = pure false) :
    PS X (.Assign [.Subscript o i pos'] value pos) (sDPut td ty tv) := by
  intro pins s σ H D I h
  refine wpAny_Assign_Subscript (thn (hv pins s σ H _ I h) fun r s1 ⟨v, H1, I1, rv, q1⟩ => thn (ho pins s1 σ H1 _ I1 q1) fun u s2 ⟨x, H2, I2, rx, q2⟩ => thn (hi pins s2 σ H2 _ I2 q2) fun iv s3 ⟨y, H3, I3, ry, a, H4, ex, g, q3⟩ => ?_) hs
  subst ex
  obtain rfl : u = Value.ref a := rx
  exact d_setItem hu I3 g ry rv fun s4 I4 => ⟨σ, H4, I4, q3⟩
end


theorem dk_empty {P : Program} {w : World} {H : Hp} (h : Heap) (hb : sysModules < h.objs.size) : ObjOk P w H (h.push { cls := .type "dict", data := .dict #[] }) h.objs.size (.dK []) :=
  ⟨Nat.zero_le _, beq_eq_false_iff_ne.mpr (Ne.symm (Nat.ne_of_lt hb)), [], .nil, Heap.DictOf.new h⟩
/-- {}, to be a dict of the kind that is wanted -/
def tDNewK : TE := fun _ H Q => ∀ p, H p = none → Q (.ref p) (upd H p (.dK []))
section
variable {X : Cx} {pos : Pos}
theorem pe_dnewK : PE X (.Dict [] [] pos) tDNewK := fun pins s σ H Q I h =>
  wpAny_Dict_empty ⟨.ref s.heap.objs.size, _, I.laid (a := s.heap.objs.size) (o := .dK []) (t' := s.toks) (fun _ _ q => Heap.get?_push_of_some _ q) (Nat.le_refl _) (dk_empty s.heap I.big), rfl, h _ (I.hok.fresh (Nat.le_refl _))⟩
end

structure M1 (X : Cx) (o : Expr) (m : Str) (apos : Pos) (e : Expr) (cpos : Pos) : Prop where
  base : attributeBase o m X.env (eval o X.env) = eval o X.env
  few : ((backTo cpos (starEach [e] X.env)).all (fun x => !x.1) && (backToKw cpos (keywordEach [] X.env)).all (fun x => x.1.isSome)
    && decide (([e] : List Expr).length + ([] : List Keyword).length + (if ([] : List Keyword).isEmpty then 0 else 1) < 30)) = true
  line : (apos.endLine == cpos.line) = true
  trees : backTo cpos (starEach [e] X.env) = [(false, eval e X.env)]
structure M2 (X : Cx) (o : Expr) (m : Str) (apos : Pos) (e f : Expr) (cpos : Pos) : Prop where
  base : attributeBase o m X.env (eval o X.env) = eval o X.env
  few : ((backTo cpos (starEach [e, f] X.env)).all (fun x => !x.1) && (backToKw cpos (keywordEach [] X.env)).all (fun x => x.1.isSome)
    && decide (([e, f] : List Expr).length + ([] : List Keyword).length + (if ([] : List Keyword).isEmpty then 0 else 1) < 30)) = true
  line : (apos.endLine == cpos.line) = true
  trees : backTo cpos (starEach [e, f] X.env) = [(false, eval e X.env), (false, eval f X.env)]

section
variable {X : Cx} {pins : List (Addr × Obj)} {σ : St} {H : Hp} {s : Shared} {a : Addr} {y d : V} {u r : Value} {o : Option V} {A : Around} {E : Value → Shared → Prop}
end

section
variable {X : Cx} {o e f : Expr} {apos cpos : Pos} {td ty tx : TE}
end

section
variable {X : Cx} {pins : List (Addr × Obj)} {σ : St} {H : Hp} {s : Shared} {a : Addr} {kvs : List (Key × V)} {A : Around} {E : Value → Shared → Prop}
end


section
variable {X : Cx} {pins : List (Addr × Obj)} {σ : St} {H : Hp} {s : Shared} {a : Addr} {y : V} {u : Value} {A : Around} {E : Value → Shared → Prop}
end
end L2


set_option Elab.async false
set_option linter.all false
set_option maxRecDepth 100000
set_option maxHeartbeats 1000000

namespace MR
open PySem PySem.Spec PyProof.Rows L2

inductive U where
  | non | bl (b : Bool) | int (i : Int) | str (x : Str) | tup (l : List U) | ref (n : Nat)
inductive HU where
  | lst (xs : List U) | ro (xs : List U) | dic (kvs : List (Key × U)) | rod (kvs : List (Key × U)) | ins (C : Str) (fs : List (Str × U))
abbrev UH := List HU
abbrev UE := List (Option U)

section
variable (K : PySem.W.Frag) (H : Hp) (α : List Addr)
mutual
def RepU : U → V → Prop
  | .non, v => v = .non
  | .bl b, v => v = .bl b
  | .int i, v => v = .int i
  | .str x, v => v = .str x
  | .tup l, v => ∃ a xs, v = .ref a ∧ SqT K H a xs ∧ RepL l xs
  | .ref n, v => ∃ a, α[n]? = some a ∧ v = .ref a
def RepL : List U → List V → Prop
  | [], xs => xs = []
  | u :: l, xs => ∃ x r, xs = x :: r ∧ RepU u x ∧ RepL l r
end
end

def Stay (H H' : Hp) : Prop := (∀ b xs, H b = some (.tup xs) → H' b = some (.tup xs)) ∧ ∀ b o u, H b = some (.frz o u) → H' b = some (.frz o u)
theorem Stay.refl (H : Hp) : Stay H H := ⟨fun _ _ q => q, fun _ _ _ q => q⟩
theorem Stay.trans {H H1 H2 : Hp} (a : Stay H H1) (b : Stay H1 H2) : Stay H H2 := ⟨fun c xs q => b.1 c xs (a.1 c xs q), fun c o u q => b.2 c o u (a.2 c o u q)⟩
theorem Stay.sqT {K : PySem.W.Frag} {H H' : Hp} {a : Addr} {xs : List V} (e : Stay H H') (h : SqT K H a xs) : SqT K H' a xs := by
  rcases h with (h | ⟨o, h⟩) | h
  · exact .inl (.inl (e.1 _ _ h))
  · exact .inl (.inr ⟨o, e.2 _ _ _ h⟩)
  · exact .inr h
theorem Stay.new {H : Hp} {p : Addr} (h : H p = none) (o : HO) : Stay H (upd H p o) := ⟨fun b u q => by rw [upd_ne (ne_of_none q h)]; exact q, fun b o u q => by rw [upd_ne (ne_of_none q h)]; exact q⟩
theorem Stay.write {H : Hp} {p : Addr} {o : HO} (h : H p = some o) (m : Mut (some o)) (o' : HO) : Stay H (upd H p o') :=
  ⟨fun b u q => by rw [upd_ne (ne_of q h (fun z => by subst z; exact m))]; exact q, fun b w u q => by rw [upd_ne (ne_of q h (fun z => by subst z; exact m))]; exact q⟩

structure Gr (H : Hp) (α : List Addr) (H' : Hp) (α' : List Addr) : Prop where
  pre : ∃ β, α' = α ++ β
  st : Stay H H'
theorem Gr.refl (H : Hp) (α : List Addr) : Gr H α H α := ⟨⟨[], by simp⟩, .refl H⟩
theorem Gr.trans {H H1 H2 : Hp} {α α1 α2 : List Addr} (a : Gr H α H1 α1) (b : Gr H1 α1 H2 α2) : Gr H α H2 α2 := by
  obtain ⟨⟨β, e⟩, s⟩ := a
  obtain ⟨⟨γ, e'⟩, s'⟩ := b
  exact ⟨⟨β ++ γ, by rw [e', e, List.append_assoc]⟩, s.trans s'⟩
theorem Gr.at {H H' : Hp} {α α' : List Addr} (g : Gr H α H' α') {n : Nat} {a : Addr} (h : α[n]? = some a) : α'[n]? = some a := by
  obtain ⟨β, e⟩ := g.pre
  have hn : n < α.length := (List.getElem?_eq_some_iff.mp h).1
  rw [e, List.getElem?_append_left hn]; exact h

section
variable {K : PySem.W.Frag} {H H' : Hp} {α α' : List Addr}
mutual
theorem RepU.mono (g : Gr H α H' α') : ∀ (u : U) (v : V), RepU K H α u v → RepU K H' α' u v
  | .non, _, h => h
  | .bl _, _, h => h
  | .int _, _, h => h
  | .str _, _, h => h
  | .tup l, v, h => by
    unfold RepU at h ⊢
    obtain ⟨a, xs, e, s, r⟩ := h
    exact ⟨a, xs, e, g.st.sqT s, RepL.mono g l xs r⟩
  | .ref n, v, h => by
    unfold RepU at h ⊢
    obtain ⟨a, e, q⟩ := h
    exact ⟨a, g.at e, q⟩
theorem RepL.mono (g : Gr H α H' α') : ∀ (l : List U) (xs : List V), RepL K H α l xs → RepL K H' α' l xs
  | [], xs, h => h
  | u :: l, xs, h => by
    unfold RepL at h ⊢
    obtain ⟨x, r, e, h1, h2⟩ := h
    exact ⟨x, r, e, RepU.mono g u x h1, RepL.mono g l r h2⟩
end
theorem RepL.length : ∀ {l : List U} {xs : List V}, RepL K H α l xs → l.length = xs.length
  | [], xs, h => by unfold RepL at h; subst h; rfl
  | u :: l, xs, h => by
    unfold RepL at h
    obtain ⟨x, r, e, _, h2⟩ := h
    subst e
    simp [RepL.length h2]
theorem RepL.get : ∀ {l : List U} {xs : List V} {i : Nat} {u : U}, RepL K H α l xs → l[i]? = some u → ∃ x, xs[i]? = some x ∧ RepU K H α u x
  | [], xs, i, u, h, e => by simp at e
  | w :: l, xs, i, u, h, e => by
    unfold RepL at h
    obtain ⟨x, r, e', h1, h2⟩ := h
    subst e'
    cases i with
    | zero => simp at e; subst e; exact ⟨x, rfl, h1⟩
    | succ i => simpa using RepL.get (i := i) h2 (by simpa using e)
theorem RepL.nil : RepL K H α [] [] := by unfold RepL; rfl
theorem RepL.cons {u : U} {l : List U} {x : V} {xs : List V} (h : RepU K H α u x) (t : RepL K H α l xs) : RepL K H α (u :: l) (x :: xs) := by
  unfold RepL; exact ⟨x, xs, rfl, h, t⟩
theorem RepL.append : ∀ {l l' : List U} {xs ys : List V}, RepL K H α l xs → RepL K H α l' ys → RepL K H α (l ++ l') (xs ++ ys)
  | [], l', xs, ys, h, t => by unfold RepL at h; subst h; exact t
  | u :: l, l', xs, ys, h, t => by
    unfold RepL at h
    obtain ⟨x, r, e, h1, h2⟩ := h
    subst e
    exact .cons h1 (RepL.append h2 t)
theorem RepL.take : ∀ {l : List U} {xs : List V} (n : Nat), RepL K H α l xs → RepL K H α (l.take n) (xs.take n)
  | [], xs, n, h => by unfold RepL at h; subst h; simp [RepL.nil]
  | u :: l, xs, 0, h => by simp [RepL.nil]
  | u :: l, xs, n + 1, h => by
    unfold RepL at h
    obtain ⟨x, r, e, h1, h2⟩ := h
    subst e
    exact .cons h1 (RepL.take n h2)
theorem RepL.drop : ∀ {l : List U} {xs : List V} (n : Nat), RepL K H α l xs → RepL K H α (l.drop n) (xs.drop n)
  | [], xs, n, h => by unfold RepL at h; subst h; simp [RepL.nil]
  | u :: l, xs, 0, h => h
  | u :: l, xs, n + 1, h => by
    unfold RepL at h
    obtain ⟨x, r, e, h1, h2⟩ := h
    subst e
    exact RepL.drop n h2
theorem RepL.set {u : U} {x : V} (q : RepU K H α u x) : ∀ {l : List U} {xs : List V} (n : Nat), RepL K H α l xs → RepL K H α (l.set n u) (xs.set n x)
  | [], xs, n, h => by unfold RepL at h; subst h; exact .nil
  | w :: l, xs, 0, h => by
    unfold RepL at h
    obtain ⟨y, r, e, h1, h2⟩ := h
    subst e
    exact .cons q h2
  | w :: l, xs, n + 1, h => by
    unfold RepL at h
    obtain ⟨y, r, e, h1, h2⟩ := h
    subst e
    exact .cons h1 (RepL.set q n h2)
theorem RepL.erase : ∀ {l : List U} {xs : List V} (n : Nat), RepL K H α l xs → RepL K H α (l.eraseIdx n) (xs.eraseIdx n)
  | [], xs, n, h => by unfold RepL at h; subst h; exact .nil
  | w :: l, xs, 0, h => by
    unfold RepL at h
    obtain ⟨y, r, e, h1, h2⟩ := h
    subst e
    exact h2
  | w :: l, xs, n + 1, h => by
    unfold RepL at h
    obtain ⟨y, r, e, h1, h2⟩ := h
    subst e
    exact .cons h1 (RepL.erase n h2)
theorem RepL.reverse : ∀ {l : List U} {xs : List V}, RepL K H α l xs → RepL K H α l.reverse xs.reverse
  | [], xs, h => by unfold RepL at h; subst h; exact .nil
  | w :: l, xs, h => by
    unfold RepL at h
    obtain ⟨y, r, e, h1, h2⟩ := h
    subst e
    rw [List.reverse_cons, List.reverse_cons]
    exact (RepL.reverse h2).append (.cons h1 .nil)
theorem RepL.ints : ∀ (ns : List Int), RepL K H α (ns.map U.int) (ns.map V.int)
  | [] => .nil
  | n :: r => .cons rfl (RepL.ints r)
end

/-- a list that is never written: the script, or a list of the module -/
def RO (K : PySem.W.Frag) (H : Hp) (a : Addr) (xs : List V) : Prop :=
  (∃ o, H a = some (.frz o (.lst xs))) ∨ ∃ (o : Obj) (its : Array Value) (n : Nat), K.lookup a = some o ∧ o.cls = .type "list" ∧ o.dict = none ∧ o.data = .seq its n ∧ its.size ≤ sizeLine ∧ Vals xs its.toList
theorem RO.sq {K : PySem.W.Frag} {H : Hp} {a : Addr} {xs : List V} (h : RO K H a xs) : SqL K H a xs := by
  rcases h with ⟨o, h⟩ | h
  · exact .inl (.inr ⟨o, h⟩)
  · exact .inr h
theorem RO.stay {K : PySem.W.Frag} {H H' : Hp} {a : Addr} {xs : List V} (st : Stay H H') (h : RO K H a xs) : RO K H' a xs := by
  rcases h with ⟨o, h⟩ | h
  · exact .inl ⟨o, st.2 _ _ _ h⟩
  · exact .inr h
def HRep (K : PySem.W.Frag) (H : Hp) (α : List Addr) (a : Addr) : HU → Prop
  | .lst us => ∃ xs, H a = some (.lst xs) ∧ RepL K H α us xs
  | .ro us => ∃ xs, RO K H a xs ∧ RepL K H α us xs
  | .dic kvs => ∃ vs, H a = some (.dK vs) ∧ kvs.map (·.1) = vs.map (·.1) ∧ RepL K H α (kvs.map (·.2)) (vs.map (·.2))
  | .rod kvs => ∃ o vs, H a = some (.frz o (.dK vs)) ∧ kvs.map (·.1) = vs.map (·.1) ∧ RepL K H α (kvs.map (·.2)) (vs.map (·.2))
  | .ins C fs => ∃ Ca dx vs, PySem.W.nsIn K mainGlobals C = some (some (.ref Ca)) ∧ H a = some (.ins Ca dx vs) ∧ fs.map (·.1) = vs.map (·.1) ∧ RepL K H α (fs.map (·.2)) (vs.map (·.2))
def HU.isRo : HU → Bool
  | .ro _ => true
  | _ => false
structure Abs (K : PySem.W.Frag) (H : Hp) (α : List Addr) (L : UH) : Prop where
  len : α.length = L.length
  inj : ∀ (i j : Nat) (a : Addr) (o o' : HU), α[i]? = some a → α[j]? = some a → L[i]? = some o → L[j]? = some o' → i = j ∨ o.isRo = true ∨ o'.isRo = true
  rep : ∀ (i : Nat) (a : Addr) (o : HU), α[i]? = some a → L[i]? = some o → HRep K H α a o
theorem Abs.addr {K : PySem.W.Frag} {H : Hp} {α : List Addr} {L : UH} (A : Abs K H α L) {n : Nat} {o : HU} (h : L[n]? = some o) : ∃ a, α[n]? = some a ∧ HRep K H α a o := by
  have hn : n < α.length := by rw [A.len]; exact (List.getElem?_eq_some_iff.mp h).1
  exact ⟨α[n], List.getElem?_eq_getElem hn, A.rep n _ o (List.getElem?_eq_getElem hn) h⟩
/-- a thing that is not touched -/
theorem HRep.other {K : PySem.W.Frag} {H H' : Hp} {α α' : List Addr} {a : Addr} {o : HU} (g : Gr H α H' α') (hs : o.isRo = true ∨ ∀ u, H a = some u → H' a = some u) (h : HRep K H α a o) : HRep K H' α' a o := by
  cases o with
  | lst us => obtain ⟨xs, e, r⟩ := h; exact ⟨xs, (hs.resolve_left (by simp [HU.isRo])) _ e, r.mono g⟩
  | ro us => obtain ⟨xs, e, r⟩ := h; exact ⟨xs, e.stay g.st, r.mono g⟩
  | dic kvs => obtain ⟨vs, e, k, r⟩ := h; exact ⟨vs, (hs.resolve_left (by simp [HU.isRo])) _ e, k, r.mono g⟩
  | rod kvs => obtain ⟨o, vs, e, k, r⟩ := h; exact ⟨o, vs, (hs.resolve_left (by simp [HU.isRo])) _ e, k, r.mono g⟩
  | ins C fs => obtain ⟨Ca, dx, vs, n, e, k, r⟩ := h; exact ⟨Ca, dx, vs, n, (hs.resolve_left (by simp [HU.isRo])) _ e, k, r.mono g⟩
theorem HRep.some {K : PySem.W.Frag} {H : Hp} {α : List Addr} {a : Addr} {o : HU} (h : HRep K H α a o) (n : o.isRo = false) : ∃ u, H a = some u := by
  cases o with
  | lst us => obtain ⟨xs, e, r⟩ := h; exact ⟨_, e⟩
  | ro us => simp [HU.isRo] at n
  | dic kvs => obtain ⟨vs, e, k, r⟩ := h; exact ⟨_, e⟩
  | rod kvs => obtain ⟨o, vs, e, k, r⟩ := h; exact ⟨_, e⟩
  | ins C fs => obtain ⟨Ca, dx, vs, n', e, k, r⟩ := h; exact ⟨_, e⟩
/-- a new thing: its number is the next one -/
theorem Abs.new {K : PySem.W.Frag} {H : Hp} {α : List Addr} {L : UH} {p : Addr} {o : HO} {u : HU} (A : Abs K H α L) (hp : H p = none) (hr : HRep K (upd H p o) (α ++ [p]) p u) :
    Abs K (upd H p o) (α ++ [p]) (L ++ [u]) ∧ Gr H α (upd H p o) (α ++ [p]) := by
  have g : Gr H α (upd H p o) (α ++ [p]) := ⟨⟨[p], rfl⟩, .new hp o⟩
  have hl := A.len
  refine ⟨⟨by simp [hl], fun i j a o1 o2 e1 e2 e3 e4 => ?_, fun i a o1 e1 e2 => ?_⟩, g⟩
  · have fresh : ∀ (k : Nat) (o3 : HU), α[k]? = some p → L[k]? = some o3 → o3.isRo = true := fun k o3 q1 q2 => by
      cases hh : o3.isRo with
      | true => rfl
      | false =>
        obtain ⟨u3, q⟩ := (A.rep k p o3 q1 q2).some hh
        rw [hp] at q; cases q
    by_cases hi : i < α.length
    · rw [List.getElem?_append_left hi] at e1
      rw [List.getElem?_append_left (by omega)] at e3
      by_cases hj : j < α.length
      · rw [List.getElem?_append_left hj] at e2
        rw [List.getElem?_append_left (by omega)] at e4
        exact A.inj i j a o1 o2 e1 e2 e3 e4
      · rw [List.getElem?_append_right (by omega)] at e2
        have : a = p := by
          cases hk : j - α.length with
          | zero => rw [hk] at e2; simp at e2; exact e2.symm
          | succ k => rw [hk] at e2; simp at e2
        subst this
        exact .inr (.inl (fresh i o1 e1 e3))
    · rw [List.getElem?_append_right (by omega)] at e1
      have hia : a = p ∧ i = α.length := by
        cases hk : i - α.length with
        | zero => rw [hk] at e1; simp at e1; exact ⟨e1.symm, by omega⟩
        | succ k => rw [hk] at e1; simp at e1
      obtain ⟨rfl, hi'⟩ := hia
      by_cases hj : j < α.length
      · rw [List.getElem?_append_left hj] at e2
        rw [List.getElem?_append_left (by omega)] at e4
        exact .inr (.inr (fresh j o2 e2 e4))
      · rw [List.getElem?_append_right (by omega)] at e2
        have : j = α.length := by
          cases hk : j - α.length with
          | zero => omega
          | succ k => rw [hk] at e2; simp at e2
        exact .inl (by omega)
  · by_cases hi : i < α.length
    · rw [List.getElem?_append_left hi] at e1
      rw [List.getElem?_append_left (by omega)] at e2
      refine (A.rep i a o1 e1 e2).other g ?_
      exact .inr fun u3 q => by rw [upd_ne (ne_of_none q hp)]; exact q
    · rw [List.getElem?_append_right (by omega)] at e1
      rw [List.getElem?_append_right (by omega)] at e2
      have h1 : i - α.length = 0 := by
        cases hk : i - α.length with
        | zero => rfl
        | succ k => rw [hk] at e1; simp at e1
      rw [h1] at e1
      rw [show i - L.length = 0 by omega] at e2
      simp at e1 e2
      subst e1; subst e2
      exact hr
/-- a thing is written -/
theorem Abs.put {K : PySem.W.Frag} {H : Hp} {α : List Addr} {L : UH} {p : Addr} {n : Nat} {o0 o : HO} {u0 u : HU} (A : Abs K H α L) (hn : α[n]? = some p) (hL : L[n]? = some u0) (hro : u0.isRo = false) (hro' : u.isRo = false) (hp : H p = some o0) (hm : Mut (some o0)) (hr : HRep K (upd H p o) α p u) :
    Abs K (upd H p o) α (L.set n u) ∧ Gr H α (upd H p o) α := by
  have g : Gr H α (upd H p o) α := ⟨⟨[], by simp⟩, .write hp hm o⟩
  have hl := A.len
  have hlt : n < L.length := (List.getElem?_eq_some_iff.mp hL).1
  have look : ∀ (i : Nat) (o1 : HU), (L.set n u)[i]? = some o1 → ∃ o2, L[i]? = some o2 ∧ o2.isRo = o1.isRo ∧ (i ≠ n → o2 = o1) := fun i o1 e => by
    by_cases hi : n = i
    · subst hi
      rw [List.getElem?_set_self hlt] at e
      cases e
      exact ⟨u0, hL, by rw [hro, hro'], fun z => absurd rfl z⟩
    · rw [List.getElem?_set_ne hi] at e
      exact ⟨o1, e, rfl, fun _ => rfl⟩
  refine ⟨⟨by simp [hl], fun i j a o1 o2 e1 e2 e3 e4 => ?_, fun i a o1 e1 e2 => ?_⟩, g⟩
  · obtain ⟨x1, q1, r1, _⟩ := look i o1 e3
    obtain ⟨x2, q2, r2, _⟩ := look j o2 e4
    rw [← r1, ← r2]
    exact A.inj i j a x1 x2 e1 e2 q1 q2
  · by_cases hi : n = i
    · subst hi
      rw [List.getElem?_set_self hlt] at e2
      cases e2
      rw [hn] at e1; cases e1
      exact hr
    · rw [List.getElem?_set_ne hi] at e2
      refine (A.rep i a o1 e1 e2).other g ?_
      by_cases hap : a = p
      · subst hap
        rcases A.inj i n a o1 u0 e1 hn e2 hL with z | z | z
        · exact absurd z.symm hi
        · exact .inl z
        · rw [hro] at z; cases z
      · exact .inr fun u3 q => by rw [upd_ne hap]; exact q

structure RepS (K : PySem.W.Frag) (H : Hp) (α : List Addr) (δ : UE) (σ : L2.St) : Prop where
  len : δ.length = σ.length
  at_ : ∀ (i : Nat) (u : U), δ[i]? = some (some u) → ∃ v, σ[i]? = some (some v) ∧ RepU K H α u v
theorem RepS.mono {K : PySem.W.Frag} {H H' : Hp} {α α' : List Addr} {δ : UE} {σ : L2.St} (g : Gr H α H' α') (h : RepS K H α δ σ) : RepS K H' α' δ σ :=
  ⟨h.len, fun i u e => let ⟨v, q, r⟩ := h.at_ i u e; ⟨v, q, r.mono g⟩⟩
theorem RepS.set {K : PySem.W.Frag} {H : Hp} {α : List Addr} {δ : UE} {σ : L2.St} (h : RepS K H α δ σ) (i : Nat) {u : U} {v : V} (r : RepU K H α u v) : RepS K H α (δ.set i (some u)) (σ.set i (some v)) :=
  ⟨by simp [h.len], fun j w e => by
    by_cases hj : i = j
    · subst hj
      by_cases hi : i < δ.length
      · rw [List.getElem?_set_self hi] at e
        cases e
        exact ⟨v, List.getElem?_set_self (by rw [← h.len]; exact hi), r⟩
      · rw [List.getElem?_eq_none (by simpa using hi)] at e; cases e
    · rw [List.getElem?_set_ne hj] at e
      obtain ⟨v', q, r'⟩ := h.at_ j w e
      exact ⟨v', by rw [List.getElem?_set_ne hj]; exact q, r'⟩⟩
theorem RepS.start {K : PySem.W.Frag} {H : Hp} {α : List Addr} (N : List Str) {us : List U} {vs : List V} (h : RepL K H α us vs) : RepS K H α (us.map some ++ List.replicate (N.length - us.length) none) (start N vs) := by
  have hl := h.length
  refine ⟨by simp [L2.start, hl], fun i u e => ?_⟩
  by_cases hi : i < us.length
  · rw [List.getElem?_append_left (by simpa using hi), List.getElem?_map] at e
    cases q : us[i]? with
    | none => rw [q] at e; simp at e
    | some w =>
      rw [q] at e
      simp at e
      subst e
      obtain ⟨x, e2, r⟩ := h.get q
      refine ⟨x, ?_, r⟩
      unfold L2.start
      rw [List.getElem?_append_left (by simp; omega), List.getElem?_map, e2]; rfl
  · rw [List.getElem?_append_right (by simpa using hi)] at e
    have := List.mem_of_getElem? e
    simp at this

abbrev FE := UE → UH → Option (U × UH)
abbrev FT := UE → UH → Option (Bool × UH)
abbrev FA := UE → UH → Option (List U × UH)
def lE (K : PySem.W.Frag) (f : FE) : TE := fun σ H Q => ∃ α δ L, Abs K H α L ∧ RepS K H α δ σ ∧ ∃ u L', f δ L = some (u, L') ∧ ∀ v H' α', Gr H α H' α' → Abs K H' α' L' → RepU K H' α' u v → Q v H'
def lT (K : PySem.W.Frag) (f : FT) : TT := fun σ H Q => ∃ α δ L, Abs K H α L ∧ RepS K H α δ σ ∧ ∃ b L', f δ L = some (b, L') ∧ ∀ H' α', Gr H α H' α' → Abs K H' α' L' → Q b H'
def lA (K : PySem.W.Frag) (f : FA) : TA := fun σ H Q => ∃ α δ L, Abs K H α L ∧ RepS K H α δ σ ∧ ∃ us L', f δ L = some (us, L') ∧ ∀ vs H' α', Gr H α H' α' → Abs K H' α' L' → RepL K H' α' us vs → Q vs H'
def PEF (X : Cx) (e : Expr) (f : FE) : Prop := PE X e (lE X.K f)
def PTF (X : Cx) (e : Expr) (f : FT) : Prop := PT X e (lT X.K f)
def PWF (X : Cx) (e : Expr) (f : FT) : Prop := PW X e (lT X.K f)
def PAF (X : Cx) (es : List Expr) (f : FA) : Prop := PA X es (lA X.K f)
section
variable {X : Cx} {e : Expr} {es : List Expr}
theorem PE.imp {t t' : TE} (h : PE X e t) (hi : ∀ σ H Q, t' σ H Q → t σ H Q) : PE X e t' := fun pins s σ H Q I q => h pins s σ H Q I (hi σ H Q q)
theorem PT.imp {t t' : TT} (h : PT X e t) (hi : ∀ σ H Q, t' σ H Q → t σ H Q) : PT X e t' := fun pins s σ H Q I q => h pins s σ H Q I (hi σ H Q q)
theorem PW.imp {t t' : TT} (h : PW X e t) (hi : ∀ σ H Q, t' σ H Q → t σ H Q) : PW X e t' := fun wh pins s σ H Q I q => h wh pins s σ H Q I (hi σ H Q q)
theorem PA.imp {t t' : TA} (h : PA X es t) (hi : ∀ σ H Q, t' σ H Q → t σ H Q) : PA X es t' := fun pos pins s σ H Q I q => h pos pins s σ H Q I (hi σ H Q q)
end

def fVar (i : Nat) : FE := fun δ L => (δ[i]?).join.map fun u => (u, L)
def fC (u : U) : FE := fun _ L => some (u, L)
section
variable {X : Cx} {a b c e : Expr} {pos : Pos}
theorem pf_v (i : Nat) {x : Str} {pos : Pos} (hN : X.N[i]? = some x := by rfl) (hv : Vis X.env.scope x := by first | exact Or.inl rfl | exact Or.inr (Or.inl rfl) | exact Or.inr (Or.inr rfl))
    (hd : (x == ("__debug__" : Str)) = false := by decide) (hcd : (x == ("__classdict__" : Str)) = false := by decide) : PEF X (.Name x pos) (fVar i) := by
  refine PE.imp (pe_var hN hv hd hcd) ?_
  rintro σ H Q ⟨α, δ, L, A, S, u, L', e, q⟩
  unfold fVar at e
  cases h : δ[i]? with
  | none => rw [h] at e; simp at e
  | some o =>
    cases o with
    | none => rw [h] at e; simp at e
    | some w =>
      rw [h] at e
      simp at e
      obtain ⟨rfl, rfl⟩ := e
      obtain ⟨v, hv, r⟩ := S.at_ i w h
      exact ⟨v, hv, q v H α (.refl _ _) A r⟩
theorem pf_c {v : V} {u : U} (h : PE X e (tC v)) (r : ∀ H α, RepU X.K H α u v) : PEF X e (fC u) := by
  refine PE.imp h ?_
  rintro σ H Q ⟨α, δ, L, A, S, w, L', e, q⟩
  unfold fC at e
  cases e
  exact q v H α (.refl _ _) A (r H α)
theorem pf_int {i : Int} {j pos} : PEF X (.Constant (.int i) j pos) (fC (.int i)) := pf_c pe_int fun _ _ => rfl
theorem pf_bl {b : Bool} {j pos} : PEF X (.Constant (.bool b) j pos) (fC (.bl b)) := pf_c pe_bl fun _ _ => rfl
theorem pf_non {j pos} : PEF X (.Constant .none j pos) (fC .non) := pf_c pe_non fun _ _ => rfl
theorem pf_str {x : Str} {j pos} : PEF X (.Constant (.str x) j pos) (fC (.str x)) := pf_c pe_str fun _ _ => rfl

abbrev S2 := U → U → UH → Option (U × UH)
def SemR2 (K : PySem.W.Frag) (r : R2) (sem : S2) : Prop := ∀ (H : Hp) (α : List Addr) (L : UH) (u w : U) (x y : V) (z : U) (L' : UH) (Q : VK), Abs K H α L → RepU K H α u x → RepU K H α w y → sem u w L = some (z, L') →
  (∀ v H' α', Gr H α H' α' → Abs K H' α' L' → RepU K H' α' z v → Q v H') → r x y H Q
def f2 (sem : S2) (fa fb : FE) : FE := fun δ L => (fa δ L).bind fun p => (fb δ p.2).bind fun q => sem p.1 q.1 q.2
theorem lE_op {K : PySem.W.Frag} {r : R2} {sem : S2} {fa fb : FE} (h : SemR2 K r sem) : ∀ σ H Q, lE K (f2 sem fa fb) σ H Q → tOp r (lE K fa) (lE K fb) σ H Q := by
  rintro σ H Q ⟨α, δ, L, A, S, z, L3, e, q⟩
  obtain ⟨⟨u, L1⟩, e1, e⟩ := Option.bind_eq_some_iff.mp e
  obtain ⟨⟨w, L2⟩, e2, e3⟩ := Option.bind_eq_some_iff.mp e
  refine ⟨α, δ, L, A, S, u, L1, e1, fun x H1 α1 g1 A1 r1 => ⟨α1, δ, L1, A1, S.mono g1, w, L2, e2, fun y H2 α2 g2 A2 r2 => ?_⟩⟩
  exact h H2 α2 L2 u w x y z L3 Q A2 (r1.mono g2) r2 e3 fun v H3 α3 g3 A3 r3 => q v H3 α3 (g1.trans (g2.trans g3)) A3 r3
theorem pf_op {op : Operator} {r : R2} {sem : S2} {fa fb : FE} (ho : OpR X (binaryOp op) r) (h : SemR2 X.K r sem) (ha : PEF X a fa) (hb : PEF X b fb) : PEF X (.BinOp a op b pos) (f2 sem fa fb) := PE.imp (pe_op ho ha hb) (lE_op h)
theorem pf_cmp {op : CmpOp} {r : R2} {sem : S2} {fa fb : FE} (ho : OpR X (compareOp op) r) (h : SemR2 X.K r sem) (ha : PEF X a fa) (hb : PEF X b fb) (hm : behindInMarks op b = false) : PEF X (.Compare a [op] [b] pos) (f2 sem fa fb) := PE.imp (pe_cmpR ho ha hb hm) (lE_op h)
def fTest (f : FE) : FT := fun δ L => (f δ L).bind fun p => match p.1 with | .bl k => some (k, p.2) | _ => none
theorem lT_test {K : PySem.W.Frag} {t : TE} {f : FE} (ht : ∀ σ H Q, lE K f σ H Q → t σ H Q) : ∀ σ H Q, lT K (fTest f) σ H Q → tTest t σ H Q := by
  rintro σ H Q ⟨α, δ, L, A, S, b, L1, e, q⟩
  obtain ⟨⟨u, L2⟩, e1, e⟩ := Option.bind_eq_some_iff.mp e
  refine ht σ H _ ⟨α, δ, L, A, S, u, L2, e1, fun x H1 α1 g1 A1 r1 => ?_⟩
  cases u with
  | bl k => simp at e; obtain ⟨rfl, rfl⟩ := e; exact ⟨k, r1, q H1 α1 g1 A1⟩
  | _ => simp at e
theorem ptf_cmp {op : CmpOp} {r : R2} {sem : S2} {fa fb : FE} (ho : OpR X (compareOp op) r) (h : SemR2 X.K r sem) (ha : PEF X a fa) (hb : PEF X b fb) (hm : behindInMarks op b = false) : PTF X (.Compare a [op] [b] pos) (fTest (f2 sem fa fb)) := PT.imp (pt_cmpR ho ha hb hm) (lT_test (lE_op h))
end
end MR

set_option Elab.async false
set_option linter.all false
set_option maxRecDepth 100000
set_option maxHeartbeats 1000000
namespace MR
open PySem PySem.Spec PyProof.Rows L2
section
variable {X : Cx} {a b c e : Expr} {pos : Pos} {rest : List Expr}
def fAnd (f g : FT) : FT := fun δ L => (f δ L).bind fun p => if p.1 = true then g δ p.2 else some (false, p.2)
def fOr (f g : FT) : FT := fun δ L => (f δ L).bind fun p => if p.1 = true then some (true, p.2) else g δ p.2
def fNot (f : FT) : FT := fun δ L => (f δ L).map fun p => (!p.1, p.2)
def fAndV (f g : FE) : FE := fun δ L => (f δ L).bind fun p => match p.1 with | .bl k => if k = true then g δ p.2 else some (.bl false, p.2) | _ => none
def fOrV (f g : FE) : FE := fun δ L => (f δ L).bind fun p => match p.1 with | .bl k => if k = true then some (.bl true, p.2) else g δ p.2 | _ => none
def fNotV (f : FE) : FE := fun δ L => (f δ L).bind fun p => match p.1 with | .bl k => some (.bl (!k), p.2) | _ => none
def fIf (c : FT) (f g : FE) : FE := fun δ L => (c δ L).bind fun p => if p.1 = true then f δ p.2 else g δ p.2
theorem pwf_and1 {f : FT} (ha : PTF X a f) : PWF X (.BoolOp .And [a] pos) f := pw_and1 ha
theorem pwf_or1 {f : FT} (ha : PTF X a f) : PWF X (.BoolOp .Or [a] pos) f := pw_or1 ha
theorem pwf_and {f g : FT} (ha : PTF X a f) (hb : PWF X (.BoolOp .And (b :: rest) pos) g) : PWF X (.BoolOp .And (a :: b :: rest) pos) (fAnd f g) := by
  refine PW.imp (pw_and ha hb) ?_
  rintro σ H Q ⟨α, δ, L, A, S, z, L3, e, q⟩
  obtain ⟨⟨u, L1⟩, e1, e⟩ := Option.bind_eq_some_iff.mp e
  refine ⟨α, δ, L, A, S, u, L1, e1, fun H1 α1 g1 A1 => ?_⟩
  cases u with
  | true => exact iteT ⟨α1, δ, L1, A1, S.mono g1, z, L3, e, fun H2 α2 g2 A2 => q H2 α2 (g1.trans g2) A2⟩
  | false => cases e; exact iteF (q H1 α1 g1 A1)
theorem pwf_or {f g : FT} (ha : PTF X a f) (hb : PWF X (.BoolOp .Or (b :: rest) pos) g) : PWF X (.BoolOp .Or (a :: b :: rest) pos) (fOr f g) := by
  refine PW.imp (pw_or ha hb) ?_
  rintro σ H Q ⟨α, δ, L, A, S, z, L3, e, q⟩
  obtain ⟨⟨u, L1⟩, e1, e⟩ := Option.bind_eq_some_iff.mp e
  refine ⟨α, δ, L, A, S, u, L1, e1, fun H1 α1 g1 A1 => ?_⟩
  cases u with
  | false => exact iteF ⟨α1, δ, L1, A1, S.mono g1, z, L3, e, fun H2 α2 g2 A2 => q H2 α2 (g1.trans g2) A2⟩
  | true => cases e; exact iteT (q H1 α1 g1 A1)
theorem PWF.pt {f : FT} (h : PWF X e f) : PTF X e f := PW.pt h
theorem ptf_not {f : FT} (ha : PTF X a f) : PTF X (.UnaryOp .Not a pos) (fNot f) := by
  refine PT.imp (pt_not ha) ?_
  rintro σ H Q ⟨α, δ, L, A, S, z, L3, e, q⟩
  obtain ⟨⟨u, L1⟩, e1, e⟩ := Option.map_eq_some_iff.mp e
  cases e
  exact ⟨α, δ, L, A, S, u, L1, e1, fun H1 α1 g1 A1 => q H1 α1 g1 A1⟩
theorem pf_one {op} {f : FE} (h : PEF X a f) : PEF X (.BoolOp op [a] pos) f := pe_one h
theorem pf_and {f g : FE} (ha : PEF X a f) (hb : PEF X (.BoolOp .And (b :: rest) pos) g) : PEF X (.BoolOp .And (a :: b :: rest) pos) (fAndV f g) := by
  refine PE.imp (pe_and ha hb) ?_
  rintro σ H Q ⟨α, δ, L, A, S, z, L3, e, q⟩
  obtain ⟨⟨u, L1⟩, e1, e⟩ := Option.bind_eq_some_iff.mp e
  refine ⟨α, δ, L, A, S, u, L1, e1, fun v H1 α1 g1 A1 r1 => ?_⟩
  cases u with
  | bl k =>
    cases k with
    | true => exact ⟨true, r1, iteT ⟨α1, δ, L1, A1, S.mono g1, z, L3, e, fun v H2 α2 g2 A2 r => q v H2 α2 (g1.trans g2) A2 r⟩⟩
    | false => cases e; exact ⟨false, r1, iteF (q _ H1 α1 g1 A1 rfl)⟩
  | _ => simp at e
theorem pf_or {f g : FE} (ha : PEF X a f) (hb : PEF X (.BoolOp .Or (b :: rest) pos) g) : PEF X (.BoolOp .Or (a :: b :: rest) pos) (fOrV f g) := by
  refine PE.imp (pe_or ha hb) ?_
  rintro σ H Q ⟨α, δ, L, A, S, z, L3, e, q⟩
  obtain ⟨⟨u, L1⟩, e1, e⟩ := Option.bind_eq_some_iff.mp e
  refine ⟨α, δ, L, A, S, u, L1, e1, fun v H1 α1 g1 A1 r1 => ?_⟩
  cases u with
  | bl k =>
    cases k with
    | false => exact ⟨false, r1, iteF ⟨α1, δ, L1, A1, S.mono g1, z, L3, e, fun v H2 α2 g2 A2 r => q v H2 α2 (g1.trans g2) A2 r⟩⟩
    | true => cases e; exact ⟨true, r1, iteT (q _ H1 α1 g1 A1 rfl)⟩
  | _ => simp at e
theorem pf_if {c : Expr} {t : FT} {f g : FE} (hc : PTF X c t) (ha : PEF X a f) (hb : PEF X b g) : PEF X (.IfExp c a b pos) (fIf t f g) := by
  refine PE.imp (pe_ifExp hc ha hb) ?_
  rintro σ H Q ⟨α, δ, L, A, S, z, L3, e, q⟩
  obtain ⟨⟨u, L1⟩, e1, e⟩ := Option.bind_eq_some_iff.mp e
  refine ⟨α, δ, L, A, S, u, L1, e1, fun H1 α1 g1 A1 => ?_⟩
  cases u with
  | true => exact iteT ⟨α1, δ, L1, A1, S.mono g1, z, L3, e, fun v H2 α2 g2 A2 r => q v H2 α2 (g1.trans g2) A2 r⟩
  | false => exact iteF ⟨α1, δ, L1, A1, S.mono g1, z, L3, e, fun v H2 α2 g2 A2 r => q v H2 α2 (g1.trans g2) A2 r⟩
def fNil : FA := fun _ L => some ([], L)
def fCons (f : FE) (g : FA) : FA := fun δ L => (f δ L).bind fun p => (g δ p.2).map fun q => (p.1 :: q.1, q.2)
theorem paf_nil : PAF X [] fNil := by
  refine PA.imp pa_nil ?_
  rintro σ H Q ⟨α, δ, L, A, S, z, L3, e, q⟩
  cases e
  exact q [] H α (.refl _ _) A .nil
theorem paf_cons {es : List Expr} {f : FE} {g : FA} (ha : PEF X e f) (hr : PAF X es g) (hs : starEach (e :: es) X.env = (false, eval e X.env) :: starEach es X.env := by rfl) : PAF X (e :: es) (fCons f g) := by
  refine PA.imp (pa_cons ha hr hs) ?_
  rintro σ H Q ⟨α, δ, L, A, S, z, L3, e, q⟩
  obtain ⟨⟨u, L1⟩, e1, e⟩ := Option.bind_eq_some_iff.mp e
  obtain ⟨⟨us, L2⟩, e2, e⟩ := Option.map_eq_some_iff.mp e
  cases e
  exact ⟨α, δ, L, A, S, u, L1, e1, fun x H1 α1 g1 A1 r1 => ⟨α1, δ, L1, A1, S.mono g1, us, L2, e2, fun xs H2 α2 g2 A2 r2 => q (x :: xs) H2 α2 (g1.trans g2) A2 (.cons (r1.mono g2) r2)⟩⟩
def small (n : Nat) : Bool := decide (n ≤ sizeLine)
def fTup (g : FA) : FE := fun δ L => (g δ L).bind fun p => if small p.1.length = true then some (.tup p.1, p.2) else none
def fLst (g : FA) : FE := fun δ L => (g δ L).bind fun p => if small p.1.length = true then some (.ref p.2.length, p.2 ++ [.lst p.1]) else none
theorem small_le {n : Nat} (h : small n = true) : n ≤ sizeLine := of_decide_eq_true h
theorem Abs.tup {K : PySem.W.Frag} {H : Hp} {α : List Addr} {L : UH} {p : Addr} {us : List U} {xs : List V} (A : Abs K H α L) (r : RepL K H α us xs) (hp : H p = none) :
    Gr H α (upd H p (.tup xs)) α ∧ Abs K (upd H p (.tup xs)) α L ∧ RepU K (upd H p (.tup xs)) α (.tup us) (.ref p) := by
  have g : Gr H α (upd H p (.tup xs)) α := ⟨⟨[], by simp⟩, .new hp _⟩
  refine ⟨g, ⟨A.len, A.inj, fun i a o e1 e2 => (A.rep i a o e1 e2).other g (.inr fun u q => by rw [upd_ne (ne_of_none q hp)]; exact q)⟩, ?_⟩
  unfold RepU
  exact ⟨p, xs, rfl, .of upd_same, r.mono g⟩
theorem Abs.lst {K : PySem.W.Frag} {H : Hp} {α : List Addr} {L : UH} {p : Addr} {us : List U} {xs : List V} (A : Abs K H α L) (r : RepL K H α us xs) (hp : H p = none) :
    Gr H α (upd H p (.lst xs)) (α ++ [p]) ∧ Abs K (upd H p (.lst xs)) (α ++ [p]) (L ++ [.lst us]) ∧ RepU K (upd H p (.lst xs)) (α ++ [p]) (.ref L.length) (.ref p) := by
  have g : Gr H α (upd H p (.lst xs)) (α ++ [p]) := ⟨⟨[p], rfl⟩, .new hp _⟩
  obtain ⟨A', _⟩ := A.new (o := .lst xs) (u := .lst us) hp ⟨xs, upd_same, r.mono g⟩
  refine ⟨g, A', ?_⟩
  unfold RepU
  exact ⟨p, by rw [← A.len]; simp, rfl⟩
theorem pf_tup {es : List Expr} {g : FA} {x1} (h : PAF X es g) : PEF X (.Tuple es x1 pos) (fTup g) := by
  refine PE.imp (pe_tup h) ?_
  rintro σ H Q ⟨α, δ, L, A, S, z, L3, e, q⟩
  obtain ⟨⟨us, L1⟩, e1, e⟩ := Option.bind_eq_some_iff.mp e
  refine ⟨α, δ, L, A, S, us, L1, e1, fun xs H1 α1 g1 A1 r1 => ?_⟩
  simp only at e
  split at e
  · rename_i hs
    cases e
    refine ⟨by rw [← r1.length]; exact small_le hs, fun p hp => ?_⟩
    obtain ⟨g2, A2, r2⟩ := A1.tup r1 hp
    exact q _ _ α1 (g1.trans g2) A2 r2
  · cases e
theorem pf_lst {es : List Expr} {g : FA} (h : PAF X es g) : PEF X (.List es pos) (fLst g) := by
  refine PE.imp (pe_lst h) ?_
  rintro σ H Q ⟨α, δ, L, A, S, z, L3, e, q⟩
  obtain ⟨⟨us, L1⟩, e1, e⟩ := Option.bind_eq_some_iff.mp e
  refine ⟨α, δ, L, A, S, us, L1, e1, fun xs H1 α1 g1 A1 r1 => ?_⟩
  simp only at e
  split at e
  · rename_i hs
    cases e
    refine ⟨by rw [← r1.length]; exact small_le hs, fun p hp => ?_⟩
    obtain ⟨g2, A2, r2⟩ := A1.lst r1 hp
    exact q _ _ _ (g1.trans g2) A2 r2
  · cases e
abbrev SC := List U → UH → Option (U × UH)
def SemC (K : PySem.W.Frag) (r : List V → Hp → VK → Prop) (sem : SC) : Prop := ∀ (H : Hp) (α : List Addr) (L : UH) (us : List U) (xs : List V) (z : U) (L' : UH) (Q : VK), Abs K H α L → RepL K H α us xs → sem us L = some (z, L') →
  (∀ v H' α', Gr H α H' α' → Abs K H' α' L' → RepU K H' α' z v → Q v H') → r xs H Q
def fCall (sem : SC) (g : FA) : FE := fun δ L => (g δ L).bind fun p => sem p.1 p.2
theorem lE_cb {K : PySem.W.Frag} {r : List V → Hp → VK → Prop} {sem : SC} {g : FA} (h : SemC K r sem) : ∀ σ H Q, lE K (fCall sem g) σ H Q → tCB r (lA K g) σ H Q := by
  rintro σ H Q ⟨α, δ, L, A, S, z, L3, e, q⟩
  obtain ⟨⟨us, L1⟩, e1, e⟩ := Option.bind_eq_some_iff.mp e
  exact ⟨α, δ, L, A, S, us, L1, e1, fun xs H1 α1 g1 A1 r1 => h H1 α1 L1 us xs z L3 Q A1 r1 e fun v H2 α2 g2 A2 r2 => q v H2 α2 (g1.trans g2) A2 r2⟩
variable {x : Str} {p : Pos} {es : List Expr} {id T : String} {r : List V → Hp → VK → Prop} {sem : SC} {g : FA}
theorem pf_callB (hc : CallR X (.builtin id) r) (h : SemC X.K r sem) (hg : Gl X x) (hm : X.mg x = none) (hv : bootBuiltins x = some (.builtin id)) (ha : PAF X (e :: es) g) (hn : x ≠ "__name__" := by decide) (hdb : (x == ("__debug__" : Str)) = false := by decide)
    (he : starEach (e :: es) X.env = (false, eval e X.env) :: starEach es X.env := by rfl) (hpl : (backTo pos (starEach es X.env)).any (·.1) = false := by rfl) :
    PEF X (.Call (.Name x p) (e :: es) [] pos) (fCall sem g) := PE.imp (pe_callB hc hg hm hv ha hn hdb he hpl) (lE_cb h)
theorem pf_callTy (hc : CallR X (.type T) r) (h : SemC X.K r sem) (hg : Gl X x) (hm : X.mg x = none) (hv : bootBuiltins x = some (.type T)) (ha : PAF X (e :: es) g) (hn : x ≠ "__name__" := by decide) (hdb : (x == ("__debug__" : Str)) = false := by decide)
    (he : starEach (e :: es) X.env = (false, eval e X.env) :: starEach es X.env := by rfl) (hpl : (backTo pos (starEach es X.env)).any (·.1) = false := by rfl) :
    PEF X (.Call (.Name x p) (e :: es) [] pos) (fCall sem g) := PE.imp (pe_callTy hc hg hm hv ha hn hdb he hpl) (lE_cb h)
abbrev SM := U → List U → UH → Option (U × UH)
def SemM (K : PySem.W.Frag) (r : V → List V → Hp → VK → Prop) (sem : SM) : Prop := ∀ (H : Hp) (α : List Addr) (L : UH) (u : U) (us : List U) (x : V) (xs : List V) (z : U) (L' : UH) (Q : VK), Abs K H α L → RepU K H α u x → RepL K H α us xs → sem u us L = some (z, L') →
  (∀ v H' α', Gr H α H' α' → Abs K H' α' L' → RepU K H' α' z v → Q v H') → r x xs H Q
def tyU (T : String) (u : U) (L : UH) : Bool := match u with
  | .str _ => T == "str"
  | .int _ => T == "int"
  | .ref n => match L[n]? with
    | some (.lst _) => T == "list"
    | some (.ro _) => T == "list"
    | some (.dic _) => T == "dict"
    | _ => false
  | _ => false
theorem tyU_ok {K : PySem.W.Frag} {H : Hp} {α : List Addr} {L : UH} {u : U} {x : V} (A : Abs K H α L) (r : RepU K H α u x) (h : tyU T u L = true) : tyV K T x H := by
  cases u with
  | str y => unfold RepU at r; subst r; simpa [tyU, tyV] using h
  | int i => unfold RepU at r; subst r; simpa [tyU, tyV] using h
  | ref n =>
    unfold RepU at r
    obtain ⟨a, ea, rfl⟩ := r
    unfold tyU at h
    simp only at h
    cases q : L[n]? with
    | none => rw [q] at h; simp at h
    | some o =>
      have hr := A.rep n a o ea q
      rw [q] at h
      cases o with
      | lst us => simp at h; obtain ⟨xs, e, _⟩ := hr; exact .inl ⟨h, xs, .of e⟩
      | ro us => simp at h; obtain ⟨xs, e, _⟩ := hr; exact .inl ⟨h, xs, e.sq⟩
      | dic kvs => simp at h; obtain ⟨vs, e, _⟩ := hr; exact .inr (.inr (.inl ⟨h, .inl ⟨vs, e⟩⟩))
      | rod kvs => simp at h
      | ins C fs => simp at h
  | non => simp [tyU] at h
  | bl b => simp [tyU] at h
  | tup l => simp [tyU] at h
def fMeth (T : String) (sem : SM) (f : FE) (g : FA) : FE := fun δ L => (f δ L).bind fun p => if tyU T p.1 p.2 = true then (g δ p.2).bind fun q => sem p.1 q.1 q.2 else none
theorem lE_bm {K : PySem.W.Frag} {r : V → List V → Hp → VK → Prop} {sem : SM} {f : FE} {g : FA} (h : SemM K r sem) : ∀ σ H Q, lE K (fMeth T sem f g) σ H Q → tBM K T r (lE K f) (lA K g) σ H Q := by
  rintro σ H Q ⟨α, δ, L, A, S, z, L3, e, q⟩
  obtain ⟨⟨u, L1⟩, e1, e⟩ := Option.bind_eq_some_iff.mp e
  simp only at e
  split at e
  · rename_i ht
    obtain ⟨⟨us, L2⟩, e2, e⟩ := Option.bind_eq_some_iff.mp e
    refine ⟨α, δ, L, A, S, u, L1, e1, fun x H1 α1 g1 A1 r1 => ⟨tyU_ok A1 r1 ht, α1, δ, L1, A1, S.mono g1, us, L2, e2, fun xs H2 α2 g2 A2 r2 => ?_⟩⟩
    exact h H2 α2 L2 u us x xs z L3 Q A2 (r1.mono g2) r2 e fun v H3 α3 g3 A3 r3 => q v H3 α3 (g1.trans (g2.trans g3)) A3 r3
  · cases e
section
variable {o e : Expr} {es : List Expr} {f : FE} {g : FA} {name : Str} {apos cpos : Pos} {T id : String} {r : V → List V → Hp → VK → Prop} {sem : SM}
theorem pf_bm (pa : PlainAttrs T) (slot : Slot T name id) (hty : typeOf (.builtin id) = pure (.type "method_descriptor")) (hm : MtR X id r) (h : SemM X.K r sem) (ho : PEF X o f) (ha : PAF X (e :: es) g)
    (hbase : attributeBase o name X.env (eval o X.env) = eval o X.env := by rfl)
    (hfew : ((backTo cpos (starEach (e :: es) X.env)).all (fun x => !x.1) && (backToKw cpos (keywordEach [] X.env)).all (fun x => x.1.isSome) && decide ((e :: es).length + ([] : List Keyword).length + (if ([] : List Keyword).isEmpty then 0 else 1) < 30)) = true := by rfl)
    (hline : (apos.endLine == cpos.line) = true := by rfl) (hst : starEach (e :: es) X.env = (false, eval e X.env) :: starEach es X.env := by rfl) (hpl : (backTo cpos (starEach es X.env)).any (·.1) = false := by rfl) :
    PEF X (.Call (.Attribute o name apos) (e :: es) [] cpos) (fMeth T sem f g) :=
  PE.imp (pe_bm pa slot hty hm ho ha hbase hfew hline hst hpl) (lE_bm h)
end
end
end MR

set_option Elab.async false
set_option linter.all false
set_option maxRecDepth 100000
set_option maxHeartbeats 1000000
namespace MR
open PySem PySem.Spec PyProof.Rows L2
abbrev FN := List U → UH → Option (U × UH)
def spF (K : PySem.W.Frag) (n : Nat) (f : FN) : Sp := fun vs H Q _ => ∃ α L us, Abs K H α L ∧ RepL K H α us vs ∧ us.length = n ∧ ∃ u L', f us L = some (u, L') ∧ ∀ v H' α', Gr H α H' α' → Abs K H' α' L' → RepU K H' α' u v → Q v H'
section
variable {X : Cx} {a b c e o : Expr} {es : List Expr} {pos p : Pos} {x : Str} {k : Nat} {f : Addr} {fd : FuncData} {ps : List Str} {F : FN} {g : FA} {fa fb fc : FE}
def fOwn (n : Nat) (F : FN) (g : FA) : FE := fun δ L => (g δ L).bind fun p => if p.1.length = n then F p.1 p.2 else none
theorem pf_call {n : Nat} (hF : FnOk X.prog X.w X.K X.mg X.base CX0 k f fd ps (spF X.K n F)) (hr : Room k X.A) (hg : Gl X x) (hm : X.mg x = some (.ref f)) (hk : PySem.W.keepIn X.K (.ref f) = true) (hb : Binds X.K fd ps [])
    (ha : PAF X (e :: es) g) (hdb : (x == ("__debug__" : Str)) = false := by decide) (he : starEach (e :: es) X.env = (false, eval e X.env) :: starEach es X.env := by rfl) (hpl : (backTo pos (starEach es X.env)).any (·.1) = false := by rfl) :
    PEF X (.Call (.Name x p) (e :: es) [] pos) (fOwn n F g) := by
  refine PE.imp (pe_call hF hr hg hm hk hb .nil pass0 ha hdb he hpl) ?_
  rintro σ H Q ⟨α, δ, L, A, S, z, L3, e, q⟩
  obtain ⟨⟨us, L1⟩, e1, e⟩ := Option.bind_eq_some_iff.mp e
  simp only at e
  split at e
  · rename_i hl
    refine ⟨α, δ, L, A, S, us, L1, e1, fun xs H1 α1 g1 A1 r1 => ?_⟩
    exact ⟨α1, L1, us, A1, by rw [List.append_nil]; exact r1, hl, z, L3, e, fun v H2 α2 g2 A2 r2 => q v H2 α2 (g1.trans g2) A2 r2⟩
  · cases e
theorem pf_ix {r : R2} {sem : S2} (hr : IxR X r) (h : SemR2 X.K r sem) (ha : PEF X a fa) (hb : PEF X b fb) (hs : PlainIx b) : PEF X (.Subscript a b pos) (f2 sem fa fb) := PE.imp (pe_ix hr ha hb hs) (lE_op h)
abbrev FO := UE → UH → Option (Option Int × UH)
def lO (K : PySem.W.Frag) (f : FO) : TO := fun σ H Q => ∃ α δ L, Abs K H α L ∧ RepS K H α δ σ ∧ ∃ i L', f δ L = some (i, L') ∧ ∀ H' α', Gr H α H' α' → Abs K H' α' L' → Q i H'
def POF (X : Cx) (e : Option Expr) (f : FO) : Prop := PO X e (lO X.K f)
def fNoPart : FO := fun _ L => some (none, L)
def fPart (f : FE) : FO := fun δ L => (f δ L).bind fun p => match p.1 with | .int i => some (some i, p.2) | _ => none
theorem PO.imp {e : Option Expr} {t t' : TO} (h : PO X e t) (hi : ∀ σ H Q, t' σ H Q → t σ H Q) : PO X e t' := fun pins s σ H Q I q => h pins s σ H Q I (hi σ H Q q)
theorem pof_none : POF X none fNoPart := by
  refine PO.imp po_none ?_
  rintro σ H Q ⟨α, δ, L, A, S, z, L3, e, q⟩
  cases e
  exact q H α (.refl _ _) A
theorem pof_some (h : PEF X e fa) : POF X (some e) (fPart fa) := by
  refine PO.imp (po_some h) ?_
  rintro σ H Q ⟨α, δ, L, A, S, z, L3, e, q⟩
  obtain ⟨⟨u, L1⟩, e1, e⟩ := Option.bind_eq_some_iff.mp e
  refine ⟨α, δ, L, A, S, u, L1, e1, fun x H1 α1 g1 A1 r1 => ?_⟩
  cases u with
  | int i => cases e; exact ⟨i, r1, q H1 α1 g1 A1⟩
  | _ => simp at e
abbrev SS := U → Option Int → Option Int → UH → Option (U × UH)
def SemSl (K : PySem.W.Frag) (r : V → Option Int → Option Int → Hp → VK → Prop) (sem : SS) : Prop := ∀ (H : Hp) (α : List Addr) (L : UH) (u : U) (x : V) (lo hi : Option Int) (z : U) (L' : UH) (Q : VK), Abs K H α L → RepU K H α u x → sem u lo hi L = some (z, L') →
  (∀ v H' α', Gr H α H' α' → Abs K H' α' L' → RepU K H' α' z v → Q v H') → r x lo hi H Q
def fSl (sem : SS) (f : FE) (l h : FO) : FE := fun δ L => (f δ L).bind fun p => (l δ p.2).bind fun q => (h δ q.2).bind fun r => sem p.1 q.1 r.1 r.2
theorem pf_slice {r : V → Option Int → Option Int → Hp → VK → Prop} {sem : SS} {lo hi : Option Expr} {fl fh : FO} {p2 : Pos} (hr : SlR X r) (h : SemSl X.K r sem) (he : PEF X e fa) (hl : POF X lo fl) (hu : POF X hi fh) : PEF X (.Subscript e (.Slice lo hi none p2) pos) (fSl sem fa fl fh) := by
  refine PE.imp (pe_slice hr he hl hu) ?_
  rintro σ H Q ⟨α, δ, L, A, S, z, L3, e, q⟩
  obtain ⟨⟨u, L1⟩, e1, e⟩ := Option.bind_eq_some_iff.mp e
  obtain ⟨⟨i, L2⟩, e2, e⟩ := Option.bind_eq_some_iff.mp e
  obtain ⟨⟨j, L4⟩, e3, e⟩ := Option.bind_eq_some_iff.mp e
  refine ⟨α, δ, L, A, S, u, L1, e1, fun x H1 α1 g1 A1 r1 => ⟨α1, δ, L1, A1, S.mono g1, i, L2, e2, fun H2 α2 g2 A2 => ⟨α2, δ, L2, A2, (S.mono g1).mono g2, j, L4, e3, fun H3 α3 g3 A3 => ?_⟩⟩⟩
  exact h H3 α3 L4 u x i j z L3 Q A3 ((r1.mono g2).mono g3) e fun v H4 α4 g4 A4 r4 => q v H4 α4 (g1.trans (g2.trans (g3.trans g4))) A4 r4
def fNeg (f : FE) : FE := fun δ L => (f δ L).bind fun p => match p.1 with | .int i => some (.int (-i), p.2) | _ => none
theorem pf_neg (ha : PEF X a fa) : PEF X (.UnaryOp .USub a pos) (fNeg fa) := by
  refine PE.imp (pe_un un_neg ha) ?_
  rintro σ H Q ⟨α, δ, L, A, S, z, L3, e, q⟩
  obtain ⟨⟨u, L1⟩, e1, e⟩ := Option.bind_eq_some_iff.mp e
  refine ⟨α, δ, L, A, S, u, L1, e1, fun x H1 α1 g1 A1 r1 => ?_⟩
  cases u with
  | int i => cases e; exact ⟨i, r1, q _ H1 α1 g1 A1 rfl⟩
  | _ => simp at e
def fChain (s1 s2 : S2) (fa fb fc : FE) : FE := fun δ L => (fa δ L).bind fun p => (fb δ p.2).bind fun q => (s1 p.1 q.1 q.2).bind fun r => match r.1 with
  | .bl k => if k = true then (fc δ r.2).bind fun t => s2 q.1 t.1 t.2 else some (.bl false, r.2)
  | _ => none
theorem lE_chain {K : PySem.W.Frag} {r r' : R2} {s1 s2 : S2} (h1 : SemR2 K r s1) (h2 : SemR2 K r' s2) : ∀ σ H Q, lE K (fChain s1 s2 fa fb fc) σ H Q → tChain r r' (lE K fa) (lE K fb) (lE K fc) σ H Q := by
  rintro σ H Q ⟨α, δ, L, A, S, z, L3, e, q⟩
  obtain ⟨⟨u, L1⟩, e1, e⟩ := Option.bind_eq_some_iff.mp e
  obtain ⟨⟨w, L2⟩, e2, e⟩ := Option.bind_eq_some_iff.mp e
  obtain ⟨⟨t, L4⟩, e3, e⟩ := Option.bind_eq_some_iff.mp e
  refine ⟨α, δ, L, A, S, u, L1, e1, fun x H1 α1 g1 A1 r1 => ⟨α1, δ, L1, A1, S.mono g1, w, L2, e2, fun y H2 α2 g2 A2 r2 => ?_⟩⟩
  refine h1 H2 α2 L2 u w x y t L4 _ A2 (r1.mono g2) r2 e3 fun v H3 α3 g3 A3 r3 => ?_
  cases t with
  | bl k =>
    refine ⟨k, r3, ?_⟩
    cases k with
    | true =>
      obtain ⟨⟨s, L5⟩, e4, e⟩ := Option.bind_eq_some_iff.mp e
      refine iteT ⟨α3, δ, L4, A3, ((S.mono g1).mono g2).mono g3, s, L5, e4, fun y' H4 α4 g4 A4 r4 => ?_⟩
      exact h2 H4 α4 L5 w s y y' z L3 Q A4 ((r2.mono g3).mono g4) r4 e fun v H5 α5 g5 A5 r5 => q v H5 α5 (g1.trans (g2.trans (g3.trans (g4.trans g5)))) A5 r5
    | false => cases e; exact iteF (q _ H3 α3 (g1.trans (g2.trans g3)) A3 rfl)
  | _ => simp at e
theorem pf_chain {op op' : CmpOp} {r r' : R2} {s1 s2 : S2} (ho : OpR X (compareOp op) r) (ho' : OpR X (compareOp op') r') (h1 : SemR2 X.K r s1) (h2 : SemR2 X.K r' s2) (ha : PEF X a fa) (hb : PEF X b fb) (hc : PEF X c fc) (hm : lastMarks [op, op'] [b, c] = false := by with_unfolding_all rfl) :
    PEF X (.Compare a [op, op'] [b, c] pos) (fChain s1 s2 fa fb fc) := PE.imp (pe_chain ho ho' ha hb hc hm) (lE_chain h1 h2)
theorem ptf_chain {op op' : CmpOp} {r r' : R2} {s1 s2 : S2} (ho : OpR X (compareOp op) r) (ho' : OpR X (compareOp op') r') (h1 : SemR2 X.K r s1) (h2 : SemR2 X.K r' s2) (ha : PEF X a fa) (hb : PEF X b fb) (hc : PEF X c fc) (hm : lastMarks [op, op'] [b, c] = false := by with_unfolding_all rfl) :
    PTF X (.Compare a [op, op'] [b, c] pos) (fTest (fChain s1 s2 fa fb fc)) := PT.imp (pt_chain ho ho' ha hb hc hm) (lT_test (lE_chain h1 h2))
/-- any value's truth -/
def truU (u : U) (L : UH) : Option Bool := match u with
  | .non => some false
  | .bl b => some b
  | .int i => some (i != 0)
  | .str y => if small y.length = true then some ((y.length : Int) != 0) else none
  | .tup l => some (!l.isEmpty)
  | .ref n => match L[n]? with
    | some (.lst xs) => some (!xs.isEmpty)
    | some (.ro xs) => some (!xs.isEmpty)
    | some (.dic kvs) => some (!kvs.isEmpty)
    | _ => none
theorem isEmpty_len {α β : Type} {l : List α} {m : List β} (h : l.length = m.length) : l.isEmpty = m.isEmpty := by
  cases l <;> cases m <;> simp_all
theorem truU_ok {K : PySem.W.Frag} {H : Hp} {α : List Addr} {L : UH} {u : U} {x : V} {k : Bool} (A : Abs K H α L) (r : RepU K H α u x) (h : truU u L = some k) : TruV K x H k := by
  cases u with
  | non => unfold RepU at r; subst r; exact (Option.some.inj h).symm
  | bl b => unfold RepU at r; subst r; exact (Option.some.inj h).symm
  | int i => unfold RepU at r; subst r; exact (Option.some.inj h).symm
  | str y =>
    unfold RepU at r; subst r
    unfold truU at h
    simp only at h
    split at h
    · rename_i hs; cases h; exact ⟨small_le hs, rfl⟩
    · cases h
  | tup l =>
    unfold RepU at r
    obtain ⟨a, xs, rfl, s, r⟩ := r
    exact .inr (.inl ⟨xs, s, by rw [← isEmpty_len r.length]; exact (Option.some.inj h).symm⟩)
  | ref n =>
    unfold RepU at r
    obtain ⟨a, ea, rfl⟩ := r
    unfold truU at h
    simp only at h
    cases q : L[n]? with
    | none => rw [q] at h; simp at h
    | some o =>
      have hr := A.rep n a o ea q
      rw [q] at h
      cases o with
      | lst us => obtain ⟨xs, e, r⟩ := hr; exact .inl ⟨xs, .of e, by rw [← isEmpty_len r.length]; exact (Option.some.inj h).symm⟩
      | ro us => obtain ⟨xs, e, r⟩ := hr; exact .inl ⟨xs, e.sq, by rw [← isEmpty_len r.length]; exact (Option.some.inj h).symm⟩
      | dic kvs => obtain ⟨vs, e, ek, _⟩ := hr; exact .inr (.inr ⟨vs, e, by rw [← isEmpty_len (show kvs.length = vs.length by simpa using congrArg List.length ek)]; exact (Option.some.inj h).symm⟩)
      | rod kvs => simp at h
      | ins C fs => simp at h
def fTru (f : FE) : FT := fun δ L => (f δ L).bind fun p => (truU p.1 p.2).map fun k => (k, p.2)
theorem ptf_tru (ha : PEF X a fa) (he : ∀ whole, isTrue a X.env whole = (do let v ← whole; standAt a.pos; holding [v] (truthy v)) := by intro _; rfl) : PTF X a (fTru fa) := by
  refine PT.imp (pt_truth ha he) ?_
  rintro σ H Q ⟨α, δ, L, A, S, z, L3, e, q⟩
  obtain ⟨⟨u, L1⟩, e1, e⟩ := Option.bind_eq_some_iff.mp e
  obtain ⟨k, e2, e⟩ := Option.map_eq_some_iff.mp e
  cases e
  exact ⟨α, δ, L, A, S, u, _, e1, fun x H1 α1 g1 A1 r1 => ⟨_, truU_ok A1 r1 e2, q H1 α1 g1 A1⟩⟩
end

inductive Fl where
  | nx (δ : UE) | rt (u : U) | bk (δ : UE) | ct (δ : UE)
abbrev FS := UE → UH → Option (Fl × UH)
def Post (K : PySem.W.Frag) (D : Ends) (H : Hp) (α : List Addr) (fl : Fl) (L' : UH) : Prop := match fl with
  | .nx δ' => ∀ σ' H' α', Gr H α H' α' → Abs K H' α' L' → RepS K H' α' δ' σ' → D.nx σ' H'
  | .bk δ' => ∀ σ' H' α', Gr H α H' α' → Abs K H' α' L' → RepS K H' α' δ' σ' → D.bk σ' H'
  | .ct δ' => ∀ σ' H' α', Gr H α H' α' → Abs K H' α' L' → RepS K H' α' δ' σ' → D.ct σ' H'
  | .rt u => ∀ v H' α', Gr H α H' α' → Abs K H' α' L' → RepU K H' α' u v → D.rt v H'
theorem Post.from {K : PySem.W.Frag} {D : Ends} {H H1 : Hp} {α α1 : List Addr} {fl : Fl} {L' : UH} (g : Gr H α H1 α1) (p : Post K D H α fl L') : Post K D H1 α1 fl L' := by
  cases fl with
  | nx δ => exact fun σ' H' α' g' => p σ' H' α' (g.trans g')
  | bk δ => exact fun σ' H' α' g' => p σ' H' α' (g.trans g')
  | ct δ => exact fun σ' H' α' g' => p σ' H' α' (g.trans g')
  | rt u => exact fun v H' α' g' => p v H' α' (g.trans g')
def lS (K : PySem.W.Frag) (f : FS) : TS := fun D σ H => ∃ α δ L, Abs K H α L ∧ RepS K H α δ σ ∧ ∃ fl L', f δ L = some (fl, L') ∧ Post K D H α fl L'
def PSF (X : Cx) (st : Stmt) (f : FS) : Prop := PS X st (lS X.K f)
def PSsF (X : Cx) (st : List Stmt) (f : FS) : Prop := PSs X st (lS X.K f)
section
variable {X : Cx} {st : Stmt} {rest : List Stmt} {e : Expr} {pos : Pos} {f g : FS} {fe : FE}
theorem PS.imp {t t' : TS} (h : PS X st t) (hi : ∀ D σ H, t' D σ H → t D σ H) : PS X st t' := fun pins s σ H D I q => h pins s σ H D I (hi D σ H q)
theorem PSs.imp {sts : List Stmt} {t t' : TS} (h : PSs X sts t) (hi : ∀ D σ H, t' D σ H → t D σ H) : PSs X sts t' := fun pins s σ H D I q => h pins s σ H D I (hi D σ H q)
def fNext : FS := fun δ L => some (.nx δ, L)
def fSeq (f g : FS) : FS := fun δ L => (f δ L).bind fun p => match p.1 with | .nx δ' => g δ' p.2 | fl => some (fl, p.2)
theorem psf_nil : PSsF X [] fNext := by
  refine PSs.imp pss_nil ?_
  rintro D σ H ⟨α, δ, L, A, S, fl, L', e, q⟩
  cases e
  exact q σ H α (.refl _ _) A S
theorem psf_cons (h1 : PSF X st f) (h2 : PSsF X rest g) : PSsF X (st :: rest) (fSeq f g) := by
  refine PSs.imp (pss_cons h1 h2) ?_
  rintro D σ H ⟨α, δ, L, A, S, fl, L', e, q⟩
  obtain ⟨⟨fl1, L1⟩, e1, e⟩ := Option.bind_eq_some_iff.mp e
  refine ⟨α, δ, L, A, S, fl1, L1, e1, ?_⟩
  cases fl1 with
  | nx δ1 => exact fun σ1 H1 α1 g1 A1 S1 => ⟨α1, δ1, L1, A1, S1, fl, L', e, q.from g1⟩
  | rt u => cases e; exact q
  | bk δ1 => cases e; exact q
  | ct δ1 => cases e; exact q
theorem psf_one (h1 : PSF X st f) : PSsF X [st] f := pss_one h1
def fRet (f : FE) : FS := fun δ L => (f δ L).map fun p => (.rt p.1, p.2)
def fDrop (f : FE) : FS := fun δ L => (f δ L).map fun p => (.nx δ, p.2)
def fRetN : FS := fun _ L => some (.rt .non, L)
theorem psf_ret (he : PEF X e fe) : PSF X (.Return (some e) pos) (fRet fe) := by
  refine PS.imp (ps_ret he) ?_
  rintro D σ H ⟨α, δ, L, A, S, fl, L', e, q⟩
  obtain ⟨⟨u, L1⟩, e1, e⟩ := Option.map_eq_some_iff.mp e
  cases e
  exact ⟨α, δ, L, A, S, u, _, e1, fun v H1 α1 g1 A1 r1 => q v H1 α1 g1 A1 r1⟩
theorem psf_expr (he : PEF X e fe) (hs : swapsWith e none pos.line X.env = pure false := by rfl) : PSF X (.Expr e pos) (fDrop fe) := by
  refine PS.imp (ps_expr he hs) ?_
  rintro D σ H ⟨α, δ, L, A, S, fl, L', e, q⟩
  obtain ⟨⟨u, L1⟩, e1, e⟩ := Option.map_eq_some_iff.mp e
  cases e
  exact ⟨α, δ, L, A, S, u, _, e1, fun v H1 α1 g1 A1 r1 => q σ H1 α1 g1 A1 (S.mono g1)⟩
def fIfS (c : FT) (f g : FS) : FS := fun δ L => (c δ L).bind fun p => if p.1 = true then f δ p.2 else g δ p.2
theorem psf_if {c : Expr} {a b : List Stmt} {tc : FT} (hc : PTF X c tc) (ha : PSsF X a f) (hb : PSsF X b g) : PSF X (.If c a b pos) (fIfS tc f g) := by
  refine PS.imp (ps_if hc ha hb) ?_
  rintro D σ H ⟨α, δ, L, A, S, fl, L', e, q⟩
  obtain ⟨⟨u, L1⟩, e1, e⟩ := Option.bind_eq_some_iff.mp e
  refine ⟨α, δ, L, A, S, u, L1, e1, fun H1 α1 g1 A1 => ?_⟩
  cases u with
  | true => exact iteT ⟨α1, δ, L1, A1, S.mono g1, fl, L', e, q.from g1⟩
  | false => exact iteF ⟨α1, δ, L1, A1, S.mono g1, fl, L', e, q.from g1⟩
/-- a statement that is never come to -/
def fNever : FS := fun _ _ => none
theorem psf_never : PSF X st fNever := by
  refine PS.imp ps_never ?_
  rintro D σ H ⟨α, δ, L, A, S, fl, L', e, q⟩
  cases e
end
abbrev FG := U → UE → UH → Option (UE × UH)
abbrev FGs := List U → UE → UH → Option (UE × UH)
def lG (K : PySem.W.Frag) (f : FG) : TG := fun v σ H Q => ∃ α δ L u, Abs K H α L ∧ RepS K H α δ σ ∧ RepU K H α u v ∧ ∃ δ' L', f u δ L = some (δ', L') ∧ ∀ σ' H' α', Gr H α H' α' → Abs K H' α' L' → RepS K H' α' δ' σ' → Q σ' H'
def lGs (K : PySem.W.Frag) (f : FGs) : TGs := fun vs σ H Q => ∃ α δ L us, Abs K H α L ∧ RepS K H α δ σ ∧ RepL K H α us vs ∧ ∃ δ' L', f us δ L = some (δ', L') ∧ ∀ σ' H' α', Gr H α H' α' → Abs K H' α' L' → RepS K H' α' δ' σ' → Q σ' H'
def PGF (X : Cx) (e : Expr) (f : FG) : Prop := PG X e (lG X.K f)
def PGsF (X : Cx) (es : List Expr) (f : FGs) : Prop := PGs X es (lGs X.K f)
section
variable {X : Cx} {e : Expr} {es : List Expr} {pos : Pos}
theorem PG.imp {t t' : TG} (h : PG X e t) (hi : ∀ v σ H Q, t' v σ H Q → t v σ H Q) : PG X e t' := fun pins s σ H v u Q I r q => h pins s σ H v u Q I r (hi v σ H Q q)
theorem PGs.imp {t t' : TGs} (h : PGs X es t) (hi : ∀ v σ H Q, t' v σ H Q → t v σ H Q) : PGs X es t' := fun pins s σ H v u Q I r q => h pins s σ H v u Q I r (hi v σ H Q q)
def gN (i : Nat) : FG := fun u δ L => some (δ.set i (some u), L)
theorem pgf_name {i : Nat} {x : Str} (hN : X.N.Nodup) (hi : X.N[i]? = some x := by rfl) (hx : Loc X.env.scope x := by first | exact Or.inl rfl | exact Or.inr rfl) (hf : X.fn x = true ∨ X.env.scope.names.lookup x = some .local := by first | exact .inl rfl | exact .inr rfl) : PGF X (.Name x pos) (gN i) := by
  refine PG.imp (pg_name (i := i) hN hi hx hf) ?_
  rintro v σ H Q ⟨α, δ, L, u, A, S, r, δ', L', e, q⟩
  cases e
  exact q _ H α (.refl _ _) A (S.set i r)
def gNil : FGs := fun us δ L => match us with | [] => some (δ, L) | _ => none
def gCons (f : FG) (g : FGs) : FGs := fun us δ L => match us with | [] => none | u :: r => (f u δ L).bind fun p => g r p.1 p.2
theorem pgsf_nil : PGsF X [] MR.gNil := by
  refine PGs.imp pgs_nil ?_
  rintro vs σ H Q ⟨α, δ, L, us, A, S, r, δ', L', e, q⟩
  cases us with
  | nil => cases e; exact ⟨by unfold RepL at r; exact r, q σ H α (.refl _ _) A S⟩
  | cons u us => cases e
theorem pgsf_cons {f : FG} {g : FGs} (h1 : PGF X e f) (h2 : PGsF X es g) (hs : (assignEach (e :: es) X.env).map (·.2) = assign e X.env :: (assignEach es X.env).map (·.2) := by rfl) : PGsF X (e :: es) (MR.gCons f g) := by
  refine PGs.imp (pgs_cons h1 h2 hs) ?_
  rintro vs σ H Q ⟨α, δ, L, us, A, S, r, δ', L', e, q⟩
  cases us with
  | nil => cases e
  | cons u us =>
    unfold RepL at r
    obtain ⟨x, xs, rfl, r1, r2⟩ := r
    obtain ⟨⟨δ1, L1⟩, e1, e⟩ := Option.bind_eq_some_iff.mp e
    refine ⟨x, xs, rfl, α, δ, L, u, A, S, r1, δ1, L1, e1, fun σ1 H1 α1 g1 A1 S1 => ?_⟩
    exact ⟨α1, δ1, L1, us, A1, S1, r2.mono g1, δ', L', e, fun σ2 H2 α2 g2 A2 S2 => q σ2 H2 α2 (g1.trans g2) A2 S2⟩
def gTup (n : Nat) (g : FGs) : FG := fun u δ L => match u with | .tup us => if us.length = n then g us δ L else none | _ => none
theorem pgf_tup {k : Nat} {g : FGs} {n : Nat} (hc : X.calm = true) (h : PGsF X es g) (hn : (assignEach es X.env).length = n := by rfl) (hst : (assignEach es X.env).findIdx? (·.1) = none := by rfl) : PGF X (.Tuple es k pos) (MR.gTup n g) := by
  refine PG.imp (pg_tup hc h hn hst) ?_
  rintro v σ H Q ⟨α, δ, L, u, A, S, r, δ', L', e, q⟩
  cases u with
  | tup us =>
    unfold RepU at r
    obtain ⟨a, xs, rfl, s, r⟩ := r
    unfold MR.gTup at e
    simp only at e
    split at e
    · rename_i hl
      exact ⟨a, xs, rfl, s, by rw [← r.length]; exact hl, α, δ, L, us, A, S, r, δ', L', e, q⟩
    · cases e
  | _ => simp [MR.gTup] at e
/-- target = value -/
def fAsg (fe : FE) (g : FG) : FS := fun δ L => (fe δ L).bind fun p => (g p.1 δ p.2).map fun q => (.nx q.1, q.2)
theorem psf_asg {tg : Expr} {fe : FE} {g : FG} (he : PEF X e fe) (hg : PGF X tg g) (hs : swapsWithSole [tg] e pos.line X.env = pure false := by rfl) (hw : swappedStores [tg] e X.env = pure none := by rfl) (h1 : (assignEach [tg] X.env).map (·.2) = [assign tg X.env] := by rfl) :
    PSF X (.Assign [tg] e pos) (fAsg fe g) := by
  refine PS.imp (ps_asg he hg hs hw h1) ?_
  rintro D σ H ⟨α, δ, L, A, S, fl, L', e, q⟩
  obtain ⟨⟨u, L1⟩, e1, e⟩ := Option.bind_eq_some_iff.mp e
  obtain ⟨⟨δ2, L2⟩, e2, e⟩ := Option.map_eq_some_iff.mp e
  cases e
  exact ⟨α, δ, L, A, S, u, L1, e1, fun v H1 α1 g1 A1 r1 => ⟨α1, δ, L1, u, A1, S.mono g1, r1, δ2, _, e2, fun σ2 H2 α2 g2 A2 S2 => q σ2 H2 α2 (g1.trans g2) A2 S2⟩⟩
theorem psf_set {i : Nat} {x : Str} {fe : FE} {pos' : Pos} (hN : X.N.Nodup) (he : PEF X e fe) (hi : X.N[i]? = some x := by rfl) (hx : Loc X.env.scope x := by first | exact Or.inl rfl | exact Or.inr rfl)
    (hs : swapsWith e (some (.Name x pos')) pos.line X.env = pure false := by rfl) (hf : X.fn x = true ∨ X.env.scope.names.lookup x = some .local := by first | exact .inl rfl | exact .inr rfl) :
    PSF X (.Assign [.Name x pos'] e pos) (fAsg fe (gN i)) := by
  refine PS.imp (ps_set (i := i) hN hi hx he hs hf) ?_
  rintro D σ H ⟨α, δ, L, A, S, fl, L', e, q⟩
  obtain ⟨⟨u, L1⟩, e1, e⟩ := Option.bind_eq_some_iff.mp e
  obtain ⟨⟨δ2, L2⟩, e2, e⟩ := Option.map_eq_some_iff.mp e
  cases e
  cases e2
  exact ⟨α, δ, L, A, S, u, _, e1, fun v H1 α1 g1 A1 r1 => q _ H1 α1 g1 A1 ((S.mono g1).set i r1)⟩
end
end MR

set_option Elab.async false
set_option linter.all false
set_option maxRecDepth 100000
set_option maxHeartbeats 1000000
namespace MR
open PySem PySem.Spec PyProof.Rows L2
/-- the list of a number -/
def lstAt (L : UH) (n : Nat) : Option (List U) := match L[n]? with
  | some (.lst us) => some us
  | _ => none
def seqAt (L : UH) (n : Nat) : Option (List U) := match L[n]? with
  | some (.lst us) => some us
  | some (.ro us) => some us
  | _ => none
inductive IU where
  | seq (us : List U) | ref (n : Nat) | enm (n : Nat) | zip2 (n m : Nat) | zipT (us : List U) (m : Nat)
def pairU : Option U → Option U → Option U
  | some x, some y => some (.tup [x, y])
  | _, _ => none
def IU.at (i : IU) (k : Nat) (L : UH) : Option (Option U) := match i with
  | .seq us => some us[k]?
  | .ref n => match L[n]? with
    | some (.lst us) => some us[k]?
    | some (.ro us) => some us[k]?
    | _ => none
  | .enm n => (seqAt L n).map fun us => (us[k]?).map fun u => .tup [.int k, u]
  | .zip2 n m => (seqAt L n).bind fun us => (seqAt L m).map fun ws => pairU us[k]? ws[k]?
  | .zipT us m => (seqAt L m).map fun ws => pairU us[k]? ws[k]?
def IU.size (i : IU) (L : UH) : Nat := match i with
  | .seq us => us.length
  | .ref n => match L[n]? with
    | some (.lst us) => us.length
    | some (.ro us) => us.length
    | _ => 0
  | .enm n => match seqAt L n with
    | some us => us.length
    | none => 0
  | .zip2 n m => match seqAt L n, seqAt L m with
    | some us, some ws => min us.length ws.length
    | _, _ => 0
  | .zipT us m => match seqAt L m with
    | some ws => min us.length ws.length
    | none => 0
abbrev FI := UE → UH → Option (IU × UH)
def ItRep (K : PySem.W.Frag) (J : It) (i : IU) (H : Hp) (α : List Addr) : Prop := ∀ (H2 : Hp) (α2 : List Addr) (L2 : UH), Gr H α H2 α2 → Abs K H2 α2 L2 → ∀ k : Nat,
  (∀ u, i.at k L2 = some (some u) → J.go k H2 ∧ ∀ x H3, J.yld k H2 x H3 → Gr H2 α2 H3 α2 ∧ Abs K H3 α2 L2 ∧ RepU K H3 α2 u x) ∧ (i.at k L2 = some none → J.stop k H2)
def lI (K : PySem.W.Frag) (f : FI) : TI := fun σ H R => ∃ α δ L, Abs K H α L ∧ RepS K H α δ σ ∧ ∃ i L', f δ L = some (i, L') ∧ ∀ J H' α', Gr H α H' α' → Abs K H' α' L' → ItRep K J i H' α' → R J H'
def PIF (X : Cx) (tg iter : Expr) (f : FI) : Prop := PI X tg iter (lI X.K f)
section
variable {X : Cx} {tg iter l : Expr} {pos : Pos} {fe : FE}
theorem PI.imp {t t' : TI} (h : PI X tg iter t) (hi : ∀ σ H R, t' σ H R → t σ H R) : PI X tg iter t' := fun pins s σ H R I q => h pins s σ H R I (hi σ H R q)
theorem PI.or {t t' : TI} (h : PI X tg iter t) (h' : PI X tg iter t') : PI X tg iter (fun σ H R => t σ H R ∨ t' σ H R) := fun pins s σ H R I q => by
  rcases q with q | q
  · exact h pins s σ H R I q
  · exact h' pins s σ H R I q
/-- over a list or a tuple -/
def iSeqU (u : U) (L : UH) : Option IU := match u with
  | .tup us => some (.seq us)
  | .ref n => match L[n]? with
    | some (.lst _) => some (.ref n)
    | some (.ro _) => some (.ref n)
    | _ => none
  | _ => none
theorem itl_rep {K : PySem.W.Frag} {H : Hp} {α : List Addr} {n : Nat} {a : Addr} (ea : α[n]? = some a) : ItRep K (Itl K a) (.ref n) H α := by
  intro H2 α2 L2 g A2 k
  have ea2 := g.at ea
  have go : ∀ (us : List U) (xs : List V), SqL K H2 a xs → RepL K H2 α2 us xs → (∀ ys, SqL K H2 a ys → True) → (∀ u, us[k]? = some u → (Itl K a).go k H2 ∧ ∀ x H3, (Itl K a).yld k H2 x H3 → Gr H2 α2 H3 α2 ∧ Abs K H3 α2 L2 ∧ RepU K H3 α2 u x) ∧ (us[k]? = none → (Itl K a).stop k H2) := by
    intro us xs sq r _
    refine ⟨fun u eu => ?_, fun eu => ?_⟩
    · obtain ⟨x, ex, rx⟩ := r.get eu
      refine ⟨⟨xs, x, sq, ex⟩, ?_⟩
      rintro y H3 ⟨rfl, hy⟩
      have := hy xs sq
      rw [ex] at this; cases this
      exact ⟨.refl _ _, A2, rx⟩
    · exact ⟨xs, sq, by rw [← r.length]; exact List.getElem?_eq_none_iff.mp eu⟩
  unfold IU.at
  simp only
  cases q : L2[n]? with
  | none => simp
  | some o =>
    have hr := A2.rep n a o ea2 q
    cases o with
    | lst us =>
      obtain ⟨xs, e, r⟩ := hr
      obtain ⟨h1, h2⟩ := go us xs (.of e) r fun _ _ => trivial
      exact ⟨fun u eu => h1 u (Option.some.inj eu), fun eu => h2 (Option.some.inj eu)⟩
    | ro us =>
      obtain ⟨xs, e, r⟩ := hr
      obtain ⟨h1, h2⟩ := go us xs e.sq r fun _ _ => trivial
      exact ⟨fun u eu => h1 u (Option.some.inj eu), fun eu => h2 (Option.some.inj eu)⟩
    | dic kvs => simp
    | rod kvs => simp
    | ins C fs => simp
theorem itt_rep {K : PySem.W.Frag} {H : Hp} {α : List Addr} {us : List U} {xs : List V} {a : Addr} (sq : SqT K H a xs) (r : RepL K H α us xs) : ItRep K (Itt K a) (.seq us) H α := by
  intro H2 α2 L2 g A2 k
  have sq2 := g.st.sqT (K := K) sq
  have r2 := r.mono g
  refine ⟨fun u eu => ?_, fun eu => ?_⟩
  · obtain ⟨x, ex, rx⟩ := r2.get (Option.some.inj eu)
    refine ⟨⟨xs, x, sq2, ex⟩, ?_⟩
    rintro y H3 ⟨rfl, hy⟩
    have := hy xs sq2
    rw [ex] at this; cases this
    exact ⟨.refl _ _, A2, rx⟩
  · exact ⟨xs, sq2, by rw [← r2.length]; exact List.getElem?_eq_none_iff.mp (Option.some.inj eu)⟩
theorem itr_rep {K : PySem.W.Frag} {H : Hp} {α : List Addr} (lo : Int) (n : Nat) : ItRep K (Itr lo n) (.seq ((List.range n).map fun i => U.int (lo + (i : Nat)))) H α := by
  intro H2 α2 L2 g A2 k
  refine ⟨fun u eu => ?_, fun eu => ?_⟩
  · have eu := Option.some.inj eu
    rw [List.getElem?_map] at eu
    by_cases hk : k < n
    · rw [List.getElem?_range hk] at eu
      simp at eu
      refine ⟨hk, ?_⟩
      rintro x H3 ⟨rfl, rfl⟩
      subst eu
      exact ⟨.refl _ _, A2, rfl⟩
    · rw [List.getElem?_eq_none (by simpa using hk)] at eu
      simp at eu
  · have := List.getElem?_eq_none_iff.mp (Option.some.inj eu)
    show n ≤ k
    simpa using this
def fSeqI (f : FE) : FI := fun δ L => (f δ L).bind fun p => (iSeqU p.1 p.2).map fun i => (i, p.2)
theorem pif_seq (h : PEF X l fe) : PIF X tg l (fSeqI fe) := by
  refine PI.imp (PI.or (pi_list h) (pi_tup h)) ?_
  rintro σ H R ⟨α, δ, L, A, S, i, L3, e, q⟩
  obtain ⟨⟨u, L1⟩, e1, e⟩ := Option.bind_eq_some_iff.mp e
  obtain ⟨j, e2, e⟩ := Option.map_eq_some_iff.mp e
  cases e
  cases u with
  | tup us =>
    cases e2
    refine .inr ⟨α, δ, L, A, S, _, _, e1, fun x H1 α1 g1 A1 r1 => ?_⟩
    unfold RepU at r1
    obtain ⟨a, xs, rfl, sq, r⟩ := r1
    exact ⟨a, rfl, ⟨xs, sq⟩, q _ H1 α1 g1 A1 (itt_rep sq r)⟩
  | ref n =>
    refine .inl ⟨α, δ, L, A, S, _, _, e1, fun x H1 α1 g1 A1 r1 => ?_⟩
    unfold RepU at r1
    obtain ⟨a, ea, rfl⟩ := r1
    refine ⟨a, rfl, ?_⟩
    unfold iSeqU at e2
    simp only at e2
    cases w : L1[n]? with
    | none => simp only [w] at e2; cases e2
    | some o =>
      have hr := A1.rep n a o ea w
      cases o with
      | lst us => simp only [w] at e2; cases e2; obtain ⟨xs, e, r⟩ := hr; exact ⟨⟨xs, .of e⟩, q _ H1 α1 g1 A1 (itl_rep ea)⟩
      | ro us => simp only [w] at e2; cases e2; obtain ⟨xs, e, r⟩ := hr; exact ⟨⟨xs, e.sq⟩, q _ H1 α1 g1 A1 (itl_rep ea)⟩
      | dic kvs => simp only [w] at e2; cases e2
      | rod kvs => simp only [w] at e2; cases e2
      | ins C fs => simp only [w] at e2; cases e2
  | _ => cases e2
def rangeU (lo : Int) (n : Nat) : List U := (List.range n).map fun i => U.int (lo + (i : Nat))
def fRng1 (g : FA) : FI := fun δ L => (g δ L).bind fun p => match p.1 with
  | [.int j] => if -(2 ^ 62) ≤ j ∧ j < 2 ^ 62 then some (.seq (rangeU 0 j.toNat), p.2) else none
  | _ => none
def fRng2 (g : FA) : FI := fun δ L => (g δ L).bind fun p => match p.1 with
  | [.int i, .int j] => if (-(2 ^ 62) ≤ i ∧ i < 2 ^ 62) ∧ -(2 ^ 62) ≤ j ∧ j < 2 ^ 62 then some (.seq (rangeU i (j - i).toNat), p.2) else none
  | _ => none
theorem RepL.one {K : PySem.W.Frag} {H : Hp} {α : List Addr} {u : U} {xs : List V} (h : RepL K H α [u] xs) : ∃ x, xs = [x] ∧ RepU K H α u x := by
  unfold RepL at h
  obtain ⟨x, r, e, h1, h2⟩ := h
  unfold RepL at h2
  subst h2
  exact ⟨x, e, h1⟩
theorem RepL.two {K : PySem.W.Frag} {H : Hp} {α : List Addr} {u w : U} {xs : List V} (h : RepL K H α [u, w] xs) : ∃ x y, xs = [x, y] ∧ RepU K H α u x ∧ RepU K H α w y := by
  unfold RepL at h
  obtain ⟨x, r, e, h1, h2⟩ := h
  obtain ⟨y, e2, h3⟩ := h2.one
  subst e2
  exact ⟨x, y, e, h1, h3⟩
theorem pif_range1 {a : Expr} {g : FA} {p pos : Pos} (hg : Gl X "range") (hm : X.mg "range" = none) (ha : PAF X [a] g) (hs : starEach [a] X.env = [(false, eval a X.env)] := by rfl) : PIF X tg (.Call (.Name "range" p) [a] [] pos) (fRng1 g) := by
  refine PI.imp (pi_range1 hg hm ha hs) ?_
  rintro σ H R ⟨α, δ, L, A, S, i, L3, e, q⟩
  obtain ⟨⟨us, L1⟩, e1, e⟩ := Option.bind_eq_some_iff.mp e
  refine ⟨α, δ, L, A, S, us, L1, e1, fun xs H1 α1 g1 A1 r1 => ?_⟩
  simp only at e
  split at e
  · rename_i _ j
    split at e
    · rename_i hj
      cases e
      obtain ⟨x, rfl, rx⟩ := r1.one
      unfold RepU at rx
      subst rx
      exact ⟨j, rfl, hj.1, hj.2, q _ H1 α1 g1 A1 (itr_rep 0 _)⟩
    · cases e
  · cases e
theorem pif_range2 {a b : Expr} {g : FA} {p pos : Pos} (hg : Gl X "range") (hm : X.mg "range" = none) (ha : PAF X [a, b] g) (hs : starEach [a, b] X.env = [(false, eval a X.env), (false, eval b X.env)] := by rfl) (hs2 : starEach [b] X.env = [(false, eval b X.env)] := by rfl) : PIF X tg (.Call (.Name "range" p) [a, b] [] pos) (fRng2 g) := by
  refine PI.imp (pi_range2 hg hm ha hs hs2) ?_
  rintro σ H R ⟨α, δ, L, A, S, i, L3, e, q⟩
  obtain ⟨⟨us, L1⟩, e1, e⟩ := Option.bind_eq_some_iff.mp e
  refine ⟨α, δ, L, A, S, us, L1, e1, fun xs H1 α1 g1 A1 r1 => ?_⟩
  simp only at e
  split at e
  · rename_i _ i j
    split at e
    · rename_i hj
      cases e
      obtain ⟨x, y, rfl, rx, ry⟩ := r1.two
      unfold RepU at rx ry
      subst rx
      subst ry
      exact ⟨i, j, rfl, ⟨hj.1.1, hj.1.2, hj.2.1, hj.2.2⟩, q _ H1 α1 g1 A1 (itr_rep i _)⟩
    · cases e
  · cases e
/-- the loop itself -/
def loopU (i : IU) (g : FG) (body : FS) : Nat → Nat → UE → UH → Option (Fl × UH)
  | 0, _, _, _ => none
  | m + 1, k, δ, L => match i.at k L with
    | none => none
    | some none => some (.nx δ, L)
    | some (some u) => (g u δ L).bind fun p => (body p.1 p.2).bind fun q => match q.1 with
      | .nx δ' => loopU i g body m (k + 1) δ' q.2
      | .ct δ' => loopU i g body m (k + 1) δ' q.2
      | .bk δ' => some (.nx δ', q.2)
      | .rt w => some (.rt w, q.2)
def fFor (fi : FI) (g : FG) (body : FS) : FS := fun δ L => (fi δ L).bind fun p => loopU p.1 g body (p.1.size p.2 + 1) 0 δ p.2
theorem psf_for {body : List Stmt} {fi : FI} {g : FG} {fb : FS} (hp : PassesOwn (model X.prog X.w) X.A X.env X.xe) (hc : X.calm = true) (hi : PIF X tg iter fi) (hg : PGF X tg g) (hb : PSsF X body fb)
    (hs : ∀ x, foldedSetIterable iter X.env x = pure x := by intro _; rfl) : PSF X (.For tg iter body [] pos) (fFor fi g fb) := by
  refine PS.imp (ps_for hp hc hi hg hb hs) ?_
  rintro D σ H ⟨α, δ, L, A, S, fl, L', e, q⟩
  obtain ⟨⟨it, L1⟩, e1, e⟩ := Option.bind_eq_some_iff.mp e
  refine ⟨α, δ, L, A, S, it, L1, e1, fun J H1 α1 g1 A1 hJ => ?_⟩
  refine ⟨fun k m σ2 H2 => ∃ α2 δ2 L2, Gr H1 α1 H2 α2 ∧ Abs X.K H2 α2 L2 ∧ RepS X.K H2 α2 δ2 σ2 ∧ loopU it g fb m k δ2 L2 = some (fl, L') ∧ Post X.K D H2 α2 fl L', ⟨_, α1, δ, L1, .refl _ _, A1, S.mono g1, e, q.from g1⟩, ?_⟩
  rintro k m σ2 H2 ⟨α2, δ2, L2, g2, A2, S2, e2, q2⟩
  cases m with
  | zero => cases e2
  | succ m =>
    obtain ⟨hgo, hstop⟩ := hJ H2 α2 L2 g2 A2 k
    unfold loopU at e2
    cases hat : it.at k L2 with
    | none => rw [hat] at e2; cases e2
    | some o =>
      cases o with
      | none =>
        rw [hat] at e2
        cases e2
        exact .inl ⟨hstop hat, q2 σ2 H2 α2 (.refl _ _) A2 S2⟩
      | some u =>
        rw [hat] at e2
        obtain ⟨go, yld⟩ := hgo u hat
        obtain ⟨⟨δ3, L3⟩, e3, e2⟩ := Option.bind_eq_some_iff.mp e2
        obtain ⟨⟨fl4, L4⟩, e4, e2⟩ := Option.bind_eq_some_iff.mp e2
        refine .inr ⟨go, fun σ5 H5 => ∃ α5 δ5 L5, Gr H1 α1 H5 α5 ∧ Abs X.K H5 α5 L5 ∧ RepS X.K H5 α5 δ5 σ5 ∧ loopU it g fb m (k + 1) δ5 L5 = some (fl, L') ∧ Post X.K D H5 α5 fl L', fun σ5 H5 h5 => ⟨m, Nat.lt_succ_self _, h5⟩, fun x H3 y3 => ?_⟩
        obtain ⟨g3, A3, r3⟩ := yld x H3 y3
        refine ⟨α2, δ2, L2, u, A3, S2.mono g3, r3, δ3, L3, e3, fun σ4 H4 α4 g4 A4 S4 => ⟨α4, δ3, L3, A4, S4, fl4, L4, e4, ?_⟩⟩
        have gA := g2.trans (g3.trans g4)
        have gB := g3.trans g4
        cases fl4 with
        | nx δ5 => exact fun σ5 H5 α5 g5 A5 S5 => ⟨α5, δ5, L4, gA.trans g5, A5, S5, e2, q2.from (gB.trans g5)⟩
        | ct δ5 => exact fun σ5 H5 α5 g5 A5 S5 => ⟨α5, δ5, L4, gA.trans g5, A5, S5, e2, q2.from (gB.trans g5)⟩
        | bk δ5 => cases e2; exact fun σ5 H5 α5 g5 A5 S5 => q2 σ5 H5 α5 (gB.trans g5) A5 S5
        | rt w => cases e2; exact fun v H5 α5 g5 A5 r5 => q2 v H5 α5 (gB.trans g5) A5 r5
end
def fnU (n m : Nat) (body : FS) : FN := fun us L => if us.length = m then (body (us.map some ++ List.replicate (n - us.length) none) L).bind fun p => match p.1 with
  | .rt u => some (u, p.2)
  | .nx _ => some (.non, p.2)
  | _ => none
  else none
section
variable {P : Program} {w : World} {K : PySem.W.Frag} {mg : Str → Option Value} {base : Heap}
theorem Fun.okF {x qual : Str} {st : Stmt} {f : Addr} {fd : FuncData} {N ps : List Str} {k : Nat} {body : FS} (F : Fun K x qual st f fd) (S : FnScope N ps (defScope st))
    (hbody : ∀ (cdv : Value) (A : Around) (outer : List PySem.Env) (s : Shared) (H : Hp) (E : XK), Room k (A.deeper (envOfC qual (defScope st) s.heap.objs.size f cdv)) → PSsF (cxOf CX0 P w K mg base N qual (defScope st) f cdv A outer s H E).nox (defBody st) body) :
    FnOk P w K mg base CX0 (k + 1) f fd ps (spF K ps.length (fnU N.length ps.length body)) := by
  refine F.ok S (fun vs H Q E ⟨α, L, us, A, r, hl, _⟩ => by rw [← r.length]; exact hl) (fun cdv A outer s H vs Q E hr h => ?_)
  obtain ⟨α, L, us, Ab, r, hl, u, L', e, q⟩ := h
  refine ⟨_, hbody cdv A outer s H E hr, ?_⟩
  unfold fnU at e
  rw [if_pos hl] at e
  obtain ⟨⟨fl, L1⟩, e1, e⟩ := Option.bind_eq_some_iff.mp e
  refine ⟨α, _, L, Ab, RepS.start N r, fl, L1, e1, ?_⟩
  cases fl with
  | rt w => cases e; exact q
  | nx δ => cases e; exact fun σ' H' α' g' A' S' => q .non H' α' g' A' rfl
  | bk δ => cases e
  | ct δ => cases e
end
end MR

set_option Elab.async false
set_option linter.all false
set_option maxRecDepth 100000
set_option maxHeartbeats 1000000
namespace MR
open PySem PySem.Spec PyProof.Rows L2
section
variable {K : PySem.W.Frag} {H : Hp} {α : List Addr} {L : UH} {u : U} {x : V}
theorem lstAt_some {n : Nat} {us : List U} (h : lstAt L n = some us) : L[n]? = some (.lst us) := by
  unfold lstAt at h
  split at h
  · rename_i e; cases h; exact e
  · cases h
theorem lstAt_ok {n : Nat} {us : List U} (A : Abs K H α L) (h : lstAt L n = some us) : ∃ a xs, α[n]? = some a ∧ H a = some (.lst xs) ∧ RepL K H α us xs := by
  obtain ⟨a, ea, xs, e, r⟩ := A.addr (lstAt_some h)
  exact ⟨a, xs, ea, e, r⟩
theorem seqAt_ok {n : Nat} {us : List U} (A : Abs K H α L) (h : seqAt L n = some us) : ∃ a xs, α[n]? = some a ∧ SqL K H a xs ∧ RepL K H α us xs := by
  unfold seqAt at h
  split at h
  · rename_i e; cases h
    obtain ⟨a, ea, xs, e, r⟩ := A.addr e
    exact ⟨a, xs, ea, .of e, r⟩
  · rename_i e; cases h
    obtain ⟨a, ea, xs, e, r⟩ := A.addr e
    exact ⟨a, xs, ea, e.sq, r⟩
  · cases h
/-- a list is written -/
theorem Abs.setL {n : Nat} {a : Addr} {xs ys : List V} {us ws : List U} (A : Abs K H α L) (h : lstAt L n = some us) (ea : α[n]? = some a) (e : H a = some (.lst xs)) (r : RepL K H α ws ys) :
    Gr H α (upd H a (.lst ys)) α ∧ Abs K (upd H a (.lst ys)) α (L.set n (.lst ws)) := by
  have g : Gr H α (upd H a (.lst ys)) α := ⟨⟨[], by simp⟩, .write e (by exact trivial) _⟩
  obtain ⟨A', _⟩ := A.put (o := .lst ys) (u := .lst ws) ea (lstAt_some h) rfl rfl e (by exact trivial) ⟨ys, upd_same, r.mono g⟩
  exact ⟨g, A'⟩
theorem RepU.ref_of {n : Nat} (A : Abs K H α L) (h : RepU K H α (.ref n) x) : ∃ a, α[n]? = some a ∧ x = .ref a := by unfold RepU at h; exact h
end
def semAdd : S2 := fun u w L => match u, w with
  | .int i, .int j => some (.int (i + j), L)
  | .str a, .str b => if small (a.length + b.length) = true then some (.str (a ++ b), L) else none
  | .tup a, .tup b => if a.isEmpty = false ∧ small (a.length + b.length) = true then some (.tup (a ++ b), L) else none
  | .ref n, .ref m => (lstAt L n).bind fun a => (lstAt L m).bind fun b => if small (a.length + b.length) = true then some (.ref L.length, L ++ [.lst (a ++ b)]) else none
  | _, _ => none
def rAddA (K : PySem.W.Frag) : R2 := fun x y H Q => rI0 (fun i j => .int (i + j)) x y H Q ∨ (∃ i j, x = .str i ∧ y = .str j ∧ i.length + j.length ≤ sizeLine ∧ Q (.str (i ++ j)) H) ∨ rCatT K x y H Q ∨ rCat x y H Q
theorem op_addA {X : Cx} : OpR X (binaryOp .Add) (rAddA X.K) := op_add.or (op_add_str.or (op_catT.or op_cat))
theorem sem_add {K : PySem.W.Frag} : SemR2 K (rAddA K) semAdd := by
  intro H α L u w x y z L' Q A ru rw e q
  unfold semAdd at e
  split at e
  · cases e
    unfold RepU at ru rw
    exact .inl ⟨_, _, ru, rw, q _ H α (.refl _ _) A rfl⟩
  · split at e
    · rename_i h
      cases e
      unfold RepU at ru rw
      exact .inr (.inl ⟨_, _, ru, rw, small_le h, q _ H α (.refl _ _) A rfl⟩)
    · cases e
  · rename_i a b
    split at e
    · rename_i h
      cases e
      unfold RepU at ru rw
      obtain ⟨p, xs, rfl, s1, r1⟩ := ru
      obtain ⟨p2, ys, rfl, s2, r2⟩ := rw
      have e1 := r1.length
      have e2 := r2.length
      refine .inr (.inr (.inl ⟨p, p2, xs, ys, rfl, rfl, s1, s2, ?_, by rw [← e1, ← e2]; exact small_le h.2, fun hy => ?_, fun hy l hl => ?_⟩))
      · intro hx; subst hx
        cases a with
        | nil => simp at h
        | cons _ _ => simp at e1
      · subst hy
        have hb : b = [] := by
          cases b with
          | nil => rfl
          | cons _ _ => simp at e2
        subst hb
        refine q _ H α (.refl _ _) A ?_
        unfold RepU
        exact ⟨p, xs, rfl, s1, by rw [List.append_nil]; exact r1⟩
      · obtain ⟨g, A', r⟩ := A.tup (r1.append r2) hl
        exact q _ _ α g A' r
    · cases e
  · rename_i n m
    obtain ⟨a, ha, e⟩ := Option.bind_eq_some_iff.mp e
    obtain ⟨b, hb, e⟩ := Option.bind_eq_some_iff.mp e
    split at e
    · rename_i h
      cases e
      obtain ⟨p, xs, e1, h1, r1⟩ := lstAt_ok A ha
      obtain ⟨p2, ys, e2, h2, r2⟩ := lstAt_ok A hb
      obtain ⟨p', e1', rfl⟩ := ru.ref_of A
      obtain ⟨p2', e2', rfl⟩ := rw.ref_of A
      rw [e1] at e1'; cases e1'
      rw [e2] at e2'; cases e2'
      refine .inr (.inr (.inr ⟨p, p2, xs, ys, rfl, rfl, h1, h2, by rw [← r1.length, ← r2.length]; exact small_le h, fun l hl => ?_⟩))
      obtain ⟨g, A', r⟩ := A.lst (r1.append r2) hl
      exact q _ _ _ g A' r
    · cases e
  · cases e
def semI (C : Int → Int → Bool) (g : Int → Int → U) : S2 := fun u w L => match u, w with
  | .int i, .int j => if C i j = true then some (g i j, L) else none
  | _, _ => none
theorem sem_I {K : PySem.W.Frag} {C : Int → Int → Prop} {Cb : Int → Int → Bool} {g : Int → Int → V} {g' : Int → Int → U} (hC : ∀ i j, Cb i j = true → C i j) (hg : ∀ i j H α, RepU K H α (g' i j) (g i j)) : SemR2 K (rI C g) (semI Cb g') := by
  intro H α L u w x y z L' Q A ru rw e q
  unfold semI at e
  split at e
  · split at e
    · rename_i h
      cases e
      unfold RepU at ru rw
      exact ⟨_, _, ru, rw, hC _ _ h, q _ H α (.refl _ _) A (hg _ _ _ _)⟩
    · cases e
  · cases e
def semI0 (g : Int → Int → U) : S2 := fun u w L => match u, w with
  | .int i, .int j => some (g i j, L)
  | _, _ => none
theorem sem_I0 {K : PySem.W.Frag} {g : Int → Int → V} {g' : Int → Int → U} (hg : ∀ i j H α, RepU K H α (g' i j) (g i j)) : SemR2 K (rI0 g) (semI0 g') := by
  intro H α L u w x y z L' Q A ru rw e q
  unfold semI0 at e
  split at e
  · cases e
    unfold RepU at ru rw
    exact ⟨_, _, ru, rw, q _ H α (.refl _ _) A (hg _ _ _ _)⟩
  · cases e
def semSub : S2 := semI0 fun i j => .int (i - j)
theorem sem_sub {K : PySem.W.Frag} : SemR2 K (rI0 fun i j => .int (i - j)) semSub := sem_I0 fun _ _ _ _ => rfl
def mulOk (i j : Int) : Bool := (decide (-(2 ^ 64) < i) && decide (i < 2 ^ 64)) || (decide (-(2 ^ 64) < j) && decide (j < 2 ^ 64))
def semMul : S2 := fun u w L => match u, w with
  | .int i, .int j => if mulOk i j = true then some (.int (i * j), L) else none
  | .str a, .int j => if a.length ≤ 1000 ∧ -1000 ≤ j ∧ j ≤ 1000 then some (.str (Txt.mul a j), L) else none
  | .ref n, .int k => (lstAt L n).bind fun a => if -1000000 ≤ k ∧ k ≤ 1000000 ∧ small (a.length * k.toNat) = true then some (.ref L.length, L ++ [.lst (List.replicate k.toNat a).flatten]) else none
  | _, _ => none
def rMulA : R2 := fun x y H Q => rI CMul (fun i j => .int (i * j)) x y H Q ∨ (∃ a j, x = .str a ∧ y = .int j ∧ MulOk a j ∧ Q (.str (Txt.mul a j)) H) ∨ rRep x y H Q
theorem op_mul_str {X : Cx} : OpR X (binaryOp .Mult) (fun x y H Q => ∃ a j, x = .str a ∧ y = .int j ∧ MulOk a j ∧ Q (.str (Txt.mul a j)) H) := by
  intro pins s σ H x y v u Q I rx ry h
  obtain ⟨a, j, rfl, rfl, hok, q⟩ := h
  obtain ⟨t, rfl⟩ := rx
  obtain ⟨t', rfl⟩ := ry
  exact SB.mul hok fun t' k => ⟨.str (Txt.mul a j), H, I.tok _, ⟨_, rfl⟩, q⟩
theorem op_mulA {X : Cx} : OpR X (binaryOp .Mult) rMulA := op_mul.or (op_mul_str.or op_rep)
theorem RepL.flat {K : PySem.W.Frag} {H : Hp} {α : List Addr} {us : List U} {xs : List V} (h : RepL K H α us xs) : ∀ k : Nat, RepL K H α (List.replicate k us).flatten (List.replicate k xs).flatten
  | 0 => .nil
  | k + 1 => by rw [List.replicate_succ, List.replicate_succ, List.flatten_cons, List.flatten_cons]; exact h.append (RepL.flat h k)
theorem sem_mul {K : PySem.W.Frag} : SemR2 K rMulA semMul := by
  intro H α L u w x y z L' Q A ru rw e q
  unfold semMul at e
  split at e
  · rename_i i j
    split at e
    · rename_i h
      cases e
      unfold RepU at ru rw
      refine .inl ⟨_, _, ru, rw, ?_, q _ H α (.refl _ _) A rfl⟩
      simp only [mulOk, Bool.or_eq_true, Bool.and_eq_true, decide_eq_true_eq] at h
      exact h
    · cases e
  · rename_i a j
    split at e
    · rename_i h
      cases e
      unfold RepU at ru rw
      exact .inr (.inl ⟨_, _, ru, rw, mulOk_of 1000 1000 h.1 (by omega) (by omega) (by decide) (by decide), q _ H α (.refl _ _) A rfl⟩)
    · cases e
  · rename_i n k
    obtain ⟨a, ha, e⟩ := Option.bind_eq_some_iff.mp e
    split at e
    · rename_i h
      cases e
      obtain ⟨p, xs, e1, h1, r1⟩ := lstAt_ok A ha
      obtain ⟨p', e1', rfl⟩ := ru.ref_of A
      rw [e1] at e1'; cases e1'
      unfold RepU at rw
      refine .inr (.inr ⟨p, k, xs, rfl, rw, h1, by omega, by omega, by rw [← r1.length]; exact small_le h.2.2, fun l hl => ?_⟩)
      obtain ⟨g, A', r⟩ := A.lst (r1.flat k.toNat) hl
      exact q _ _ _ g A' r
    · cases e
  · cases e
/-- // by a positive number below 2 ^ 60 -/
def CDivW (i j : Int) : Prop := 0 < j ∧ j < 1152921504606846976
theorem op_fdivW {X : Cx} : OpR X (binaryOp .FloorDiv) (rI CDivW fun i j => .int (i / j)) := opI fun i j _ _ _ _ _ hc q => by
  have h1 : (0 : Int) < j := hc.1
  have h2 : j < 1152921504606846976 := hc.2
  refine floordiv_int (by omega) (by rw [Int.fdiv_eq_ediv_of_nonneg i (by omega)]; exact q) (.inl (PyProof.noPylong_of_log2 ?_))
  have h3 : j.natAbs.log2 < 60 := (Nat.log2_lt (by omega)).mpr (by omega)
  omega
def divOk (i j : Int) : Bool := decide (0 < j) && decide (j < 1152921504606846976)
def semDiv : S2 := semI divOk fun i j => .int (i / j)
theorem sem_div {K : PySem.W.Frag} : SemR2 K (rI CDivW fun i j => .int (i / j)) semDiv := sem_I (fun i j h => by simpa [divOk, CDivW] using h) fun _ _ _ _ => rfl
def semMod : S2 := semI (fun _ j => decide (0 < j)) fun i j => .int (i % j)
theorem sem_mod {K : PySem.W.Frag} : SemR2 K (rI (fun _ j => 0 < j) fun i j => .int (i % j)) semMod := sem_I (fun i j h => by simpa using h) fun _ _ _ _ => rfl
def powOk (i j : Int) : Bool := decide (0 ≤ j) && decide (j ≤ 1000000) && decide (i.natAbs < 2 ^ 64)
def semPow : S2 := semI powOk fun i j => .int (i ^ j.toNat)
theorem sem_pow {K : PySem.W.Frag} : SemR2 K (rI CPow fun i j => .int (i ^ j.toNat)) semPow := sem_I (fun i j h => by simp [powOk] at h; exact ⟨h.1.1, h.1.2, h.2⟩) fun _ _ _ _ => rfl
def semLe : S2 := semI0 fun i j => .bl (decide (i ≤ j))
def semGt : S2 := semI0 fun i j => .bl (decide (j < i))
def semGe : S2 := semI0 fun i j => .bl (decide (j ≤ i))
def semLt : S2 := semI0 fun i j => .bl (decide (i < j))
theorem sem_le {K : PySem.W.Frag} : SemR2 K (rI0 fun i j => .bl (decide (i ≤ j))) semLe := sem_I0 fun _ _ _ _ => rfl
theorem sem_gt {K : PySem.W.Frag} : SemR2 K (rI0 fun i j => .bl (decide (j < i))) semGt := sem_I0 fun _ _ _ _ => rfl
theorem sem_lt {K : PySem.W.Frag} : SemR2 K (rI0 fun i j => .bl (decide (i < j))) semLt := sem_I0 fun _ _ _ _ => rfl
def mapO {β γ : Type} (f : β → Option γ) : List β → Option (List γ)
  | [] => some []
  | u :: r => (f u).bind fun d => (mapO f r).map fun ds => d :: ds
def toP (L : UH) : Nat → U → Option PyData
  | 0, _ => none
  | _ + 1, .non => some .none
  | _ + 1, .bl b => some (.bool b)
  | _ + 1, .int i => some (.int i)
  | _ + 1, .str x => some (.str x)
  | n + 1, .tup l => (mapO (toP L n) l).map .tuple
  | n + 1, .ref k => (seqAt L k).bind fun l => (mapO (toP L n) l).map .list
section
variable {X : Cx} {pins : List (Addr × Obj)} {σ : L2.St} {H : Hp} {s : Shared} {α : List Addr} {L : UH}
theorem toP_all {n : Nat} (ih : ∀ (u : U) (x : V) (v : Value) (d : PyData), RepU X.K H α u x → RelV x v → toP L n u = some d → ∃ as, Reads s.heap v d as) : ∀ (l : List U) (xs : List V) (vs : List Value) (ds : List PyData), RepL X.K H α l xs → Vals xs vs → mapO (toP L n) l = some ds → ∃ as, ReadsAll s.heap vs ds as
  | [], xs, vs, ds, r, hv, e => by
    unfold RepL at r; subst r; cases hv; cases e; exact ⟨_, .nil⟩
  | u :: l, xs, vs, ds, r, hv, e => by
    unfold RepL at r
    obtain ⟨x, xr, rfl, r1, r2⟩ := r
    cases hv with
    | cons h1 h2 =>
      obtain ⟨d, e1, e⟩ := Option.bind_eq_some_iff.mp e
      obtain ⟨dr, e2, e⟩ := Option.map_eq_some_iff.mp e
      subst e
      obtain ⟨as, q1⟩ := ih u x _ d r1 h1 e1
      obtain ⟨bs, q2⟩ := toP_all ih l xr _ dr r2 h2 e2
      exact ⟨_, .cons q1 q2⟩
theorem toP_ok (I : Inv X pins σ H s) (A : Abs X.K H α L) : ∀ (n : Nat) (u : U) (x : V) (v : Value) (d : PyData), RepU X.K H α u x → RelV x v → toP L n u = some d → ∃ as, Reads s.heap v d as
  | 0, _, _, _, _, _, _, e => by cases e
  | n + 1, u, x, v, d, r, hv, e => by
    cases u with
    | non => unfold RepU at r; subst r; cases hv; cases e; exact ⟨_, .none⟩
    | bl b => unfold RepU at r; subst r; cases hv; cases e; exact ⟨_, .bool b⟩
    | int i => unfold RepU at r; subst r; obtain ⟨t, rfl⟩ := hv; cases e; exact ⟨_, .int i t⟩
    | str y => unfold RepU at r; subst r; obtain ⟨t, rfl⟩ := hv; cases e; exact ⟨_, .str y t⟩
    | tup l =>
      unfold RepU at r
      obtain ⟨a, xs, rfl, sq, r⟩ := r
      cases hv
      unfold toP at e
      obtain ⟨ds, e1, e⟩ := Option.map_eq_some_iff.mp e
      subst e
      obtain ⟨its, hv, ⟨o, h1, h2, m, h3⟩, _⟩ := I.tuple sq
      obtain ⟨as, q⟩ := toP_all (toP_ok I A n) l xs its ds r hv e1
      exact ⟨_, .tuple h1 h2 h3 (by simpa using q)⟩
    | ref k =>
      unfold RepU at r
      obtain ⟨a, ea, rfl⟩ := r
      cases hv
      unfold toP at e
      obtain ⟨l, hl, e⟩ := Option.bind_eq_some_iff.mp e
      obtain ⟨ds, e1, e⟩ := Option.map_eq_some_iff.mp e
      subst e
      obtain ⟨a', xs, ea', sq, r⟩ := seqAt_ok A hl
      rw [ea] at ea'; cases ea'
      obtain ⟨its, hv, ⟨o, m, h1, h2, _, h3⟩, _⟩ := I.list sq
      obtain ⟨as, q⟩ := toP_all (toP_ok I A n) l xs its ds r hv e1
      exact ⟨_, .list h1 h2 h3 (by simpa using q)⟩
end
def eqP (u w : U) (L : UH) : Option Bool := (toP L 8 u).bind fun d => (toP L 8 w).bind fun e => if SeqAt.shaped d = true ∧ SeqAt.shaped e = true then some (PyData.eqv d e) else none
def rEqU (K : PySem.W.Frag) (neg : Bool) : R2 := fun x y H Q => ∃ α L u w b, Abs K H α L ∧ RepU K H α u x ∧ RepU K H α w y ∧ eqP u w L = some b ∧ Q (.bl (if neg then !b else b)) H
theorem op_eqU {X : Cx} (hu : X.A.units + 64 < cLine) : OpR X (compareOp .Eq) (rEqU X.K false) := by
  intro pins s σ H x y v u Q I rx ry h
  obtain ⟨α, L, a, b, k, A, ra, rb, e, q⟩ := h
  obtain ⟨d, e1, e⟩ := Option.bind_eq_some_iff.mp e
  obtain ⟨d2, e2, e⟩ := Option.bind_eq_some_iff.mp e
  split at e
  · rename_i hs
    cases e
    obtain ⟨as, q1⟩ := toP_ok I A 8 a x v d ra rx e1
    obtain ⟨bs, q2⟩ := toP_ok I A 8 b y u d2 rb ry e2
    exact eq_dataH q1 q2 hs.1 hs.2 hu ⟨.bl _, H, I, rfl, q⟩
  · cases e
theorem op_neU {X : Cx} (hu : X.A.units + 64 < cLine) : OpR X (compareOp .NotEq) (rEqU X.K true) := by
  intro pins s σ H x y v u Q I rx ry h
  obtain ⟨α, L, a, b, k, A, ra, rb, e, q⟩ := h
  obtain ⟨d, e1, e⟩ := Option.bind_eq_some_iff.mp e
  obtain ⟨d2, e2, e⟩ := Option.bind_eq_some_iff.mp e
  split at e
  · rename_i hs
    cases e
    obtain ⟨as, q1⟩ := toP_ok I A 8 a x v d ra rx e1
    obtain ⟨bs, q2⟩ := toP_ok I A 8 b y u d2 rb ry e2
    exact ne_dataH q1 q2 hs.1 hs.2 hu ⟨.bl _, H, I, rfl, q⟩
  · cases e
def semEq : S2 := fun u w L => (eqP u w L).map fun b => (.bl b, L)
def semNe : S2 := fun u w L => (eqP u w L).map fun b => (.bl (!b), L)
theorem sem_eq {K : PySem.W.Frag} : SemR2 K (rEqU K false) semEq := by
  intro H α L u w x y z L' Q A ru rw e q
  obtain ⟨b, e1, e⟩ := Option.map_eq_some_iff.mp e
  cases e
  exact ⟨α, _, u, w, b, A, ru, rw, e1, q _ H α (.refl _ _) A rfl⟩
theorem sem_ne {K : PySem.W.Frag} : SemR2 K (rEqU K true) semNe := by
  intro H α L u w x y z L' Q A ru rw e q
  obtain ⟨b, e1, e⟩ := Option.map_eq_some_iff.mp e
  cases e
  exact ⟨α, _, u, w, b, A, ru, rw, e1, q _ H α (.refl _ _) A rfl⟩
def semIs (neg : Bool) : S2 := fun u w L => match u, w with
  | .non, .non => some (.bl (!neg), L)
  | .bl a, .bl b => some (.bl (if neg then !(a == b) else a == b), L)
  | .int _, .non => some (.bl neg, L)
  | .bl _, .non => some (.bl neg, L)
  | .str _, .non => some (.bl neg, L)
  | .tup _, .non => some (.bl neg, L)
  | .ref _, .non => some (.bl neg, L)
  | _, _ => none
def isSome : U → Bool
  | .non => false
  | _ => true
def rIsU (neg : Bool) : R2 := fun x y H Q => (y = .non ∧ Q (.bl (if neg then !decide (x = .non) else decide (x = .non))) H) ∨ ∃ a b, x = .bl a ∧ y = .bl b ∧ Q (.bl (if neg then !(a == b) else a == b)) H
theorem op_isU {X : Cx} : OpR X (compareOp .Is) (rIsU false) := op_isN.or (by
  intro pins s σ H x y v u Q I rx ry h
  obtain ⟨a, b, rfl, rfl, q⟩ := h
  cases rx; cases ry
  exact is_bool ⟨.bl _, H, I, rfl, q⟩)
theorem sem_is {K : PySem.W.Frag} (neg : Bool) : SemR2 K (rIsU neg) (semIs neg) := by
  intro H α L u w x y z L' Q A ru rw e q
  unfold semIs at e
  have fin : ∀ (k : Bool), x ≠ .non → w = .non → some (U.bl neg, L) = some (z, L') → rIsU neg x y H Q := fun _ hx hw e' => by
    subst hw
    obtain ⟨rfl, rfl⟩ : U.bl neg = z ∧ L = L' := by simpa using e'
    unfold RepU at rw
    subst rw
    refine .inl ⟨rfl, ?_⟩
    rw [decide_eq_false hx]
    have : (if neg = true then !false else false) = neg := by cases neg <;> rfl
    rw [this]
    exact q _ H α (.refl _ _) A rfl
  split at e
  · cases e
    unfold RepU at ru rw
    subst ru; subst rw
    refine .inl ⟨rfl, ?_⟩
    have : (if neg = true then !decide (V.non = V.non) else decide (V.non = V.non)) = !neg := by cases neg <;> simp
    rw [this]
    exact q _ H α (.refl _ _) A rfl
  · cases e
    unfold RepU at ru rw
    exact .inr ⟨_, _, ru, rw, q _ H α (.refl _ _) A rfl⟩
  · unfold RepU at ru; subst ru; exact fin true (fun z => nomatch z) rfl e
  · unfold RepU at ru; subst ru; exact fin true (fun z => nomatch z) rfl e
  · unfold RepU at ru; subst ru; exact fin true (fun z => nomatch z) rfl e
  · unfold RepU at ru; obtain ⟨_, _, rfl, _⟩ := ru; exact fin true (fun z => nomatch z) rfl e
  · unfold RepU at ru; obtain ⟨_, _, rfl⟩ := ru; exact fin true (fun z => nomatch z) rfl e
  · cases e
end MR

set_option Elab.async false
set_option linter.all false
set_option maxRecDepth 100000
set_option maxHeartbeats 1000000
namespace MR
open PySem PySem.Spec PyProof.Rows L2
theorem RepL.atI {K : PySem.W.Frag} {H : Hp} {α : List Addr} {us : List U} {xs : List V} {i : Int} {u : U} (r : RepL K H α us xs) (h : L2.atI us i = some u) : ∃ x, L2.atI xs i = some x ∧ RepU K H α u x := by
  unfold L2.atI at h ⊢
  obtain ⟨j, e1, e2⟩ := Option.bind_eq_some_iff.mp h
  obtain ⟨x, e3, r3⟩ := r.get e2
  exact ⟨x, by rw [← r.length, e1]; exact e3, r3⟩
def semIx : S2 := fun u w L => match u, w with
  | .tup l, .int i => (L2.atI l i).map fun z => (z, L)
  | .ref n, .int i => (seqAt L n).bind fun l => (L2.atI l i).map fun z => (z, L)
  | .str x, .int i => if small x.length = true then (L2.atI x.cps.toList i).map fun c => (.str ⟨#[c]⟩, L) else none
  | _, _ => none
theorem sem_ix {K : PySem.W.Frag} : SemR2 K (rIx K) semIx := by
  intro H α L u w x y z L' Q A ru rw e q
  unfold semIx at e
  split at e
  · obtain ⟨c, e1, e⟩ := Option.map_eq_some_iff.mp e
    cases e
    unfold RepU at ru rw
    obtain ⟨a, xs, rfl, sq, r⟩ := ru
    obtain ⟨v, e2, r2⟩ := r.atI e1
    exact .inr (.inl ⟨a, xs, _, v, rfl, rw, sq, e2, q _ H α (.refl _ _) A r2⟩)
  · obtain ⟨l, hl, e⟩ := Option.bind_eq_some_iff.mp e
    obtain ⟨c, e1, e⟩ := Option.map_eq_some_iff.mp e
    cases e
    obtain ⟨a, xs, ea, sq, r⟩ := seqAt_ok A hl
    obtain ⟨a', ea', rfl⟩ := ru.ref_of A
    rw [ea] at ea'; cases ea'
    unfold RepU at rw
    obtain ⟨v, e2, r2⟩ := r.atI e1
    exact .inl ⟨a, xs, _, v, rfl, rw, sq, e2, q _ H α (.refl _ _) A r2⟩
  · split at e
    · rename_i hs
      obtain ⟨c, e1, e⟩ := Option.map_eq_some_iff.mp e
      cases e
      unfold RepU at ru rw
      exact .inr (.inr ⟨_, _, c, ru, rw, small_le hs, e1, q _ H α (.refl _ _) A rfl⟩)
    · cases e
  · cases e
def cutU (l : List U) (lo hi : Option Int) : List U := (l.drop (HT.sIx l.length 0 lo)).take (HT.sIx l.length l.length hi - HT.sIx l.length 0 lo)
theorem RepL.cut {K : PySem.W.Frag} {H : Hp} {α : List Addr} {us : List U} {xs : List V} (r : RepL K H α us xs) (lo hi : Option Int) : RepL K H α (cutU us lo hi) (cutV xs lo hi) := by
  unfold cutU cutV
  rw [r.length]
  exact (r.drop _).take _
def semSl : SS := fun u lo hi L => match u with
  | .tup l => if HT.sIx l.length 0 lo = 0 ∧ HT.sIx l.length l.length hi = l.length then none else some (.tup (cutU l lo hi), L)
  | .ref n => (seqAt L n).map fun l => (.ref L.length, L ++ [.lst (cutU l lo hi)])
  | _ => none
def rSlA (K : PySem.W.Frag) : V → Option Int → Option Int → Hp → VK → Prop := fun x lo hi H Q => rSlT K x lo hi H Q ∨ rSlL K x lo hi H Q
theorem sl_all {X : Cx} : SlR X (rSlA X.K) := sl_tup.or sl_list
theorem sem_sl {K : PySem.W.Frag} : SemSl K (rSlA K) semSl := by
  intro H α L u x lo hi z L' Q A ru e q
  unfold semSl at e
  split at e
  · split at e
    · cases e
    · rename_i hn
      cases e
      unfold RepU at ru
      obtain ⟨a, xs, rfl, sq, r⟩ := ru
      refine .inl ⟨a, xs, rfl, sq, by rw [← r.length]; exact hn, fun p hp => ?_⟩
      obtain ⟨g, A', r'⟩ := A.tup (r.cut lo hi) hp
      exact q _ _ α g A' r'
  · obtain ⟨l, hl, e⟩ := Option.map_eq_some_iff.mp e
    cases e
    obtain ⟨a, xs, ea, sq, r⟩ := seqAt_ok A hl
    obtain ⟨a', ea', rfl⟩ := ru.ref_of A
    rw [ea] at ea'; cases ea'
    refine .inr ⟨a, xs, rfl, sq, fun p hp => ?_⟩
    obtain ⟨g, A', r'⟩ := A.lst (r.cut lo hi) hp
    exact q _ _ _ g A' r'
  · cases e
def toV : U → Option V
  | .non => some .non
  | .bl b => some (.bl b)
  | .int i => some (.int i)
  | .str x => some (.str x)
  | _ => none
theorem toV_ok {K : PySem.W.Frag} {H : Hp} {α : List Addr} {u : U} {x y : V} (r : RepU K H α u x) (h : toV u = some y) : x = y ∧ flatV y = true := by
  cases u <;> simp only [toV] at h <;> first
    | (cases h; unfold RepU at r; exact ⟨r, rfl⟩)
    | cases h
theorem toVs_ok {K : PySem.W.Frag} {H : Hp} {α : List Addr} : ∀ {us : List U} {xs ys : List V}, RepL K H α us xs → mapO toV us = some ys → xs = ys ∧ ys.all flatV = true
  | [], xs, ys, r, h => by unfold RepL at r; subst r; cases h; exact ⟨rfl, rfl⟩
  | u :: us, xs, ys, r, h => by
    unfold RepL at r
    obtain ⟨x, xr, rfl, r1, r2⟩ := r
    obtain ⟨y, e1, h⟩ := Option.bind_eq_some_iff.mp h
    obtain ⟨yr, e2, h⟩ := Option.map_eq_some_iff.mp h
    subst h
    obtain ⟨rfl, h1⟩ := toV_ok r1 e1
    obtain ⟨rfl, h2⟩ := toVs_ok r2 e2
    exact ⟨rfl, by simp [h1, h2]⟩
def semIn (neg : Bool) : S2 := fun u w L => match w with
  | .tup l => (toV u).bind fun x => (mapO toV l).map fun xs => (.bl (if neg then !inV x xs else inV x xs), L)
  | .ref n => (seqAt L n).bind fun l => (toV u).bind fun x => (mapO toV l).map fun xs => (.bl (if neg then !inV x xs else inV x xs), L)
  | .str j => match u with
    | .str i => some (.bl (if neg then !(!(Builtin.Str.occurrences j i 0 j.length 1).isEmpty) else !(Builtin.Str.occurrences j i 0 j.length 1).isEmpty), L)
    | _ => none
  | _ => none
def rInA (K : PySem.W.Frag) (neg : Bool) : R2 := fun x y H Q => rIn K neg x y H Q ∨ ∃ i j, x = .str i ∧ y = .str j ∧ Q (.bl (if neg then !(!(Builtin.Str.occurrences j i 0 j.length 1).isEmpty) else !(Builtin.Str.occurrences j i 0 j.length 1).isEmpty)) H
theorem op_inA {X : Cx} : OpR X (compareOp .In) (rInA X.K false) := op_in_seq.or op_in_str
theorem op_notInA {X : Cx} : OpR X (compareOp .NotIn) (rInA X.K true) := op_notIn_seq.or op_notIn_str
theorem sem_in {K : PySem.W.Frag} (neg : Bool) : SemR2 K (rInA K neg) (semIn neg) := by
  intro H α L u w x y z L' Q A ru rw e q
  unfold semIn at e
  split at e
  · obtain ⟨x', e1, e⟩ := Option.bind_eq_some_iff.mp e
    obtain ⟨xs, e2, e⟩ := Option.map_eq_some_iff.mp e
    cases e
    unfold RepU at rw
    obtain ⟨a, ys, rfl, sq, r⟩ := rw
    obtain ⟨rfl, f1⟩ := toV_ok ru e1
    obtain ⟨rfl, f2⟩ := toVs_ok r e2
    exact .inl ⟨a, ys, rfl, .inr sq, f1, f2, q _ H α (.refl _ _) A rfl⟩
  · obtain ⟨l, hl, e⟩ := Option.bind_eq_some_iff.mp e
    obtain ⟨x', e1, e⟩ := Option.bind_eq_some_iff.mp e
    obtain ⟨xs, e2, e⟩ := Option.map_eq_some_iff.mp e
    cases e
    obtain ⟨a, ys, ea, sq, r⟩ := seqAt_ok A hl
    obtain ⟨a', ea', rfl⟩ := rw.ref_of A
    rw [ea] at ea'; cases ea'
    obtain ⟨rfl, f1⟩ := toV_ok ru e1
    obtain ⟨rfl, f2⟩ := toVs_ok r e2
    exact .inl ⟨a, ys, rfl, .inl sq, f1, f2, q _ H α (.refl _ _) A rfl⟩
  · split at e
    · cases e
      unfold RepU at ru rw
      exact .inr ⟨_, _, ru, rw, q _ H α (.refl _ _) A rfl⟩
    · cases e
  · cases e
def lenU (u : U) (L : UH) : Option Nat := match u with
  | .str y => if small y.length = true then some y.length else none
  | .tup l => some l.length
  | .ref n => (seqAt L n).map List.length
  | _ => none
def semLen : SC := fun us L => match us with
  | [u] => (lenU u L).map fun (n : Nat) => (U.int (n : Int), L)
  | _ => none
theorem sem_len {K : PySem.W.Frag} : SemC K (fun xs H Q => ∃ x n, xs = [x] ∧ LenV K x H n ∧ Q (.int n) H) semLen := by
  intro H α L us xs z L' Q A r e q
  unfold semLen at e
  split at e
  · rename_i u
    obtain ⟨n, e1, e⟩ := Option.map_eq_some_iff.mp e
    cases e
    obtain ⟨x, rfl, rx⟩ := r.one
    refine ⟨x, n, rfl, ?_, q _ H α (.refl _ _) A rfl⟩
    cases u with
    | str y =>
      unfold lenU at e1
      simp only at e1
      split at e1
      · rename_i hs; cases e1; unfold RepU at rx; subst rx; exact ⟨small_le hs, rfl⟩
      · cases e1
    | tup l =>
      cases e1
      unfold RepU at rx
      obtain ⟨a, ys, rfl, sq, r2⟩ := rx
      exact .inr ⟨ys, sq, r2.length⟩
    | ref k =>
      obtain ⟨l, hl, e2⟩ := Option.map_eq_some_iff.mp e1
      subst e2
      obtain ⟨a, ys, ea, sq, r2⟩ := seqAt_ok A hl
      obtain ⟨a', ea', rfl⟩ := rx.ref_of A
      rw [ea] at ea'; cases ea'
      exact .inl ⟨ys, sq, r2.length⟩
    | _ => cases e1
  · cases e
def toI : U → Option Int
  | .int i => some i
  | _ => none
theorem toIs_ok {K : PySem.W.Frag} {H : Hp} {α : List Addr} : ∀ {us : List U} {xs : List V} {ns : List Int}, RepL K H α us xs → mapO toI us = some ns → xs = ns.map V.int
  | [], xs, ys, r, h => by unfold RepL at r; subst r; cases h; rfl
  | u :: us, xs, ys, r, h => by
    unfold RepL at r
    obtain ⟨x, xr, rfl, r1, r2⟩ := r
    obtain ⟨y, e1, h⟩ := Option.bind_eq_some_iff.mp h
    obtain ⟨yr, e2, h⟩ := Option.map_eq_some_iff.mp h
    subst h
    cases u <;> simp only [toI] at e1 <;> first
      | (cases e1; unfold RepU at r1; subst r1; rw [toIs_ok r2 e2]; rfl)
      | cases e1
def maxI : List Int → Int
  | [] => 0
  | [a] => a
  | a :: r => max a (maxI r)
def minI : List Int → Int
  | [] => 0
  | [a] => a
  | a :: r => min a (minI r)
theorem maxI_is : ∀ (ns : List Int) (M : Int), M ∈ ns → (∀ a, a ∈ ns → a ≤ M) → maxI ns = M
  | [], M, h, _ => by cases h
  | [a], M, h, _ => by simp at h; exact h.symm
  | a :: b :: r, M, h, hm => by
    show max a (maxI (b :: r)) = M
    by_cases hb : M ∈ b :: r
    · rw [maxI_is (b :: r) M hb fun c hc => hm c (List.mem_cons_of_mem _ hc)]
      have := hm a (List.mem_cons_self ..)
      omega
    · rcases List.mem_cons.mp h with rfl | h
      · have hle : ∀ (l : List Int), l ≠ [] → (∀ c, c ∈ l → c ≤ M) → maxI l ≤ M := by
          intro l
          induction l with
          | nil => intro h; exact absurd rfl h
          | cons c t ih =>
            intro _ hc
            cases t with
            | nil => exact hc c (List.mem_cons_self ..)
            | cons d t =>
              have h1 := hc c (List.mem_cons_self ..)
              have h2 := ih (by simp) fun e he => hc e (List.mem_cons_of_mem _ he)
              show max c (maxI (d :: t)) ≤ M
              omega
        have := hle (b :: r) (by simp) fun c hc => hm c (List.mem_cons_of_mem _ hc)
        omega
      · exact absurd h hb
theorem minI_is : ∀ (ns : List Int) (M : Int), M ∈ ns → (∀ a, a ∈ ns → M ≤ a) → minI ns = M
  | [], M, h, _ => by cases h
  | [a], M, h, _ => by simp at h; exact h.symm
  | a :: b :: r, M, h, hm => by
    show min a (minI (b :: r)) = M
    by_cases hb : M ∈ b :: r
    · rw [minI_is (b :: r) M hb fun c hc => hm c (List.mem_cons_of_mem _ hc)]
      have := hm a (List.mem_cons_self ..)
      omega
    · rcases List.mem_cons.mp h with rfl | h
      · have hle : ∀ (l : List Int), l ≠ [] → (∀ c, c ∈ l → M ≤ c) → M ≤ minI l := by
          intro l
          induction l with
          | nil => intro h; exact absurd rfl h
          | cons c t ih =>
            intro _ hc
            cases t with
            | nil => exact hc c (List.mem_cons_self ..)
            | cons d t =>
              have h1 := hc c (List.mem_cons_self ..)
              have h2 := ih (by simp) fun e he => hc e (List.mem_cons_of_mem _ he)
              show M ≤ min c (minI (d :: t))
              omega
        have := hle (b :: r) (by simp) fun c hc => hm c (List.mem_cons_of_mem _ hc)
        omega
      · exact absurd h hb
section
variable {X : Cx}
theorem call_sumL (hc : X.calm = true) : CallR X (.builtin "sum") (fun xs H Q => ∃ (p : Addr) (ns : List Int), xs = [.ref p] ∧ SqL X.K H p (ns.map V.int) ∧ Q (.int ns.sum) H) := by
  intro pins s σ H xs us Q I r h
  obtain ⟨p, ns, rfl, hq, q⟩ := h
  obtain ⟨u, rfl, rx⟩ := vals1 r
  cases rx
  obtain ⟨its, r', pl, hz⟩ := I.list hq
  have hi : IntsAre its ns := intsAre_of r'
  obtain ⟨m, F⟩ := I.fr
  obtain ⟨xs, hx⟩ := hi.allInts.items
  have hl' : s.heap.IsList p (intItems xs) := hx ▸ pl.isList
  refine sum_intListG (I.ok.hd hc) hl' fun h' tk t' hk => ?_
  have e1 : ns = xs.toList.map (·.1) := by
    rw [← nums_intItems, ← hx]
    exact (show numsOf its.toArray.toList = ns from hi.numsOf).symm
  have e2 : preSum (numAt xs) xs.size = ns.sum := by
    rw [preSum_eq, List.take_of_length_le (by simp), e1]
  rw [e2]
  exact ⟨.int ns.sum, H, I.kept hk, ⟨_, rfl⟩, q⟩
theorem call_sumT (hc : X.calm = true) : CallR X (.builtin "sum") (fun xs H Q => ∃ (p : Addr) (ns : List Int), xs = [.ref p] ∧ SqT X.K H p (ns.map V.int) ∧ Q (.int ns.sum) H) := by
  intro pins s σ H xs us Q I r h
  obtain ⟨p, ns, rfl, hq, q⟩ := h
  obtain ⟨u, rfl, rx⟩ := vals1 r
  cases rx
  obtain ⟨its, r', pl, hz⟩ := I.tuple hq
  have hi : IntsAre its ns := intsAre_of r'
  obtain ⟨xs, hx⟩ := hi.allInts.items
  have hl' : s.heap.IsTuple p (intItems xs) := hx ▸ pl
  refine PySem.W.ktm_sumG (I.ok.hd hc) hl' fun h' tk t' hk => ?_
  have e1 : ns = xs.toList.map (·.1) := by
    rw [← nums_intItems, ← hx]
    exact (show numsOf its.toArray.toList = ns from hi.numsOf).symm
  have e2 : preSum (numAt xs) xs.size = ns.sum := by
    rw [preSum_eq, List.take_of_length_le (by simp), e1]
  rw [e2]
  exact ⟨.int ns.sum, H, I.kept hk, ⟨_, rfl⟩, q⟩
theorem call_sumA (hc : X.calm = true) : CallR X (.builtin "sum") (fun xs H Q => (∃ (p : Addr) (ns : List Int), xs = [.ref p] ∧ SqL X.K H p (ns.map V.int) ∧ Q (.int ns.sum) H) ∨ ∃ (p : Addr) (ns : List Int), xs = [.ref p] ∧ SqT X.K H p (ns.map V.int) ∧ Q (.int ns.sum) H) := (call_sumL hc).or (call_sumT hc)
theorem call_maxL (hc : X.calm = true) : CallR X (.builtin "max") (fun xs H Q => ∃ (p : Addr) (ns : List Int), xs = [.ref p] ∧ SqL X.K H p (ns.map V.int) ∧ 0 < ns.length ∧ Q (.int (maxI ns)) H) := by
  intro pins s σ H xs us Q I r h
  obtain ⟨p, ns, rfl, hq, hne, q⟩ := h
  obtain ⟨u, rfl, rx⟩ := vals1 r
  cases rx
  obtain ⟨its, r', pl, hz⟩ := I.list hq
  have hi : IntsAre its ns := intsAre_of r'
  obtain ⟨xs, e⟩ := hi.allInts.items
  have hns : ns = xs.toList.map (·.1) := by rw [← hi.numsOf, ← nums_intItems, ← e]
  have hsz : 0 < xs.size := by
    have h3 := hne; rw [hns, List.length_map, Array.length_toList] at h3; exact h3
  have hl' : s.heap.IsList p (intItems xs) := e ▸ pl.isList
  refine max_intList (I.ok.hd hc) hl' hsz fun v h' tk hv hk => ?_
  obtain ⟨t, rfl⟩ := intItems_at hv
  obtain ⟨h1, h2⟩ := argBest_gt (numAt xs) (xs.size - 1)
  have hM := maxI_is ns (numAt xs (argBest (fun i j => decide (numAt xs i > numAt xs j)) (xs.size - 1))) (by rw [hns, numAt_eq]; exact getD_mem (by rw [List.length_map, Array.length_toList]; omega)) (fun a ha => by
    rw [hns] at ha
    obtain ⟨j, hj, rfl⟩ := mem_getD ha
    rw [List.length_map, Array.length_toList] at hj
    rw [← numAt_eq]; exact h2 j (by omega))
  rw [hM] at q
  exact ⟨.int _, H, I.kept hk, ⟨_, rfl⟩, q⟩
theorem call_minL (hc : X.calm = true) : CallR X (.builtin "min") (fun xs H Q => ∃ (p : Addr) (ns : List Int), xs = [.ref p] ∧ SqL X.K H p (ns.map V.int) ∧ 0 < ns.length ∧ Q (.int (minI ns)) H) := by
  intro pins s σ H xs us Q I r h
  obtain ⟨p, ns, rfl, hq, hne, q⟩ := h
  obtain ⟨u, rfl, rx⟩ := vals1 r
  cases rx
  obtain ⟨its, r', pl, hz⟩ := I.list hq
  have hi : IntsAre its ns := intsAre_of r'
  obtain ⟨xs, e⟩ := hi.allInts.items
  have hns : ns = xs.toList.map (·.1) := by rw [← hi.numsOf, ← nums_intItems, ← e]
  have hsz : 0 < xs.size := by
    have h3 := hne; rw [hns, List.length_map, Array.length_toList] at h3; exact h3
  have hl' : s.heap.IsList p (intItems xs) := e ▸ pl.isList
  refine min_intList (I.ok.hd hc) hl' hsz fun v h' tk hv hk => ?_
  obtain ⟨t, rfl⟩ := intItems_at hv
  obtain ⟨h1, h2⟩ := argBest_lt (numAt xs) (xs.size - 1)
  have hM := minI_is ns (numAt xs (argBest (fun i j => decide (numAt xs i < numAt xs j)) (xs.size - 1))) (by rw [hns, numAt_eq]; exact getD_mem (by rw [List.length_map, Array.length_toList]; omega)) (fun a ha => by
    rw [hns] at ha
    obtain ⟨j, hj, rfl⟩ := mem_getD ha
    rw [List.length_map, Array.length_toList] at hj
    rw [← numAt_eq]; exact h2 j (by omega))
  rw [hM] at q
  exact ⟨.int _, H, I.kept hk, ⟨_, rfl⟩, q⟩
end
def semSum : SC := fun us L => match us with
  | [.ref n] => (seqAt L n).bind fun l => (mapO toI l).map fun ns => (.int ns.sum, L)
  | [.tup l] => (mapO toI l).map fun ns => (.int ns.sum, L)
  | _ => none
theorem refs_at {K : PySem.W.Frag} {H : Hp} {α : List Addr} {L : UH} {n : Nat} {l : List U} {x : V} (A : Abs K H α L) (hl : seqAt L n = some l) (rx : RepU K H α (.ref n) x) : ∃ a ys, x = .ref a ∧ SqL K H a ys ∧ RepL K H α l ys := by
  obtain ⟨a, ys, ea, sq, r2⟩ := seqAt_ok A hl
  obtain ⟨a', ea', rfl⟩ := rx.ref_of A
  rw [ea] at ea'; cases ea'
  exact ⟨a, ys, rfl, sq, r2⟩
theorem sem_sum {K : PySem.W.Frag} : SemC K (fun xs H Q => (∃ (p : Addr) (ns : List Int), xs = [.ref p] ∧ SqL K H p (ns.map V.int) ∧ Q (.int ns.sum) H) ∨ ∃ (p : Addr) (ns : List Int), xs = [.ref p] ∧ SqT K H p (ns.map V.int) ∧ Q (.int ns.sum) H) semSum := by
  intro H α L us xs z L' Q A r e q
  unfold semSum at e
  split at e
  · obtain ⟨l, hl, e⟩ := Option.bind_eq_some_iff.mp e
    obtain ⟨ns, e1, e⟩ := Option.map_eq_some_iff.mp e
    cases e
    obtain ⟨x, rfl, rx⟩ := r.one
    obtain ⟨a, ys, rfl, sq, r2⟩ := refs_at A hl rx
    rw [toIs_ok r2 e1] at sq
    exact .inl ⟨a, ns, rfl, sq, q _ H α (.refl _ _) A rfl⟩
  · obtain ⟨ns, e1, e⟩ := Option.map_eq_some_iff.mp e
    cases e
    obtain ⟨x, rfl, rx⟩ := r.one
    unfold RepU at rx
    obtain ⟨a, ys, rfl, sq, r2⟩ := rx
    rw [toIs_ok r2 e1] at sq
    exact .inr ⟨a, ns, rfl, sq, q _ H α (.refl _ _) A rfl⟩
  · cases e
def semMM (g2 : Int → Int → Int) (gl : List Int → Int) : SC := fun us L => match us with
  | [.int i, .int j] => some (.int (g2 i j), L)
  | [.ref n] => (seqAt L n).bind fun l => (mapO toI l).bind fun ns => if ns.isEmpty = true then none else some (.int (gl ns), L)
  | _ => none
def semMax : SC := semMM (fun i j => if j > i then j else i) maxI
def semMin : SC := semMM (fun i j => if j < i then j else i) minI
theorem sem_MM {K : PySem.W.Frag} {g2 : Int → Int → Int} {gl : List Int → Int} : SemC K (fun xs H Q => (∃ i j, xs = [.int i, .int j] ∧ Q (.int (g2 i j)) H) ∨ ∃ (p : Addr) (ns : List Int), xs = [.ref p] ∧ SqL K H p (ns.map V.int) ∧ 0 < ns.length ∧ Q (.int (gl ns)) H) (semMM g2 gl) := by
  intro H α L us xs z L' Q A r e q
  unfold semMM at e
  split at e
  · cases e
    obtain ⟨x, y, rfl, rx, ry⟩ := r.two
    unfold RepU at rx ry
    exact .inl ⟨_, _, by rw [rx, ry], q _ H α (.refl _ _) A rfl⟩
  · obtain ⟨l, hl, e⟩ := Option.bind_eq_some_iff.mp e
    obtain ⟨ns, e1, e⟩ := Option.bind_eq_some_iff.mp e
    split at e
    · cases e
    · rename_i hne
      cases e
      obtain ⟨x, rfl, rx⟩ := r.one
      obtain ⟨a, ys, rfl, sq, r2⟩ := refs_at A hl rx
      rw [toIs_ok r2 e1] at sq
      exact .inr ⟨a, ns, rfl, sq, by cases ns <;> simp_all, q _ H α (.refl _ _) A rfl⟩
  · cases e
theorem call_maxA {X : Cx} (hc : X.calm = true) : CallR X (.builtin "max") (fun xs H Q => (∃ i j, xs = [.int i, .int j] ∧ Q (.int (if j > i then j else i)) H) ∨ ∃ (p : Addr) (ns : List Int), xs = [.ref p] ∧ SqL X.K H p (ns.map V.int) ∧ 0 < ns.length ∧ Q (.int (maxI ns)) H) := (call_max2 hc).or (call_maxL hc)
theorem call_minA {X : Cx} (hc : X.calm = true) : CallR X (.builtin "min") (fun xs H Q => (∃ i j, xs = [.int i, .int j] ∧ Q (.int (if j < i then j else i)) H) ∨ ∃ (p : Addr) (ns : List Int), xs = [.ref p] ∧ SqL X.K H p (ns.map V.int) ∧ 0 < ns.length ∧ Q (.int (minI ns)) H) := (call_min2 hc).or (call_minL hc)
theorem sem_max {K : PySem.W.Frag} : SemC K (fun xs H Q => (∃ i j, xs = [.int i, .int j] ∧ Q (.int (if j > i then j else i)) H) ∨ ∃ (p : Addr) (ns : List Int), xs = [.ref p] ∧ SqL K H p (ns.map V.int) ∧ 0 < ns.length ∧ Q (.int (maxI ns)) H) semMax := sem_MM
theorem sem_min {K : PySem.W.Frag} : SemC K (fun xs H Q => (∃ i j, xs = [.int i, .int j] ∧ Q (.int (if j < i then j else i)) H) ∨ ∃ (p : Addr) (ns : List Int), xs = [.ref p] ∧ SqL K H p (ns.map V.int) ∧ 0 < ns.length ∧ Q (.int (minI ns)) H) semMin := sem_MM
def semAbs : SC := fun us L => match us with
  | [.int i] => some (.int (if i < 0 then -i else i), L)
  | _ => none
theorem sem_abs {K : PySem.W.Frag} : SemC K (fun xs H Q => ∃ i, xs = [.int i] ∧ Q (.int (if i < 0 then -i else i)) H) semAbs := by
  intro H α L us xs z L' Q A r e q
  unfold semAbs at e
  split at e
  · cases e
    obtain ⟨x, rfl, rx⟩ := r.one
    unfold RepU at rx
    exact ⟨_, by rw [rx], q _ H α (.refl _ _) A rfl⟩
  · cases e
def semInt : SC := fun us L => match us with
  | [.int i] => some (.int i, L)
  | [.bl k] => some (.int (if k then 1 else 0), L)
  | _ => none
theorem sem_int {K : PySem.W.Frag} : SemC K (fun xs H Q => (∃ i, xs = [.int i] ∧ Q (.int i) H) ∨ ∃ k, xs = [.bl k] ∧ Q (.int (if k then 1 else 0)) H) semInt := by
  intro H α L us xs z L' Q A r e q
  unfold semInt at e
  split at e
  · cases e
    obtain ⟨x, rfl, rx⟩ := r.one
    unfold RepU at rx
    exact .inl ⟨_, by rw [rx], q _ H α (.refl _ _) A rfl⟩
  · cases e
    obtain ⟨x, rfl, rx⟩ := r.one
    unfold RepU at rx
    exact .inr ⟨_, by rw [rx], q _ H α (.refl _ _) A rfl⟩
  · cases e
def semList : SC := fun us L => match us with
  | [.ref n] => (seqAt L n).map fun l => (.ref L.length, L ++ [.lst l])
  | [.tup l] => some (.ref L.length, L ++ [.lst l])
  | _ => none
theorem sem_list {K : PySem.W.Frag} : SemC K (fun xs H Q => ∃ p ys, xs = [.ref p] ∧ (SqL K H p ys ∨ SqT K H p ys) ∧ ∀ l, H l = none → Q (.ref l) (upd H l (.lst ys))) semList := by
  intro H α L us xs z L' Q A r e q
  unfold semList at e
  split at e
  · obtain ⟨l, hl, e⟩ := Option.map_eq_some_iff.mp e
    cases e
    obtain ⟨x, rfl, rx⟩ := r.one
    obtain ⟨a, ys, rfl, sq, r2⟩ := refs_at A hl rx
    refine ⟨a, ys, rfl, .inl sq, fun p hp => ?_⟩
    obtain ⟨g, A', r'⟩ := A.lst r2 hp
    exact q _ _ _ g A' r'
  · cases e
    obtain ⟨x, rfl, rx⟩ := r.one
    unfold RepU at rx
    obtain ⟨a, ys, rfl, sq, r2⟩ := rx
    refine ⟨a, ys, rfl, .inr sq, fun p hp => ?_⟩
    obtain ⟨g, A', r'⟩ := A.lst r2 hp
    exact q _ _ _ g A' r'
  · cases e
def semTuple : SC := fun us L => match us with
  | [.ref n] => (seqAt L n).map fun l => (.tup l, L)
  | [.tup l] => some (.tup l, L)
  | _ => none
theorem sem_tuple {K : PySem.W.Frag} : SemC K (fun xs H Q => ∃ p ys, xs = [.ref p] ∧ ((SqL K H p ys ∧ ∀ l, H l = none → Q (.ref l) (upd H l (.tup ys))) ∨ (SqT K H p ys ∧ Q (.ref p) H))) semTuple := by
  intro H α L us xs z L' Q A r e q
  unfold semTuple at e
  split at e
  · obtain ⟨l, hl, e⟩ := Option.map_eq_some_iff.mp e
    cases e
    obtain ⟨x, rfl, rx⟩ := r.one
    obtain ⟨a, ys, rfl, sq, r2⟩ := refs_at A hl rx
    refine ⟨a, ys, rfl, .inl ⟨sq, fun p hp => ?_⟩⟩
    obtain ⟨g, A', r'⟩ := A.tup r2 hp
    exact q _ _ _ g A' r'
  · cases e
    obtain ⟨x, rfl, rx⟩ := r.one
    have rx' := rx
    unfold RepU at rx
    obtain ⟨a, ys, rfl, sq, r2⟩ := rx
    exact ⟨a, ys, rfl, .inr ⟨sq, q _ H α (.refl _ _) A rx'⟩⟩
  · cases e
def semAppend : SM := fun u us L => match u, us with
  | .ref n, [y] => (lstAt L n).bind fun l => if decide (l.length < sizeLine) = true then some (.non, L.set n (.lst (l ++ [y]))) else none
  | _, _ => none
theorem ref_lst {K : PySem.W.Frag} {H : Hp} {α : List Addr} {L : UH} {n : Nat} {l : List U} {x : V} (A : Abs K H α L) (hl : lstAt L n = some l) (rx : RepU K H α (.ref n) x) : ∃ a ys, x = .ref a ∧ α[n]? = some a ∧ H a = some (.lst ys) ∧ RepL K H α l ys := by
  obtain ⟨a, ys, ea, sq, r2⟩ := lstAt_ok A hl
  obtain ⟨a', ea', rfl⟩ := rx.ref_of A
  rw [ea] at ea'; cases ea'
  exact ⟨a, ys, rfl, ea, sq, r2⟩
theorem sem_append {K : PySem.W.Frag} : SemM K rAppend semAppend := by
  intro H α L u us x xs z L' Q A ru r e q
  unfold semAppend at e
  split at e
  · obtain ⟨l, hl, e⟩ := Option.bind_eq_some_iff.mp e
    split at e
    · rename_i hs
      cases e
      obtain ⟨y, rfl, ry⟩ := r.one
      obtain ⟨a, ys, rfl, ea, h, r2⟩ := ref_lst A hl ru
      obtain ⟨g, A'⟩ := A.setL hl ea h (r2.append (.cons ry .nil))
      exact ⟨a, ys, y, rfl, rfl, h, by rw [← r2.length]; exact of_decide_eq_true hs, q _ _ _ g A' rfl⟩
    · cases e
  · cases e
def semPop : SM := fun u us L => match u, us with
  | .ref n, [.int i] => (lstAt L n).bind fun l => if -(2 ^ 63) ≤ i ∧ i < 2 ^ 63 then (seqIndex? i l.length).bind fun k => (l[k]?).map fun y => (y, L.set n (.lst (l.eraseIdx k))) else none
  | _, _ => none
theorem sem_pop {K : PySem.W.Frag} : SemM K rPopAt semPop := by
  intro H α L u us x xs z L' Q A ru r e q
  unfold semPop at e
  split at e
  · obtain ⟨l, hl, e⟩ := Option.bind_eq_some_iff.mp e
    split at e
    · rename_i hs
      obtain ⟨k, ek, e⟩ := Option.bind_eq_some_iff.mp e
      obtain ⟨y, ey, e⟩ := Option.map_eq_some_iff.mp e
      cases e
      obtain ⟨v, rfl, rv⟩ := r.one
      unfold RepU at rv
      subst rv
      obtain ⟨a, ys, rfl, ea, h, r2⟩ := ref_lst A hl ru
      obtain ⟨w, ew, rw⟩ := r2.get ey
      obtain ⟨g, A'⟩ := A.setL hl ea h (r2.erase k)
      exact ⟨a, ys, _, k, w, rfl, rfl, h, hs.1, hs.2, by rw [← r2.length]; exact ek, ew, q _ _ _ g A' (rw.mono g)⟩
    · cases e
  · cases e
def gSub (fo fi : FE) : FG := fun v δ L => (fo δ L).bind fun p => (fi δ p.2).bind fun q => match p.1, q.1 with
  | .ref n, .int k => (lstAt q.2 n).bind fun l => (ixN l.length k).map fun j => (δ, q.2.set n (.lst (l.set j v)))
  | _, _ => none
theorem pgf_sub {X : Cx} {o i : Expr} {fo fi : FE} {pos : Pos} (ho : PEF X o fo) (hi : PEF X i fi) (ha : ∀ v, assign (.Subscript o i pos) X.env v = (do let ov ← holding [v] (eval o X.env); let iv ← holding [v, ov] (eval i X.env); standAt pos; holding [v, ov, iv] (setItem ov iv v); release [v, ov, iv] []) := by intro _; rfl) : PGF X (.Subscript o i pos) (MR.gSub fo fi) := by
  refine PG.imp (pg_sub ho hi set_list ha) ?_
  rintro v σ H Q ⟨α, δ, L, u, A, S, r, δ', L', e, q⟩
  obtain ⟨⟨o', L1⟩, e1, e⟩ := Option.bind_eq_some_iff.mp e
  obtain ⟨⟨i', L2⟩, e2, e⟩ := Option.bind_eq_some_iff.mp e
  refine ⟨α, δ, L, A, S, o', L1, e1, fun x H1 α1 g1 A1 r1 => ⟨α1, δ, L1, A1, S.mono g1, i', L2, e2, fun y H2 α2 g2 A2 r2 => ?_⟩⟩
  simp only at e
  split at e
  · obtain ⟨l, hl, e⟩ := Option.bind_eq_some_iff.mp e
    obtain ⟨j, ej, e⟩ := Option.map_eq_some_iff.mp e
    cases e
    unfold RepU at r2
    subst r2
    obtain ⟨a, ys, rfl, ea, h, r3⟩ := ref_lst A2 hl (r1.mono g2)
    obtain ⟨g, A'⟩ := A2.setL hl ea h (r3.set ((r.mono g1).mono g2) j)
    exact ⟨a, ys, _, j, rfl, rfl, h, by rw [← r3.length]; exact ej, q _ _ _ (g1.trans (g2.trans g)) A' (((S.mono g1).mono g2).mono g)⟩
  · cases e
end MR

set_option Elab.async false
set_option linter.all false
set_option maxRecDepth 100000
set_option maxHeartbeats 1000000
namespace MR
open PySem PySem.Spec PyProof.Rows L2
def tyName (u : U) (L : UH) : Option String := match u with
  | .non => some "NoneType"
  | .bl _ => some "bool"
  | .int _ => some "int"
  | .str _ => some "str"
  | .tup _ => some "tuple"
  | .ref n => match L[n]? with
    | some (.lst _) => some "list"
    | some (.ro _) => some "list"
    | some (.dic _) => some "dict"
    | _ => none
def isT (t c : String) : Bool := t == c || (t == "bool" && c == "int")
def tyNames : List String := ["NoneType", "bool", "int", "str", "tuple", "list", "dict"]
def Kit (K : PySem.W.Frag) (c : String) : Prop := ∀ t ∈ tyNames, PySem.W.kitOne K (.type t) (.type c) = some (isT t c)
theorem kit_of {K : PySem.W.Frag} {c : String} (h1 : PySem.W.kitOne K (.type "NoneType") (.type c) = some (isT "NoneType" c)) (h2 : PySem.W.kitOne K (.type "bool") (.type c) = some (isT "bool" c)) (h3 : PySem.W.kitOne K (.type "int") (.type c) = some (isT "int" c))
    (h4 : PySem.W.kitOne K (.type "str") (.type c) = some (isT "str" c)) (h5 : PySem.W.kitOne K (.type "tuple") (.type c) = some (isT "tuple" c)) (h6 : PySem.W.kitOne K (.type "list") (.type c) = some (isT "list" c)) (h7 : PySem.W.kitOne K (.type "dict") (.type c) = some (isT "dict" c)) : Kit K c := by
  intro t ht
  simp only [tyNames, List.mem_cons, List.not_mem_nil, or_false] at ht
  rcases ht with rfl | rfl | rfl | rfl | rfl | rfl | rfl <;> assumption
theorem kit_str {K : PySem.W.Frag} : Kit K "str" := kit_of (by with_unfolding_all rfl) (by with_unfolding_all rfl) (by with_unfolding_all rfl) (by with_unfolding_all rfl) (by with_unfolding_all rfl) (by with_unfolding_all rfl) (by with_unfolding_all rfl)
/-- the value is of that built-in type -/
def TyV (K : PySem.W.Frag) (H : Hp) (x : V) (t : String) : Prop := match x with
  | .non => t = "NoneType"
  | .bl _ => t = "bool"
  | .int _ => t = "int"
  | .str _ => t = "str"
  | .ref a => (t = "list" ∧ ∃ xs, SqL K H a xs) ∨ (t = "tuple" ∧ ∃ xs, SqT K H a xs) ∨ (t = "dict" ∧ ∃ kvs, H a = some (.dK kvs))
  | _ => False
theorem call_isi {X : Cx} {c : String} : CallR X (.builtin "isinstance") (fun xs H Q => ∃ x t b, xs = [x, .ty c] ∧ TyV X.K H x t ∧ PySem.W.kitOne X.K (.type t) (.type c) = some b ∧ Q (.bl b) H) := by
  intro pins s σ H xs us Q I r h
  obtain ⟨x, t, b, rfl, ty, e, q⟩ := h
  obtain ⟨u, w', rfl, rx, ry⟩ := vals2 r
  cases ry
  have fin : ∀ tk, EP X pins σ Q (.bool b) { s with toks := tk } := fun tk => ⟨.bl b, H, I.tok _, rfl, q⟩
  cases x with
  | non => cases ty; exact isinst_ok I rx (.non) e fin
  | bl y => cases ty; exact isinst_ok I rx (.bl y) e fin
  | int y => cases ty; exact isinst_ok I rx (.int y) e fin
  | str y => cases ty; exact isinst_ok I rx (.str y) e fin
  | ref a =>
    cases (show u = Value.ref a from rx)
    rcases ty with ⟨rfl, ys, sq⟩ | ⟨rfl, ys, sq⟩ | ⟨rfl, kvs, ea⟩
    · obtain ⟨its, _, ⟨o, n, h1, h2, _⟩, _⟩ := I.list sq
      exact PySem.W.kia_one PySem.W.kitx_list I.kIn ⟨o, h1, h2⟩ e (fun z => nomatch z) fin
    · obtain ⟨its, _, ⟨o, h1, h2, _⟩, _⟩ := I.tuple sq
      exact PySem.W.kia_one PySem.W.kitx_tuple I.kIn ⟨o, h1, h2⟩ e (fun z => nomatch z) fin
    · exact isinst_ok I rx (.dK ea) e fin
  | byt y => cases ty
  | flt y => cases ty
  | ty y => cases ty
theorem tyName_ok {K : PySem.W.Frag} {H : Hp} {α : List Addr} {L : UH} {u : U} {x : V} {t : String} (A : Abs K H α L) (r : RepU K H α u x) (h : tyName u L = some t) : TyV K H x t ∧ t ∈ tyNames := by
  cases u with
  | non => unfold RepU at r; subst r; cases h; exact ⟨rfl, by decide⟩
  | bl b => unfold RepU at r; subst r; cases h; exact ⟨rfl, by decide⟩
  | int i => unfold RepU at r; subst r; cases h; exact ⟨rfl, by decide⟩
  | str y => unfold RepU at r; subst r; cases h; exact ⟨rfl, by decide⟩
  | tup l => unfold RepU at r; obtain ⟨a, xs, rfl, sq, _⟩ := r; cases h; exact ⟨.inr (.inl ⟨rfl, xs, sq⟩), by decide⟩
  | ref n =>
    unfold RepU at r
    obtain ⟨a, ea, rfl⟩ := r
    unfold tyName at h
    simp only at h
    split at h
    · rename_i e; cases h; obtain ⟨xs, h, _⟩ := A.rep n a _ ea e; exact ⟨.inl ⟨rfl, xs, .of h⟩, by decide⟩
    · rename_i e; cases h; obtain ⟨xs, h, _⟩ := A.rep n a _ ea e; exact ⟨.inl ⟨rfl, xs, h.sq⟩, by decide⟩
    · rename_i e; cases h; obtain ⟨xs, h, _⟩ := A.rep n a _ ea e; exact ⟨.inr (.inr ⟨rfl, xs, h⟩), by decide⟩
    · cases h
def fIsi (c : String) (f : FE) : FE := fun δ L => (f δ L).bind fun p => (tyName p.1 p.2).map fun t => (.bl (isT t c), p.2)
theorem pf_isi {X : Cx} {e : Expr} {fe : FE} {p p2 pos : Pos} {cn : Str} {c : String} (hk : Kit X.K c) (he : PEF X e fe) (hg : Gl X "isinstance") (hm : X.mg "isinstance" = none) (hg2 : Gl X cn) (hm2 : X.mg cn = none) (hv2 : bootBuiltins cn = some (.type c))
    (hn : cn ≠ "__name__" := by decide) (hdb : (cn == ("__debug__" : Str)) = false := by decide)
    (hs : starEach [e, .Name cn p2] X.env = (false, eval e X.env) :: starEach [.Name cn p2] X.env := by rfl) (hs2 : starEach [.Name cn p2] X.env = (false, eval (.Name cn p2) X.env) :: starEach [] X.env := by rfl)
    (hpl : (backTo pos (starEach [.Name cn p2] X.env)).any (·.1) = false := by rfl) : PEF X (.Call (.Name "isinstance" p) [e, .Name cn p2] [] pos) (fIsi c fe) := by
  refine PE.imp (pe_callB (call_isi (c := c)) hg hm (by decide +kernel) (pa_cons he (pa_cons (pe_bltn hg2 hm2 hv2 (v := .ty c) rfl hn hdb) pa_nil hs2) hs) (by decide) (by decide) hs hpl) ?_
  rintro σ H Q ⟨α, δ, L, A, S, z, L3, e, q⟩
  obtain ⟨⟨u, L1⟩, e1, e⟩ := Option.bind_eq_some_iff.mp e
  obtain ⟨t, e2, e⟩ := Option.map_eq_some_iff.mp e
  cases e
  refine ⟨α, δ, L, A, S, u, _, e1, fun x H1 α1 g1 A1 r1 => ?_⟩
  obtain ⟨h1, h2⟩ := tyName_ok A1 r1 e2
  exact ⟨x, t, _, rfl, h1, hk t h2, q _ H1 α1 g1 A1 rfl⟩
end MR
namespace MR
open PySem PySem.Spec PyProof.Rows L2
/-- the law's call: one list of ints that is only read -/
theorem law_sp {K : PySem.W.Frag} {F : FN} {H : Hp} {a : Addr} {ns : List Int} {E : XK} (ho : Only H) (hS : SqL K H a (ns.map V.int)) (h : ∃ L', F [.ref 0] [.ro (ns.map U.int)] = some (.bl true, L')) : spF K 1 F [.ref a] H (fun v _ => v = .bl true) E := by
  obtain ⟨L', e⟩ := h
  have ro : RO K H a (ns.map V.int) := by
    rcases hS with (q | ⟨o, q⟩) | q
    · rcases ho a with z | ⟨o, xs, z⟩
      · rw [z] at q; cases q
      · rw [z] at q; cases q
    · exact .inl ⟨o, q⟩
    · exact .inr q
  refine ⟨[a], [.ro (ns.map U.int)], [.ref 0], ⟨rfl, fun i j b o o' e1 e2 e3 e4 => ?_, fun i b o e1 e2 => ?_⟩, .cons ?_ .nil, rfl, .bl true, L', e, fun v H' α' _ _ r => r⟩
  · cases i with
    | zero => cases j with
      | zero => exact .inl rfl
      | succ j => simp at e2
    | succ i => simp at e1
  · cases i with
    | zero => simp at e1 e2; subst e1; subst e2; exact ⟨_, ro, RepL.ints ns⟩
    | succ i => simp at e1
  · unfold RepU; exact ⟨a, rfl, rfl⟩
end MR

set_option Elab.async false
set_option linter.all false
set_option maxRecDepth 100000
set_option maxHeartbeats 2000000
namespace MR
open PySem PySem.Spec PyProof.Rows L2
theorem closure_of (env : PySem.Env) : ∀ (names : List (Str × NameKind)) (cs : List (Str × Addr)), (∀ y ∈ names, y.2 = .free → ∃ c, env.cells.lookup y.1 = some c) → (∀ x c, cs.lookup x = some c → env.cells.lookup x = some c) →
    ∃ cl : List (Str × Addr), (forIn names cs fun (x : Str × NameKind) r => if (x.2 == NameKind.free) = true then do let c ← cellOf env x.1; pure (ForInStep.yield ((x.1, c) :: r)) else pure (ForInStep.yield r) : Sem (List (Str × Addr))) = pure cl ∧
      (∀ x c, cl.lookup x = some c → env.cells.lookup x = some c) ∧ (∀ y ∈ names, y.2 = .free → ∃ c, cl.lookup y.1 = some c) ∧ ∀ x, (∃ c, cs.lookup x = some c) → ∃ c, cl.lookup x = some c
  | [], cs, _, h2 => ⟨cs, rfl, h2, (fun _ h => nomatch h), fun _ h => h⟩
  | (n, k) :: r, cs, h1, h2 => by
    cases hk : k == NameKind.free with
    | true =>
      have hk' : k = .free := by simpa using hk
      obtain ⟨c, hc⟩ := h1 (n, k) (List.mem_cons_self ..) hk'
      have look : ∀ x c', List.lookup x ((n, c) :: cs) = some c' → env.cells.lookup x = some c' := fun x c' e => by
        rw [List.lookup_cons] at e
        cases hx : x == n with
        | true => rw [hx] at e; simp at e; subst e; have : x = n := by simpa using hx
                  rw [this]; exact hc
        | false => rw [hx] at e; exact h2 x c' e
      obtain ⟨cl, e, p1, p2, p3⟩ := closure_of env r ((n, c) :: cs) (fun y hy => h1 y (List.mem_cons_of_mem _ hy)) look
      refine ⟨cl, ?_, p1, fun y hy hf => ?_, fun x hx => ?_⟩
      · rw [List.forIn_cons]
        have e0 : (cellOf env n : Sem Addr) = pure c := by unfold cellOf; rw [hc]
        simp only [hk, if_true, e0]
        exact e
      · rcases List.mem_cons.mp hy with rfl | hy
        · exact p3 n ⟨c, by simp⟩
        · exact p2 y hy hf
      · refine p3 x ?_
        rw [List.lookup_cons]
        cases hx' : x == n with
        | true => exact ⟨c, rfl⟩
        | false => exact hx
    | false =>
      obtain ⟨cl, e, p1, p2, p3⟩ := closure_of env r cs (fun y hy => h1 y (List.mem_cons_of_mem _ hy)) h2
      refine ⟨cl, ?_, p1, fun y hy hf => ?_, p3⟩
      · rw [List.forIn_cons]
        simp only [hk, Bool.false_eq_true, if_false]
        exact e
      · rcases List.mem_cons.mp hy with rfl | hy
        · rw [show k = NameKind.free from hf] at hk; cases hk
        · exact p2 y hy hf
theorem closureFor_ex {scope : Scope} {env : PySem.Env} (h : ∀ y ∈ scope.names, y.2 = .free → ∃ c, env.cells.lookup y.1 = some c) :
    ∃ cl, closureFor scope env = pure cl ∧ (∀ x c, cl.lookup x = some c → env.cells.lookup x = some c) ∧ ∀ y ∈ scope.names, y.2 = .free → ∃ c, cl.lookup y.1 = some c := by
  obtain ⟨cl, e, p1, p2, _⟩ := closure_of env scope.names [] h (fun x c e => by simp at e)
  refine ⟨cl, ?_, p1, p2⟩
  unfold closureFor
  show (forIn scope.names [] _ >>= fun cs => pure cs) = pure cl
  have : (forIn scope.names ([] : List (Str × Addr)) (fun (x : Str × NameKind) (r : List (Str × Addr)) => if (x.2 == NameKind.free) = true then do let c ← cellOf env x.1; pure (ForInStep.yield ((x.1, c) :: r)) else pure (ForInStep.yield r)) : Sem (List (Str × Addr))) >>= (fun cs => pure cs) = pure cl := by rw [e]; rfl
  exact this
end MR

set_option Elab.async false
set_option linter.all false
set_option maxRecDepth 100000
set_option maxHeartbeats 4000000
namespace MR
open PySem PySem.Spec PyProof.Rows L2
def blk (X : Cx) (scope : Scope) (cl : List (Str × Addr)) (C : Addr) (N' : List Str) (s2 : Shared) (H2 : Hp) (fp : List Addr) (pins : List (Addr × Obj)) : Cx :=
  { X with env := compEnvC scope cl C X.env, N := N', s₀ := s2, H₀ := H2, outer := X.stack, ex := fp, fn := fun _ => false, pn := X.pn ++ pins, xe := fun _ _ => False }
theorem HOk.adopt {P : Program} {w : World} {H : Hp} {h : Heap} {a : Addr} {o : HO} (x : HOk P w H h) (hn : H a = none) (new : ObjOk P w (upd H a o) h a o) : HOk P w (upd H a o) h := fun b u e => by
  by_cases hb : b = a
  · subst hb; rw [upd_same] at e; cases e; exact new
  · rw [upd_ne hb] at e
    exact (x b u e).stay (fun c v _ q => q) (fun c q => by rw [upd_ne (ne_of_none q hn)]; exact q) fun c xs q => by rw [upd_ne (ne_of_none q hn)]; exact q
theorem Un.adopt {fs ex : List Addr} {H H1 : Hp} {h h1 : Heap} {a : Addr} {o : HO} (u : Un fs ex H H1 h h1) (hn : H1 a = none) (ha : h.get? a = none) : Un fs ex H (upd H1 a o) h h1 where
  keep := u.keep
  slot := u.slot
  free := fun b ob q n hx => by
    have : b ≠ a := fun z => by rw [z, ha] at q; cases q
    rw [upd_ne this]; exact u.free b ob q n hx
  there := u.there
  tups := fun b xs q => by have q' := u.tups b xs q; rw [upd_ne (ne_of_none q' hn)]; exact q'
  frzs := fun b ob xs q => by have q' := u.frzs b ob xs q; rw [upd_ne (ne_of_none q' hn)]; exact q'
  tbls := fun b ps q => by
    obtain ⟨m, q'⟩ := u.tbls b ps q
    exact ⟨m, by rw [upd_ne (ne_of_none q' hn)]; exact q'⟩
structure CompSc (X : Cx) (scope : Scope) (N' : List Str) (ix : List (Option Nat)) : Prop where
  kind : scope.kind = .function
  cell : (scope.names.all fun y => y.2 != .cell) = true
  loc : (scope.names.all fun y => y.2 != .local || scope.names.lookup y.1 == some .local) = true
  free : (scope.names.all fun y => y.2 != .free || (X.env.kindOf y.1 == some .cell || X.env.kindOf y.1 == some .free)) = true
  ixs : ((N'.zip ix).all fun p => match p.2 with | none => true | some i => (X.N[i]? == some p.1) && (scope.names.lookup p.1 == some .free)) = true
  len : N'.length = ix.length
/-- the names' values at the block's entry -/
def inner (ix : List (Option Nat)) (σ : L2.St) : L2.St := ix.map fun o => o.bind fun i => (σ[i]?).join
/-- the turns of a comprehension, by values -/
def CLoop (J : It) (g : TG) (tt : TT) (te : TE) (σ' : L2.St) (H : Hp) (Fin : List V → Hp → Prop) : Prop := ∃ W : Nat → Nat → List V → L2.St → Hp → Prop, (∃ m, W 0 m [] σ' H) ∧ ∀ i m acc σ1 H1, W i m acc σ1 H1 →
  (J.stop i H1 ∧ Fin acc H1) ∨ (J.go i H1 ∧ ∀ x H3, J.yld i H1 x H3 → g x σ1 H3 fun σ2 H4 => tt σ2 H4 fun b H5 =>
    if b = true then te σ2 H5 fun y H6 => acc.length < sizeLine ∧ ∃ m', m' < m ∧ W (i + 1) m' (acc ++ [y]) σ2 H6 else ∃ m', m' < m ∧ W (i + 1) m' acc σ2 H5)
section
variable {X : Cx} {scope : Scope} {N' : List Str} {ix : List (Option Nat)} {pins : List (Addr × Obj)} {σ : L2.St} {H2 : Hp} {s2 : Shared} {cl : List (Str × Addr)} {fp : List Addr}
theorem lookup_mem {β : Type} {x : Str} {v : β} : ∀ {l : List (Str × β)}, l.lookup x = some v → (x, v) ∈ l
  | [], h => by simp at h
  | (n, k) :: r, h => by
    rw [List.lookup_cons] at h
    cases hx : x == n with
    | true => rw [hx] at h; simp at h; have : x = n := by simpa using hx
              subst this; subst h; exact List.mem_cons_self ..
    | false => rw [hx] at h; exact List.mem_cons_of_mem _ (lookup_mem h)
theorem lookup_relabel {env : PySem.Env} {x : Str} : ∀ {names : List (Str × NameKind)} {k : NameKind}, (names.map fun (n, k) => if (k == NameKind.free && env.scope.kind == .function && env.kindOf n == some .cell) then (n, NameKind.cell) else (n, k)).lookup x = some k →
    names.lookup x = some k ∨ (names.lookup x = some .free ∧ k = .cell)
  | [], k, h => by simp at h
  | (n, k') :: r, k, h => by
    have ih := @lookup_relabel env x r k
    rw [List.map_cons] at h
    cases hx : x == n with
    | true =>
      rw [List.lookup_cons, hx]
      simp only at h ⊢
      split at h
      · rename_i hc
        rw [List.lookup_cons, hx] at h
        simp at h
        simp only [Bool.and_eq_true] at hc
        have : k' = .free := by simpa using hc.1.1
        subst this
        exact .inr ⟨rfl, h.symm⟩
      · rw [List.lookup_cons, hx] at h
        exact .inl h
    | false =>
      rw [List.lookup_cons, hx]
      simp only at h ⊢
      split at h
      · rw [List.lookup_cons, hx] at h; exact ih h
      · rw [List.lookup_cons, hx] at h; exact ih h
theorem lookup_relabel_free {env : PySem.Env} {x : Str} : ∀ {names : List (Str × NameKind)}, names.lookup x = some .free →
    (names.map fun (n, k) => if (k == NameKind.free && env.scope.kind == .function && env.kindOf n == some .cell) then (n, NameKind.cell) else (n, k)).lookup x = some .free ∨ (names.map fun (n, k) => if (k == NameKind.free && env.scope.kind == .function && env.kindOf n == some .cell) then (n, NameKind.cell) else (n, k)).lookup x = some .cell
  | [], h => by simp at h
  | (n, k') :: r, h => by
    have ih := @lookup_relabel_free env x r
    rw [List.map_cons]
    cases hx : x == n with
    | true =>
      rw [List.lookup_cons, hx] at h
      simp at h
      subst h
      simp only
      split
      · right; rw [List.lookup_cons, hx]
      · left; rw [List.lookup_cons, hx]
    | false =>
      rw [List.lookup_cons, hx] at h
      have := ih h
      simp only
      split
      · rw [List.lookup_cons, hx]; exact this
      · rw [List.lookup_cons, hx]; exact this
/-- the block is entered -/
theorem blk_start (S : CompSc X scope N' ix) (hcalm : X.calm = true) (I2 : Inv X pins σ H2 s2) (hcl : ∀ x c, cl.lookup x = some c → X.env.cells.lookup x = some c) (hcl2 : ∀ y ∈ scope.names, y.2 = .free → ∃ c, cl.lookup y.1 = some c)
    (f2 : ∀ b ∈ fp, FpOk X pins H2 b) (hfp : ∀ b ∈ fp, b < s2.heap.objs.size) {C : Addr} {h4 : Heap} {m : Str → Option Value} {t4 : Nat} (hC : s2.heap.objs.size ≤ C) (hns : h4.Ns C m) (keep : ∀ b o, s2.heap.get? b = some o → h4.get? b = some o) :
    Inv (blk X scope cl C N' s2 H2 fp pins) [] (inner ix σ) H2 { s2 with heap := h4, toks := t4 } := by
  have hkindC : (relabel scope X.env).kind = .function := S.kind
  have ok : (blk X scope cl C N' s2 H2 fp pins).Ok :=
    { mod := I2.ok.mod
      kind := hkindC
      glob := I2.ok.glob
      blt := I2.ok.blt
      above := hC
      inj := fun x y c e1 e2 => I2.ok.inj x y c (hcl x c e1) (hcl y c e2)
      has := fun x h => by
        have h' : (relabel scope X.env).names.lookup x = some .cell ∨ (relabel scope X.env).names.lookup x = some .free := h
        have hfree : scope.names.lookup x = some .free := by
          rcases h' with h' | h'
          · rcases lookup_relabel h' with q | ⟨q, _⟩
            · have := List.all_eq_true.mp S.cell _ (lookup_mem q)
              simp at this
            · exact q
          · rcases lookup_relabel h' with q | ⟨q, z⟩
            · exact q
            · cases z
        exact hcl2 _ (lookup_mem hfree) rfl
      cab := fun x c h => by cases h
      hd := fun _ => I2.ok.hd hcalm
      frames := I2.ok.frames
      stk := .inl rfl
      exf := fun b hb => ⟨Nat.ne_of_lt (Nat.lt_of_lt_of_le (hfp b hb) hC), fun x c e => (f2 b hb).2.2.2.2.1 x c (hcl x c e)⟩
      bs := fun b o e => I2.bs b o e
      bsz := Nat.le_trans I2.ok.bsz I2.sz
      noex := fun b o e hb => by
        rcases (f2 b hb).2.2.2.1 with z | z
        · exact I2.ok.noex b o e z
        · exact absurd (Nat.lt_of_lt_of_le (Heap.lt_size (I2.ok.bs b o e).1) z) (Nat.lt_irrefl _)
      exfs := fun b hb z => by
        rcases List.mem_cons.mp (I2.stkSub b z) with q | q
        · exact (f2 b hb).2.1 q
        · exact (f2 b hb).2.2.1 q
      funs := I2.stack
      frf := I2.stkFree }
  obtain ⟨m0, hn0, hl0⟩ := id I2.loc
  refine ⟨ok, rfl, I2.bare, Un.kept keep, ⟨m, hns, fun j x v e1 e2 e3 => ?_⟩, fun x c e => ?_, I2.hok.fresh hC, fun x c e => I2.freeC x c (hcl x c e), fun p hp => ?_, I2.hok.kept keep, ?_⟩
  · -- a name that the block takes along
    have e1' : N'[j]? = some x := e1
    have e2' : (inner ix σ)[j]? = some (some v) := e2
    unfold inner at e2'
    rw [List.getElem?_map] at e2'
    cases hx : ix[j]? with
    | none => rw [hx] at e2'; simp at e2'
    | some o =>
      rw [hx] at e2'
      cases o with
      | none => simp at e2'
      | some i =>
        simp at e2'
        have hz : (x, some i) ∈ N'.zip ix := List.mem_of_getElem? (i := j) (by rw [List.getElem?_zip_eq_some]; exact ⟨e1', hx⟩)
        have hz' := List.all_eq_true.mp S.ixs _ hz
        simp only [Bool.and_eq_true, beq_iff_eq] at hz'
        obtain ⟨hXN, hfr⟩ := hz'
        have hσ : σ[i]? = some (some v) := by
          cases q : σ[i]? with
          | none => rw [q] at e2'; simp at e2'
          | some o => rw [q] at e2'; simp at e2'; rw [e2']
        have hk := List.all_eq_true.mp S.free _ (lookup_mem hfr)
        simp at hk
        have hvis : Vis X.env.scope x := by
          rcases hk with q | q
          · exact .inr (.inl q)
          · exact .inr (.inr q)
        obtain ⟨u, r, look⟩ := hl0 i x v hXN hσ hvis
        rcases look with ⟨q, _⟩ | ⟨_, c, ec, hc⟩
        · rcases hk with z | z
          · rw [z] at q; cases q
          · rw [z] at q; cases q
        · obtain ⟨c', ec'⟩ := hcl2 _ (lookup_mem hfr) rfl
          have : c' = c := by have := hcl x c' ec'; rw [ec] at this; cases this; rfl
          subst this
          refine ⟨u, r, .inr ⟨?_, c', ec', ?_⟩⟩
          · rcases lookup_relabel_free (env := X.env) hfr with q | q
            · exact .inr q
            · exact .inl q
          · obtain ⟨oc, ho, hd⟩ := hc
            exact ⟨oc, keep _ _ ho, hd⟩
  · obtain ⟨v, oc, ho, hd⟩ := I2.cell x c (hcl x c e)
    exact ⟨v, oc, keep _ _ ho, hd⟩
  · have hp' : p ∈ X.pn ++ pins := by simpa [blk] using hp
    obtain ⟨q1, q2, q3, q4, q5⟩ := I2.pin p hp'
    refine ⟨keep _ _ q1, q2, Nat.ne_of_lt (Nat.lt_of_lt_of_le (Heap.lt_size q1) hC), fun z => ?_, q5⟩
    rcases List.mem_cons.mp (I2.stkSub p.1 z) with q | q
    · exact q3 q
    · exact q4 q
  · show (inner ix σ).length = N'.length
    rw [S.len]; simp [inner]
end
end MR

set_option Elab.async false
set_option linter.all false
set_option maxRecDepth 100000
set_option maxHeartbeats 4000000
namespace MR
open PySem PySem.Spec PyProof.Rows L2
section
variable {X : Cx} {scope : Scope} {N' : List Str} {ix : List (Option Nat)} {pins : List (Addr × Obj)} {σ : L2.St} {H2 : Hp} {s2 : Shared} {cl : List (Str × Addr)} {fp : List Addr}
/-- the tests of a clause: none, or one -/
def Tests (X' : Cx) (ifs : List Expr) (tt : TT) : Prop := ∀ (pins : List (Addr × Obj)) (s : Shared) (σ : L2.St) (H : Hp) (Q : Bool → Hp → Prop) (E : Value → Shared → Prop), Inv X' pins σ H s → tt σ H Q → (∀ e s, X'.xe e s → E e s) →
  wpAny (model X'.prog X'.w) X'.A (forIn ifs true fun c r => if r = true then do let ok ← isTrue c X'.env (eval c X'.env); pure (ForInStep.yield ok) else pure (ForInStep.yield r)) (TP X' pins σ Q) E s
def tYes : TT := fun _ H Q => Q true H
theorem tests_nil {X' : Cx} : Tests X' [] tYes := fun pins s σ H Q E I h _ => wpAny_tests_nil ⟨H, I, h⟩
theorem tests_one {X' : Cx} {c : Expr} {tt : TT} (h : PT X' c tt) : Tests X' [c] tt := fun pins s σ H Q E I q hE => wpAny_tests_one (wpAny_mono (h pins s σ H Q I q) (fun _ _ z => z) hE)
/-- a list that is ours alone -/
def accObj (its : List Value) (n : Nat) : Obj := { cls := .type "list", data := .seq its.toArray n }
/-- THE TURNS -/
theorem comp_loop {elt tg iter : Expr} {ifs : List Expr} {pos : Pos} {it D C : Addr} {J : It} {tn : Nat → Heap → Prop} {g : TG} {tt : TT} {te : TE} {Fin : List V → Hp → Prop} {R : Result → Shared → Prop} {X' : Cx}
    (hX : X'.A = X.A ∧ X'.prog = X.prog ∧ X'.w = X.w ∧ X'.K = X.K ∧ X'.calm = true ∧ ∀ e s, ¬ X'.xe e s) (T : Turn X.prog X.w X.K tg J fp it tn) (hg : PG X' tg g) (ht : Tests X' ifs tt) (he : PE X' elt te)
    (hD1 : s2.heap.objs.size ≤ D) (hDC : D ≠ C) (hC : s2.heap.objs.size ≤ C) (hfp : ∀ b ∈ fp, FpOk X' [] H2 b ∧ b ≠ D) (hDf : ∀ H, H D = none → FpOk X' [] H D)
    {s : Shared} {σ1 : L2.St} {H1 : Hp} {n0 : Nat} (I : Inv X' [(D, accObj [] n0)] σ1 H1 s) (st : tn 0 s.heap) (fr : ∀ b ∈ fp, H1 b = none) (hloop : CLoop J g tt te σ1 H1 Fin)
    (hR : ∀ (s' : Shared) (σ' : L2.St) (H' : Hp) (acc : List V) (its : List Value) (n : Nat), Inv X' [(D, accObj its n)] σ' H' s' → Vals acc its → acc.length ≤ sizeLine → Fin acc H' → R (.ok .next) s') :
    codeAny (model X.prog X.w) X.A (.compLoop (.ListComp elt [⟨tg, iter, ifs, 0⟩] scope pos) 0 (.ref it) (.ref D) X'.env) R s := by
  obtain ⟨W, ⟨m0, w0⟩, turn⟩ := hloop
  obtain ⟨hXA, hXp, hXw, hXK, hXc, hxe⟩ := hX
  have hfpo : ∀ (o : Obj) (H : Hp), (∀ b ∈ fp, H b = none) → ∀ b ∈ fp, FpOk X' [(D, o)] H b := fun o H hn b hb => by
    obtain ⟨⟨_, q1, q2, q3, q4, q5⟩, q6⟩ := hfp b hb
    refine ⟨hn b hb, q1, q2, q3, q4, fun p hp => ?_⟩
    rcases List.mem_append.mp hp with z | z
    · exact q5 p (List.mem_append_left _ z)
    · have : p = (D, o) := by simpa using z
      rw [this]; exact fun z => q6 z.symm
  refine codeAny_loop rfl (fun n s => ∃ i acc its k σ1 H1, Inv X' [(D, accObj its k)] σ1 H1 s ∧ Vals acc its ∧ acc.length ≤ sizeLine ∧ tn i s.heap ∧ (∀ b ∈ fp, H1 b = none) ∧ W i n acc σ1 H1) (fun n s hI => ?_) m0 ⟨0, [], [], n0, σ1, H1, I, .nil, Nat.zero_le _, st, fr, w0⟩
  show wpAny _ X.A ((compTurn (.ListComp elt [⟨tg, iter, ifs, 0⟩] scope pos) 0 (.ref it) (.ref D) X'.env).onRaise (fun x => do noteFrame x X'.env; theTreesLotGoes x)) _ _ s
  refine wpAny_noted ?_
  rw [compTurn_list]
  obtain ⟨i, acc, its, k, σ1, H1, I, hv, hz, st, fr, w1⟩ := hI
  refine wpAny_bind (wpAny_standAt (wpAny_bind ?_))
  rcases turn i n acc σ1 H1 w1 with ⟨stop, fin⟩ | ⟨go, step⟩
  · have h := T.done X' hXp hXw hXK hXc i _ s σ1 H1 (notedBy (model X.prog X.w) X.A X'.env fun e s' => R (.error e) s') I (hfpo _ H1 fr) st stop
    rw [hXA] at h
    refine thn h fun r s4 ⟨hr, I4⟩ => ?_
    subst hr
    exact wpAny_pure (hR s4 σ1 H1 acc its k I4 hv hz fin)
  · have h := T.item X' hXp hXw hXK hXc i _ s σ1 H1 (notedBy (model X.prog X.w) X.A X'.env fun e s' => R (.error e) s') I (hfpo _ H1 fr) st go
    rw [hXA] at h
    refine thn h fun r s4 ⟨u, hr, h4⟩ => ?_
    subst hr
    refine wpAny_bind (thn h4 fun _ s5 ⟨x, H5, I5, r5, y5, st5, fr5⟩ => ?_)
    have I5' := I5.pinned (hfpo _ H5 fr5) (T.obj _ _ st5)
    have hg5 := hg _ s5 σ1 H5 x u _ I5' r5 (step x H5 y5)
    rw [hXp, hXw, hXA] at hg5
    refine wpAny_bind (wpAny_mono hg5 (fun _ s6 ⟨σ6, H6, I6, q6⟩ => ?_) fun e s z => absurd z (hxe e s))
    have ht6 := ht _ s6 σ6 H6 _ (notedBy (model X.prog X.w) X.A X'.env fun e s' => R (.error e) s') I6 q6 (fun e s z => absurd z (hxe e s))
    rw [hXp, hXw, hXA] at ht6
    refine wpAny_bind (thn ht6 fun b s7 ⟨H7, I7, q7⟩ => ?_)
    -- what stands of the iterator and of the list
    have back : ∀ {σ8 : L2.St} {H8 : Hp} {s8 : Shared}, Inv X' ([(D, accObj its k)] ++ pinsAt fp s5.heap) σ8 H8 s8 → tn (i + 1) s8.heap ∧ (∀ b ∈ fp, H8 b = none) ∧ s8.heap.get? D = some (accObj its k) ∧ H8 D = none := fun {σ8 H8 s8} I8 => by
      refine ⟨T.keep _ _ _ st5 fun b hb o e => (I8.pin (b, o) (List.mem_append_right _ (List.mem_append_right _ (mem_pinsAt hb e)))).1, fun b hb => ?_, ?_, ?_⟩
      · obtain ⟨o, e, d⟩ := T.obj _ _ st5 b hb
        exact (I8.pin (b, o) (List.mem_append_right _ (List.mem_append_right _ (mem_pinsAt hb e)))).2.1
      · exact (I8.pin (D, accObj its k) (List.mem_append_right _ (List.mem_append_left _ (List.mem_singleton.mpr rfl)))).1
      · exact (I8.pin (D, accObj its k) (List.mem_append_right _ (List.mem_append_left _ (List.mem_singleton.mpr rfl)))).2.1
    cases b with
    | false =>
      obtain ⟨m', hm, w8⟩ := (q7 : if false = true then _ else _)
      obtain ⟨st8, fr8, _, _⟩ := back I7
      refine wpAny_pure ⟨rfl, m', hm, i + 1, acc, its, k, σ6, H7, ?_, hv, hz, st8, fr8, w8⟩
      exact I7.pins_of fun p hp => I7.pin p (List.mem_append_right _ (List.mem_append_left _ hp))
    | true =>
      have q7' : te σ6 H7 fun y H6 => acc.length < sizeLine ∧ ∃ m', m' < n ∧ W (i + 1) m' (acc ++ [y]) σ6 H6 := q7
      have he7 := he _ s7 σ6 H7 _ I7 q7'
      rw [hXp, hXw, hXA] at he7
      refine wpAny_bind (wpAny_bind (wpAny_mono he7 (fun y s8 ⟨v, H8, I8, r8, hlt, m', hm, w8⟩ => ?_) fun e s z => absurd z (hxe e s)))
      obtain ⟨st8, fr8, hDo, hDn⟩ := back I8
      have hlen := hv.length
      have hisl : s8.heap.IsList D its.toArray := ⟨_, hDo, rfl, k, rfl⟩
      refine wpAny_bind ?_
      obtain ⟨k', hd'⟩ : ∃ k', Obj.mapSeq (·.push y) (accObj its k) = accObj (its ++ [y]) k' := ⟨_, by simp [accObj, Obj.mapSeq]; rfl⟩
      refine wpAny_call_entry slot_list_append hisl.typeIs entry_list_append ?_ (args_list_append _ _)
      show wpAny _ _ (updateSeq D (·.push y) >>= fun _ => ret .none) _ _ s8
      refine wpAny_bind (wpAny_updateSeq hDo rfl (wpAny_pure ⟨.none, rfl, ?_⟩))
      have hk9 : ∀ b o, b ≠ D → s8.heap.get? b = some o → (s8.heap.update D (Obj.mapSeq (·.push y))).get? b = some o := fun b o hb e => (Heap.SameBut.update (h := s8.heap) (a := D) ..).2 b hb |>.trans e
      have hD9 : (s8.heap.update D (Obj.mapSeq (·.push y))).get? D = some (accObj (its ++ [y]) k') := by
        rw [← hd']; exact Heap.get?_update_self _ hDo (by rw [hd']; exact Obj.isFreed_of_seq (xs := (its ++ [y]).toArray) (n := k') rfl)
      have I8' : Inv X' [] σ6 H8 s8 := I8.pins_of fun p hp => by cases hp
      obtain ⟨d0, d1, d2, d3, d4, d5⟩ := hDf H8 hDn
      have I9 : Inv X' [] σ6 H8 { s8 with heap := s8.heap.update D (Obj.mapSeq (·.push y)) } := I8'.turned (t' := s8.toks) hk9 hDn d1 d3 d4 d5
      have I10 := I9.pins_of (pins' := [(D, accObj (its ++ [y]) k')]) fun p hp => by
        have : p = (D, accObj (its ++ [y]) k') := by simpa using hp
        subst this
        exact ⟨hD9, hDn, d1, d2, fun v z => by simp [accObj] at z⟩
      refine wpAny_pure (wpAny_pure ⟨rfl, m', hm, i + 1, acc ++ [v], its ++ [y], k', σ6, H8, I10, Vals.append hv (.cons r8 .nil), by rw [List.length_append]; simp; omega, ?_, fr8, w8⟩)
      refine T.keep _ _ _ st8 fun b hb o e => hk9 b o (hfp b hb).2 e
end
end MR

set_option Elab.async false
set_option linter.all false
set_option maxRecDepth 100000
set_option maxHeartbeats 4000000
namespace MR
open PySem PySem.Spec PyProof.Rows L2
section
variable {X : Cx} {scope : Scope} {N' : List Str} {ix : List (Option Nat)}
def tComp (ix : List (Option Nat)) (wi : TI) (g : TG) (tt : TT) (te : TE) : TE := fun σ H Q => wi σ H fun J H1 => CLoop J g tt te (inner ix σ) H1 fun acc H2 => ∀ p, H2 p = none → Q (.ref p) (upd H2 p (.lst acc))
/-- the block, from the iterator to its end -/
theorem comp_core {elt tg iter : Expr} {ifs : List Expr} {pos : Pos} {g : TG} {tt : TT} {te : TE} {pins : List (Addr × Obj)} {σ : L2.St} {H2 : Hp} {s2 : Shared} {cl : List (Str × Addr)} {fp : List Addr} {it : Addr} {J : It} {tn : Nat → Heap → Prop} {E : Value → Shared → Prop} {Fin : List V → Hp → Prop} {RR : Value → Addr → Result → Shared → Prop}
    (S : CompSc X scope N' ix) (hcalm : X.calm = true) (hcl : ∀ x c, cl.lookup x = some c → X.env.cells.lookup x = some c) (hcl2 : ∀ y ∈ scope.names, y.2 = .free → ∃ c, cl.lookup y.1 = some c)
    (hg : ∀ C, PG (blk X scope cl C N' s2 H2 fp pins) tg g) (ht : ∀ C, Tests (blk X scope cl C N' s2 H2 fp pins) ifs tt) (he : ∀ C, PE (blk X scope cl C N' s2 H2 fp pins) elt te)
    (I2 : Inv X pins σ H2 s2) (T : Turn X.prog X.w X.K tg J fp it tn) (st2 : tn 0 s2.heap) (f2 : ∀ b ∈ fp, FpOk X pins H2 b) (hloop : CLoop J g tt te (inner ix σ) H2 Fin)
    (hRR : ∀ (D C : Addr) (s' : Shared) (H' : Hp) (acc : List V), Inv X pins σ (upd H' D (.lst acc)) s' → H' D = none → (∃ m, s'.heap.Ns C m) → (upd H' D (.lst acc)) C = none → FpOk X pins (upd H' D (.lst acc)) C → Fin acc H' → RR (.ref D) C (.ok .next) s') :
    wpAny (model X.prog X.w) X.A (newList []) (fun acc s₃ => wpAny (model X.prog X.w) X.A (newFunctionEnv scope X.env.globals cl [] X.env.qual none .none (some X.env)) (fun cenv s₄ =>
      codeAny (model X.prog X.w) X.A (.compStart (.ListComp elt [⟨tg, iter, ifs, 0⟩] scope pos) 0 (.ref it) acc { cenv with scope := relabel scope X.env }) (RR acc cenv.locals) s₄) E s₃) E s2 := by
  have hcell : ∀ y ∈ scope.names, y.2 ≠ .cell := fun y hy z => by
    have := List.all_eq_true.mp S.cell y hy
    rw [z] at this; simp at this
  refine wpAny_newObj_type (wpAny_newFunctionEnv hcell (by intro y hy; simp at hy) (fun h₁ hns₁ hsb₁ => ?_) S.kind)
  dsimp only at hns₁ hsb₁ ⊢
  generalize hH2 : s2.heap.push { cls := .type "list", dict := none, data := .seq ([] : List Value).toArray } = HP at hns₁ hsb₁ ⊢
  have hCs : HP.objs.size = s2.heap.objs.size + 1 := by rw [← hH2, Heap.size_push]
  have hDC : s2.heap.objs.size ≠ HP.objs.size := by rw [hCs]; exact Nat.ne_of_lt (Nat.lt_succ_self _)
  have hCle : s2.heap.objs.size ≤ HP.objs.size := by rw [hCs]; exact Nat.le_succ _
  have old : ∀ b o, s2.heap.get? b = some o → h₁.get? b = some o := fun b o e => hsb₁.extBut b o (Nat.ne_of_lt (Nat.lt_of_lt_of_le (Heap.lt_size e) hCle)) (Heap.get?_push_of_some _ (hH2 ▸ Heap.get?_push_of_some _ e))
  have hacc : h₁.get? s2.heap.objs.size = some (accObj [] 0) := hsb₁.extBut _ _ hDC (Heap.get?_push_of_some _ (hH2 ▸ Heap.get?_push_size _ rfl))
  have hfp : ∀ b ∈ fp, b < s2.heap.objs.size := fun b hb => by
    obtain ⟨o, e, _⟩ := T.obj _ _ st2 b hb
    exact Heap.lt_size e
  generalize hDg : s2.heap.objs.size = D at hDC hacc
  generalize hCg : HP.objs.size = C at *
  have hDle : s2.heap.objs.size ≤ D := Nat.le_of_eq hDg
  have hD2 : s2.heap.get? D = none := by
    cases q : s2.heap.get? D with
    | none => rfl
    | some o => exact absurd (Nat.lt_of_lt_of_le (Heap.lt_size q) hDle) (Nat.lt_irrefl _)
  have I4 := blk_start (t4 := s2.toks + ([] : List (Str × Value)).length) S hcalm I2 hcl hcl2 f2 hfp hCle hns₁ old
  have above : ∀ a, s2.heap.objs.size ≤ a → a ∉ frs X.stack ∧ (∀ x c, X.env.cells.lookup x = some c → c ≠ a) ∧ (∀ p ∈ X.pn ++ pins, p.1 ≠ a) ∧ a ≠ X.env.locals := fun a ha => by
    refine ⟨fun z => ?_, fun x c e z => ?_, fun p hp z => ?_, ?_⟩
    · rcases List.mem_cons.mp (I2.stkSub a z) with q | q
      · exact absurd (Nat.lt_of_lt_of_le I2.lt (q ▸ ha)) (Nat.lt_irrefl _)
      · exact I2.nofs ha q
    · obtain ⟨v, q⟩ := I2.cell x c e
      exact absurd (Nat.lt_of_lt_of_le q.lt (z ▸ ha)) (Nat.lt_irrefl _)
    · exact absurd (Nat.lt_of_lt_of_le (Heap.lt_size (I2.pin p hp).1) (z ▸ ha)) (Nat.lt_irrefl _)
    · intro z; exact absurd (Nat.lt_of_lt_of_le I2.lt (z ▸ ha)) (Nat.lt_irrefl _)
  have hfpX : ∀ b ∈ fp, FpOk (blk X scope cl C N' s2 H2 fp pins) [] H2 b ∧ b ≠ D := fun b hb => by
    obtain ⟨q0, q1, q2, q3, q4, q5⟩ := f2 b hb
    have hlt := hfp b hb
    refine ⟨⟨q0, Nat.ne_of_lt (Nat.lt_of_lt_of_le hlt hCle), fun z => ?_, .inl hb, fun x c e => q4 x c (hcl x c e), fun p hp => q5 p (by simpa [blk] using hp)⟩, Nat.ne_of_lt (Nat.lt_of_lt_of_le hlt hDle)⟩
    rcases List.mem_cons.mp (I2.stkSub b z) with q | q
    · exact q1 q
    · exact q2 q
  have hDf : ∀ H : Hp, H D = none → FpOk (blk X scope cl C N' s2 H2 fp pins) [] H D := fun H hn => by
    obtain ⟨a1, a2, a3, a4⟩ := above D hDle
    exact ⟨hn, hDC, a1, .inr hDle, fun x c e => a2 x c (hcl x c e), fun p hp => a3 p (by simpa [blk] using hp)⟩
  have hDn2 : H2 D = none := I2.hok.fresh hDle
  have I5 : Inv (blk X scope cl C N' s2 H2 fp pins) [(D, accObj [] 0)] (inner ix σ) H2 { s2 with heap := h₁, toks := s2.toks + ([] : List (Str × Value)).length } := I4.pins_of fun p hp => by
    have : p = (D, accObj [] 0) := by simpa using hp
    subst this
    obtain ⟨_, d1, d2, _⟩ := hDf H2 hDn2
    exact ⟨hacc, hDn2, d1, d2, fun v z => by simp [accObj] at z⟩
  have st5 : tn 0 h₁ := T.keep _ _ _ st2 fun b _ o e => old b o e
  have loop : codeAny (model X.prog X.w) X.A (.compLoop (.ListComp elt [⟨tg, iter, ifs, 0⟩] scope pos) 0 (.ref it) (.ref D) (blk X scope cl C N' s2 H2 fp pins).env) (RR (.ref D) C) { s2 with heap := h₁, toks := s2.toks + ([] : List (Str × Value)).length } := by
    refine comp_loop (X' := blk X scope cl C N' s2 H2 fp pins) ⟨rfl, rfl, rfl, rfl, hcalm, fun _ _ z => z⟩ T (hg C) (ht C) (he C) hDle hDC hCle hfpX hDf I5 st5 (fun b hb => (f2 b hb).1) hloop ?_
    intro s' σ' H' acc its n I hv hz fin
    obtain ⟨hDo, hDn, _⟩ := I.pin (D, accObj its n) (List.mem_append_right _ (List.mem_singleton.mpr rfl))
    have hbase : Un (frs X.stack) fp H2 H' s2.heap s'.heap := I.base
    have hok : HOk X.prog X.w (upd H' D (.lst acc)) s'.heap := HOk.adopt I.hok hDn ⟨hz, its, n, hv, hDo⟩
    have IX : Inv X pins σ (upd H' D (.lst acc)) s' := I2.call' I.os (Un.adopt hbase hDn hD2) hok I.bare fun b hb => ⟨(f2 b hb).2.2.2.1, (f2 b hb).2.1, (f2 b hb).2.2.2.2.1, (f2 b hb).2.2.2.2.2⟩
    obtain ⟨m, hm, _⟩ := I.loc
    have hCn : (upd H' D (.lst acc)) C = none := by rw [upd_ne (Ne.symm hDC)]; exact I.free
    obtain ⟨a1, a2, a3, a4⟩ := above C hCle
    refine hRR D C s' H' acc IX hDn ⟨m, hm⟩ hCn ⟨hCn, a4, fun z => ?_, .inr (Nat.le_trans I2.sz hCle), a2, a3⟩ fin
    exact I2.nofs hCle z
  have e1 : ({ newEnv scope C X.env.globals cl X.env.qual none .none (some X.env) builtinsNs with scope := relabel scope X.env } : PySem.Env) = (blk X scope cl C N' s2 H2 fp pins).env := rfl
  exact codeAny_compStart_list loop (T.self _ 0 _ _ _ st5 loop)
theorem CompSc.names {scope : Scope} (S : CompSc X scope N' ix) : ∀ x ∈ scope.names, x.2 = .local → scope.names.lookup x.1 = some .local := fun x hx hl => by
  have := List.all_eq_true.mp S.loc x hx
  rw [hl] at this
  simpa using this
theorem CompSc.clos {scope : Scope} (S : CompSc X scope N' ix) (ok : X.Ok) : ∃ cl, closureFor scope X.env = pure cl ∧ (∀ x c, cl.lookup x = some c → X.env.cells.lookup x = some c) ∧ ∀ y ∈ scope.names, y.2 = .free → ∃ c, cl.lookup y.1 = some c := by
  refine closureFor_ex fun y hy hf => ?_
  have := List.all_eq_true.mp S.free y hy
  rw [hf] at this
  simp at this
  exact ok.has y.1 this
theorem pe_comp {elt tg iter : Expr} {ifs : List Expr} {pos : Pos} {wi : TI} {g : TG} {tt : TT} {te : TE} (S : CompSc X scope N' ix) (hcalm : X.calm = true) (hi : PI X tg iter wi)
    (hg : ∀ cl C s2 H2 fp pins, PG (blk X scope cl C N' s2 H2 fp pins) tg g) (ht : ∀ cl C s2 H2 fp pins, Tests (blk X scope cl C N' s2 H2 fp pins) ifs tt) (he : ∀ cl C s2 H2 fp pins, PE (blk X scope cl C N' s2 H2 fp pins) elt te)
    (hs : ∀ x, foldedSetIterable iter X.env x = pure x := by intro _; rfl) : PE X (.ListComp elt [⟨tg, iter, ifs, 0⟩] scope pos) (tComp ix wi g tt te) := by
  intro pins s σ H Q I h
  obtain ⟨cl, hclos, hcl, hcl2⟩ := S.clos I.ok
  rw [eval_ListComp]
  refine wpAny_comprehension_free (use := none) rfl hs hclos S.kind S.names (thn (hi pins s σ H _ I h) fun v s1 h1 => thn h1 fun itv s2 h2 => ?_)
  obtain ⟨it, fp, tn, J, H2, e, I2, T, st2, f2, loop⟩ := h2
  subst e
  refine comp_core (RR := fun acc C => compPost (model X.prog X.w) X.A X.xe none (EP X pins σ Q) acc C) S hcalm hcl hcl2 (fun C => hg cl C s2 H2 fp pins) (fun C => ht cl C s2 H2 fp pins) (fun C => he cl C s2 H2 fp pins) I2 T st2 f2 loop ?_
  intro D C s' H' acc IX hDn ⟨m, hm⟩ hCn hC fin
  refine ⟨m, hm, fun h' hsb => ?_⟩
  obtain ⟨c0, c1, c2, c3, c4, c5⟩ := hC
  exact ⟨.ref D, _, IX.turned (t' := s'.toks) (fun b o hb e => hsb.2 b hb |>.trans e) c0 c1 c3 c4 c5, rfl, fin D hDn⟩
theorem ps_comp {i : Nat} {y : Str} {py spos : Pos} {elt tg iter : Expr} {ifs : List Expr} {pos : Pos} {wi : TI} {g : TG} {tt : TT} {te : TE} (hN : X.N.Nodup) (hiN : X.N[i]? = some y) (hx : Loc X.env.scope y) (hf : X.fn y = true ∨ X.env.scope.names.lookup y = some .local)
    (S : CompSc X scope N' ix) (hcalm : X.calm = true) (hi : PI X tg iter wi)
    (hg : ∀ cl C s2 H2 fp pins, PG (blk X scope cl C N' s2 H2 fp pins) tg g) (ht : ∀ cl C s2 H2 fp pins, Tests (blk X scope cl C N' s2 H2 fp pins) ifs tt) (he : ∀ cl C s2 H2 fp pins, PE (blk X scope cl C N' s2 H2 fp pins) elt te)
    (hsw : swapsWith (.ListComp elt [⟨tg, iter, ifs, 0⟩] scope pos) (some (.Name y py)) spos.line X.env = pure true)
    (hs : ∀ x, foldedSetIterable iter X.env x = pure x := by intro _; rfl) : PS X (.Assign [.Name y py] (.ListComp elt [⟨tg, iter, ifs, 0⟩] scope pos) spos) (tAsg (tComp ix wi g tt te) (gName i)) := by
  intro pins s σ H Dn I h
  obtain ⟨cl, hclos, hcl, hcl2⟩ := S.clos I.ok
  rw [exec_Assign_Name_used _ _ _ _ hsw]
  refine wpAny_bind (wpAny_standAt (wpAny_bind ?_))
  show wpAny _ X.A (do let _ ← comprehension (.ListComp elt [⟨tg, iter, ifs, 0⟩] scope pos) scope X.env _ (newList []) false (eval iter X.env) (some (assign (.Name y py) X.env))) _ _ s
  refine wpAny_bind (wpAny_mono (wpAny_comprehension_free (Q := fun _ s' => SP X pins Dn .next s') (use := some (assign (.Name y py) X.env)) rfl hs hclos S.kind S.names (thn (hi pins s σ H _ I h) fun v s1 h1 => thn h1 fun itv s2 h2 => ?_)) (fun _ s' hq => wpAny_pure (wpAny_pure hq)) fun _ _ e => e)
  obtain ⟨it, fp, tn, J, H2, e, I2, T, st2, f2, loop⟩ := h2
  subst e
  refine comp_core (RR := fun acc C => compPost (model X.prog X.w) X.A X.xe (some (assign (.Name y py) X.env)) (fun _ s' => SP X pins Dn .next s') acc C) S hcalm hcl hcl2 (fun C => hg cl C s2 H2 fp pins) (fun C => ht cl C s2 H2 fp pins) (fun C => he cl C s2 H2 fp pins) I2 T st2 f2 loop ?_
  intro D C s' H' acc IX hDn ⟨m, hm⟩ hCn hC fin
  obtain ⟨c0, c1, c2, c3, c4, c5⟩ := hC
  obtain ⟨oC, es, ep, hoC, hdC, hrest⟩ := id hm
  have IP : Inv X (pins ++ [(C, oC)]) σ (upd H' D (.lst acc)) s' := IX.pins_of fun p hp => by
    rcases List.mem_append.mp hp with z | z
    · exact IX.pin p (List.mem_append_right _ z)
    · have : p = (C, oC) := by simpa using z
      subst this
      exact ⟨hoC, c0, c1, c2, fun v z => by rw [hdC] at z; cases z⟩
  have hq : gName i (.ref D) σ (upd H' D (.lst acc)) Dn.nx := fin D hDn
  refine thn (pg_name (i := i) (pos := py) hN hiN hx hf (pins ++ [(C, oC)]) s' σ _ (.ref D) (.ref D) Dn.nx IP rfl hq) fun _ s'' ⟨σ'', H'', I'', q''⟩ => ?_
  obtain ⟨p1, p2, p3, p4, p5⟩ := I''.pin (C, oC) (List.mem_append_right _ (List.mem_append_right _ (List.mem_singleton.mpr rfl)))
  refine ⟨m, ⟨oC, es, ep, p1, hdC, hrest⟩, fun h' hsb => ?_⟩
  exact ⟨σ'', H'', (I''.unpinned).turned (t' := s''.toks) (fun b o hb e => hsb.2 b hb |>.trans e) p2 p3 c3 c4 c5, q''⟩
end
end MR

set_option Elab.async false
set_option linter.all false
set_option maxRecDepth 100000
set_option maxHeartbeats 4000000
namespace MR
open PySem PySem.Spec PyProof.Rows L2
def testU (tt : Option FT) : FT := fun δ L => match tt with
  | none => some (true, L)
  | some f => f δ L
def compU (it : IU) (g : FG) (tt : Option FT) (fe : FE) : Nat → Nat → List U → UE → UH → Option (List U × UH)
  | 0, _, _, _, _ => none
  | m + 1, k, acc, δ, L => match it.at k L with
    | none => none
    | some none => some (acc, L)
    | some (some u) => (g u δ L).bind fun p => (testU tt p.1 p.2).bind fun q => if q.1 = true then (fe p.1 q.2).bind fun r => if decide (acc.length < sizeLine) = true then compU it g tt fe m (k + 1) (acc ++ [r.1]) p.1 r.2 else none
      else compU it g tt fe m (k + 1) acc p.1 q.2
def innerU (ix : List (Option Nat)) (δ : UE) : UE := ix.map fun o => o.bind fun i => (δ[i]?).join
def fComp (ix : List (Option Nat)) (fi : FI) (g : FG) (tt : Option FT) (fe : FE) : FE := fun δ L => (fi δ L).bind fun p => (compU p.1 g tt fe (p.1.size p.2 + 1) 0 [] (innerU ix δ) p.2).map fun q => (.ref q.2.length, q.2 ++ [.lst q.1])
theorem RepS.inner {K : PySem.W.Frag} {H : Hp} {α : List Addr} {δ : UE} {σ : L2.St} (S : RepS K H α δ σ) (ix : List (Option Nat)) : RepS K H α (innerU ix δ) (MR.inner ix σ) := by
  refine ⟨by simp [innerU, MR.inner], fun j u e => ?_⟩
  unfold innerU at e
  unfold MR.inner
  rw [List.getElem?_map] at e ⊢
  cases hx : ix[j]? with
  | none => rw [hx] at e; simp at e
  | some o =>
    rw [hx] at e
    cases o with
    | none => simp at e
    | some i =>
      simp at e
      have : δ[i]? = some (some u) := by
        cases q : δ[i]? with
        | none => rw [q] at e; simp at e
        | some o => rw [q] at e; simp at e; rw [e]
      obtain ⟨v, hv, r⟩ := S.at_ i u this
      exact ⟨v, by simp [hv], r⟩
def lTo (K : PySem.W.Frag) (tt : Option FT) : TT := match tt with
  | none => tYes
  | some f => lT K f
theorem lE_comp {K : PySem.W.Frag} {ix : List (Option Nat)} {fi : FI} {g : FG} {tt : Option FT} {fe : FE} : ∀ σ H Q, lE K (fComp ix fi g tt fe) σ H Q → tComp ix (lI K fi) (lG K g) (lTo K tt) (lE K fe) σ H Q := by
  rintro σ H Q ⟨α, δ, L, A, S, z, L3, e, q⟩
  obtain ⟨⟨it, L1⟩, e1, e⟩ := Option.bind_eq_some_iff.mp e
  obtain ⟨⟨ys, L2⟩, e2, e⟩ := Option.map_eq_some_iff.mp e
  cases e
  refine ⟨α, δ, L, A, S, it, L1, e1, fun J H1 α1 g1 A1 hJ => ?_⟩
  refine ⟨fun k m acc σ2 H2 => ∃ α2 δ2 M us, Gr H1 α1 H2 α2 ∧ Abs K H2 α2 M ∧ RepS K H2 α2 δ2 σ2 ∧ RepL K H2 α2 us acc ∧ compU it g tt fe m k us δ2 M = some (ys, L2), ⟨_, α1, _, L1, [], .refl _ _, A1, (S.mono g1).inner ix, .nil, e2⟩, ?_⟩
  rintro k m acc σ2 H2 ⟨α2, δ2, M, us, g2, A2, S2, r2, e3⟩
  cases m with
  | zero => cases e3
  | succ m =>
    obtain ⟨hgo, hstop⟩ := hJ H2 α2 M g2 A2 k
    unfold compU at e3
    cases hat : it.at k M with
    | none => rw [hat] at e3; cases e3
    | some o =>
      cases o with
      | none =>
        rw [hat] at e3
        cases e3
        refine .inl ⟨hstop hat, fun p hp => ?_⟩
        obtain ⟨g3, A3, r3⟩ := A2.lst r2 hp
        exact q _ _ _ (g1.trans (g2.trans g3)) A3 r3
      | some u =>
        rw [hat] at e3
        obtain ⟨go, yld⟩ := hgo u hat
        obtain ⟨⟨δ3, L3⟩, e4, e3⟩ := Option.bind_eq_some_iff.mp e3
        obtain ⟨⟨b, L4⟩, e5, e3⟩ := Option.bind_eq_some_iff.mp e3
        refine .inr ⟨go, fun x H3 y3 => ?_⟩
        obtain ⟨g3, A3, r3⟩ := yld x H3 y3
        refine ⟨α2, δ2, M, u, A3, S2.mono g3, r3, δ3, L3, e4, fun σ4 H4 α4 g4 A4 S4 => ?_⟩
        have after : ∀ H5 α5, Gr H4 α4 H5 α5 → Abs K H5 α5 L4 → (if b = true then lE K fe σ4 H5 (fun y H6 => acc.length < sizeLine ∧ ∃ m', m' < m + 1 ∧ ∃ α2 δ2 M us, Gr H1 α1 H6 α2 ∧ Abs K H6 α2 M ∧ RepS K H6 α2 δ2 σ4 ∧ RepL K H6 α2 us (acc ++ [y]) ∧ compU it g tt fe m' (k + 1) us δ2 M = some (ys, L2)) else ∃ m', m' < m + 1 ∧ ∃ α2 δ2 M us, Gr H1 α1 H5 α2 ∧ Abs K H5 α2 M ∧ RepS K H5 α2 δ2 σ4 ∧ RepL K H5 α2 us acc ∧ compU it g tt fe m' (k + 1) us δ2 M = some (ys, L2)) := fun H5 α5 g5 A5 => by
          have gA := g2.trans (g3.trans (g4.trans g5))
          have gB := g3.trans (g4.trans g5)
          cases b with
          | false => exact iteF ⟨m, Nat.lt_succ_self _, α5, δ3, L4, us, gA, A5, S4.mono g5, r2.mono gB, e3⟩
          | true =>
            obtain ⟨⟨w, L5⟩, e6, e3⟩ := Option.bind_eq_some_iff.mp e3
            simp only at e3
            split at e3
            · rename_i hlt
              refine iteT ⟨α5, δ3, L4, A5, S4.mono g5, w, L5, e6, fun y H6 α6 g6 A6 r6 => ?_⟩
              exact ⟨by rw [← r2.length]; exact of_decide_eq_true hlt, m, Nat.lt_succ_self _, α6, δ3, L5, us ++ [w], gA.trans g6, A6, (S4.mono g5).mono g6, (r2.mono (gB.trans g6)).append (.cons r6 .nil), e3⟩
            · cases e3
        cases tt with
        | none =>
          cases e5
          exact after H4 α4 (.refl _ _) A4
        | some f => exact ⟨α4, δ3, L3, A4, S4, b, L4, e5, fun H5 α5 g5 A5 => after H5 α5 g5 A5⟩
section
variable {X : Cx} {scope : Scope} {N' : List Str} {ix : List (Option Nat)} {elt tg iter c : Expr} {pos : Pos} {fi : FI} {g : FG} {ft : FT} {fe : FE}
theorem pf_comp (S : CompSc X scope N' ix) (hcalm : X.calm = true) (hi : PIF X tg iter fi) (hg : ∀ cl C s2 H2 fp pins, PGF (blk X scope cl C N' s2 H2 fp pins) tg g) (he : ∀ cl C s2 H2 fp pins, PEF (blk X scope cl C N' s2 H2 fp pins) elt fe)
    (hs : ∀ x, foldedSetIterable iter X.env x = pure x := by intro _; rfl) : PEF X (.ListComp elt [⟨tg, iter, [], 0⟩] scope pos) (fComp ix fi g none fe) :=
  PE.imp (pe_comp (g := lG X.K g) (te := lE X.K fe) (tt := tYes) S hcalm hi hg (fun _ _ _ _ _ _ => tests_nil) he hs) lE_comp
theorem pf_compT (S : CompSc X scope N' ix) (hcalm : X.calm = true) (hi : PIF X tg iter fi) (hg : ∀ cl C s2 H2 fp pins, PGF (blk X scope cl C N' s2 H2 fp pins) tg g) (ht : ∀ cl C s2 H2 fp pins, PTF (blk X scope cl C N' s2 H2 fp pins) c ft) (he : ∀ cl C s2 H2 fp pins, PEF (blk X scope cl C N' s2 H2 fp pins) elt fe)
    (hs : ∀ x, foldedSetIterable iter X.env x = pure x := by intro _; rfl) : PEF X (.ListComp elt [⟨tg, iter, [c], 0⟩] scope pos) (fComp ix fi g (some ft) fe) :=
  PE.imp (pe_comp (g := lG X.K g) (te := lE X.K fe) (tt := lT X.K ft) S hcalm hi hg (fun _ _ _ _ _ _ => tests_one (ht _ _ _ _ _ _)) he hs) (lE_comp (tt := some ft))
theorem lS_asg {K : PySem.W.Frag} {i : Nat} {fc : FE} {t : TE} (ht : ∀ σ H Q, lE K fc σ H Q → t σ H Q) : ∀ D σ H, lS K (fAsg fc (gN i)) D σ H → tAsg t (gName i) D σ H := by
  rintro D σ H ⟨α, δ, L, A, S, fl, L', e, q⟩
  obtain ⟨⟨u, L1⟩, e1, e⟩ := Option.bind_eq_some_iff.mp e
  obtain ⟨⟨δ2, L2⟩, e2, e⟩ := Option.map_eq_some_iff.mp e
  cases e
  cases e2
  exact ht σ H _ ⟨α, δ, L, A, S, u, _, e1, fun v H1 α1 g1 A1 r1 => q _ H1 α1 g1 A1 ((S.mono g1).set i r1)⟩
theorem psf_comp {i : Nat} {y : Str} {py spos : Pos} (hN : X.N.Nodup) (S : CompSc X scope N' ix) (hcalm : X.calm = true) (hi : PIF X tg iter fi) (hg : ∀ cl C s2 H2 fp pins, PGF (blk X scope cl C N' s2 H2 fp pins) tg g) (he : ∀ cl C s2 H2 fp pins, PEF (blk X scope cl C N' s2 H2 fp pins) elt fe)
    (hiN : X.N[i]? = some y := by rfl) (hx : Loc X.env.scope y := by first | exact Or.inl rfl | exact Or.inr rfl) (hf : X.fn y = true ∨ X.env.scope.names.lookup y = some .local := by first | exact .inl rfl | exact .inr rfl)
    (hsw : swapsWith (.ListComp elt [⟨tg, iter, [], 0⟩] scope pos) (some (.Name y py)) spos.line X.env = pure true := by rfl)
    (hs : ∀ x, foldedSetIterable iter X.env x = pure x := by intro _; rfl) : PSF X (.Assign [.Name y py] (.ListComp elt [⟨tg, iter, [], 0⟩] scope pos) spos) (fAsg (fComp ix fi g none fe) (gN i)) :=
  PS.imp (ps_comp (i := i) (g := lG X.K g) (te := lE X.K fe) (tt := tYes) hN hiN hx hf S hcalm hi hg (fun _ _ _ _ _ _ => tests_nil) he hsw hs) (lS_asg lE_comp)
end
end MR

set_option Elab.async false
set_option linter.all false
set_option maxRecDepth 100000
set_option maxHeartbeats 4000000
namespace MR
open PySem PySem.Spec PyProof.Rows L2
section
variable {X : Cx} {pins : List (Addr × Obj)} {σ : L2.St} {H : Hp} {s : Shared} {h' : Heap}
/-- records of ours have turned and a new thing is laid -/
theorem Inv.turnNew {ch : List Addr} {p : Addr} {o : HO} {t' : Nat} (I : L2.Inv X pins σ H s) (hch : ∀ b ∈ ch, FpOk X pins H b) (k : ∀ b o, b ∉ ch → s.heap.get? b = some o → h'.get? b = some o) (hp : s.heap.objs.size ≤ p) (new : ObjOk X.prog X.w (upd H p o) h' p o) :
    L2.Inv X pins σ (upd H p o) { s with heap := h', toks := t' } := by
  have hn : H p = none := I.hok.fresh hp
  have nch : ∀ b u, H b = some u → b ∉ ch := fun b u e hb => by rw [(hch b hb).1] at e; cases e
  have st := Stay.new hn o
  refine I.step (g' := s.gens) (d' := s.drawn) (ch := ch) (fun b hb => ?_) (fun b o _ _ hc e _ => k b o hc e) (fun b o _ _ hc e _ => ⟨o.slots, k b o hc e⟩) (fun b u hc e n => ?_) (fun b u hc e => ⟨u, k b u hc e⟩) st.1 st.2 (fun b ps e => ⟨#[], ?_⟩) (fun m hm => ?_) (fun b u e => ?_) I.bare
  · obtain ⟨_, f1, _, f3, f4, f5⟩ := hch b hb
    exact ⟨f3, f1, f4, f5⟩
  · rw [upd_ne (Nat.ne_of_lt (Nat.lt_of_lt_of_le (Heap.lt_size e) hp))]; exact n
  · rw [upd_ne (ne_of_none e hn), e]; simp
  · obtain ⟨o1, es, ep, ho, r⟩ := hm
    exact ⟨o1, es, ep, k _ o1 (fun z => (hch _ z).2.1 rfl) ho, r⟩
  · by_cases hb : b = p
    · subst hb; rw [upd_same] at e; cases e; exact new
    · rw [upd_ne hb] at e
      refine (I.hok b u e).stay (fun c v hc q => k c v ?_ q) (fun c q => by rw [upd_ne (ne_of_none q hn)]; exact q) fun c xs q => by rw [upd_ne (ne_of_none q hn)]; exact q
      rcases hc with z | z
      · rw [z]; exact nch b u e
      · exact nch c _ z
end
/-- enumerate of the list at a -/
def Ite (K : PySem.W.Frag) (a : Addr) : It :=
  ⟨fun i H => ∃ xs x, SqL K H a xs ∧ xs[i]? = some x, fun i H x H' => ∃ p v, H p = none ∧ x = .ref p ∧ H' = upd H p (.tup [.int i, v]) ∧ ∀ xs, SqL K H a xs → xs[i]? = some v, fun i H => ∃ xs, SqL K H a xs ∧ xs.length ≤ i⟩
theorem turn_enum {P : Program} {w : World} {K : PySem.W.Frag} {elts : List Expr} {x1} {pos : Pos} (a e it : Addr) (hne : e ≠ it) : Turn P w K (.Tuple elts x1 pos) (Ite K a) [e, it] e (fun i h => (∃ old, IsEnum h e it i old) ∧ h.IsListIter it a i) where
  mem := by simp
  obj := fun i h st b hb => by
    obtain ⟨⟨old, he⟩, o, ho, hc, hd⟩ := st
    rcases List.mem_cons.mp hb with rfl | hb
    · exact ⟨_, he, fun v z => by simp at z⟩
    · have : b = it := by simpa using hb
      subst this
      exact ⟨o, ho, fun v z => by rw [hd] at z; cases z⟩
  keep := fun i h h' st k => by
    obtain ⟨⟨old, he⟩, o, ho, hc, hd⟩ := st
    exact ⟨⟨old, k e (by simp) _ he⟩, o, k it (by simp) _ ho, hc, hd⟩
  item := by
    intro X hP hw hK hc i pins s σ H E I hf st hg
    subst hP hw hK
    obtain ⟨⟨old, he⟩, hit⟩ := st
    obtain ⟨xs, v, sq, hx⟩ := hg
    obtain ⟨its, hv, pl, hz⟩ := I.list sq
    obtain ⟨u, hu, r⟩ := hv.get hx
    refine wpAny_pyNext_enum_item he hit pl.isList (by simpa using hu) hne fun h' o1 o2 o3 o4 o5 => ?_
    refine ⟨_, rfl, ?_⟩
    have hfr : H s.heap.objs.size = none := I.hok.fresh (Nat.le_refl _)
    have I1 : L2.Inv X pins σ (upd H s.heap.objs.size (.tup [.int i, v])) { s with heap := h', toks := s.toks + 1 } :=
      Inv.turnNew (ch := [e, it]) I hf (fun b o hb q => o5 b o (fun z => hb (by simp [z])) (fun z => hb (by simp [z])) q) (Nat.le_refl _)
        (show ObjOk X.prog X.w _ h' _ (.tup [.int i, v]) from ⟨by show 2 ≤ sizeLine; decide, [.int i s.toks, u], .cons ⟨_, rfl⟩ (.cons r .nil), ⟨_, o3, rfl, _, rfl⟩⟩)
    refine wpAny_letOwnedTupleGo_enum o1 fun h2 e2 sb2 => ?_
    have hne2 : ∀ b ∈ [e, it], b ≠ s.heap.objs.size := fun b hb z => by
      rcases List.mem_cons.mp hb with q | q
      · have := Heap.lt_size he; rw [← q, z] at this; exact Nat.lt_irrefl _ this
      · have q : b = it := by simpa using q
        obtain ⟨o, ho, _⟩ := hit
        have := Heap.lt_size ho; rw [← q, z] at this; exact Nat.lt_irrefl _ this
    have hnone : ∀ b ∈ [e, it], (upd H s.heap.objs.size (.tup [.int i, v])) b = none := fun b hb => by rw [upd_ne (hne2 b hb)]; exact (hf b hb).1
    obtain ⟨f0, f1, f2, f3, f4, f5⟩ := hf e (by simp)
    have I2 := I1.turned (t' := s.toks + 1) (h' := h2) (it := e) (fun b o hb q => sb2.2 b hb |>.trans q) (hnone e (by simp)) f1 f3 f4 f5
    obtain ⟨oi, hoi, hci, hdi⟩ := o2
    refine ⟨.ref s.heap.objs.size, _, I2, rfl, ⟨_, v, hfr, rfl, rfl, fun ys sq' => ?_⟩, ⟨⟨_, e2⟩, oi, (sb2.2 it (Ne.symm hne)).trans hoi, hci, hdi⟩, hnone⟩
    rw [I.list_inj sq' sq]; exact hx
  done := by
    intro X hP hw hK hc i pins s σ H E I hf st hg
    subst hP hw hK
    obtain ⟨⟨old, he⟩, hit⟩ := st
    obtain ⟨xs, sq, hx⟩ := hg
    obtain ⟨its, hv, pl, hz⟩ := I.list sq
    obtain ⟨f0, f1, f2, f3, f4, f5⟩ := hf it (by simp)
    have hlen := hv.length
    refine wpAny_pyNext_enum_end (I.ok.hd hc) he hit pl.isList (by simp; omega) fun h' eb => ⟨rfl, I.turned (t' := s.toks) (fun b o hb q => eb b o hb q) f0 f1 f3 f4 f5⟩
  self := fun _ _ _ _ _ st h => by obtain ⟨⟨old, he⟩, _⟩ := st; exact wpAny_pyIter_enum he h
/-- zip of the lists at a and b -/
def Itz (K : PySem.W.Frag) (a b : Addr) : It :=
  ⟨fun i H => ∃ xs ys x y, SqL K H a xs ∧ SqL K H b ys ∧ xs[i]? = some x ∧ ys[i]? = some y, fun i H z H' => ∃ p x y, H p = none ∧ z = .ref p ∧ H' = upd H p (.tup [x, y]) ∧ (∀ xs, SqL K H a xs → xs[i]? = some x) ∧ ∀ ys, SqL K H b ys → ys[i]? = some y,
    fun i H => ∃ xs ys, SqL K H a xs ∧ SqL K H b ys ∧ (xs.length ≤ i ∨ ys.length ≤ i)⟩
theorem turn_zip {P : Program} {w : World} {K : PySem.W.Frag} {elts : List Expr} {x1} {pos : Pos} (a b z TI TO i1 i2 : Addr) (D : ZipApart z TI TO i1 i2 a b) : Turn P w K (.Tuple elts x1 pos) (Itz K a b) [z, TI, TO, i1, i2] z
    (fun i h => IsZip h z TI TO .none ∧ IsPair h TI (.ref i1) (.ref i2) ∧ (∃ u v, IsPair h TO u v) ∧ h.IsListIter i1 a i ∧ h.IsListIter i2 b i) where
  mem := by simp
  obj := fun i h st c hb => by
    obtain ⟨h1, h2, ⟨u, v, h3⟩, ⟨o4, h4, _, d4⟩, ⟨o5, h5, _, d5⟩⟩ := st
    simp only [List.mem_cons, List.not_mem_nil, or_false] at hb
    rcases hb with rfl | rfl | rfl | rfl | rfl
    · exact ⟨_, h1, fun v z => by simp at z⟩
    · exact ⟨_, h2, fun v z => by simp at z⟩
    · exact ⟨_, h3, fun v z => by simp at z⟩
    · exact ⟨_, h4, fun v z => by rw [d4] at z; cases z⟩
    · exact ⟨_, h5, fun v z => by rw [d5] at z; cases z⟩
  keep := fun i h h' st k => by
    obtain ⟨h1, h2, ⟨u, v, h3⟩, ⟨o4, h4, c4, d4⟩, ⟨o5, h5, c5, d5⟩⟩ := st
    exact ⟨k z (by simp) _ h1, k TI (by simp) _ h2, ⟨u, v, k TO (by simp) _ h3⟩, ⟨o4, k i1 (by simp) _ h4, c4, d4⟩, ⟨o5, k i2 (by simp) _ h5, c5, d5⟩⟩
  item := by
    intro X hP hw hK hc i pins s σ H E I hf st hg
    subst hP hw hK
    obtain ⟨h1, h2, ⟨u0, v0, h3⟩, h4, h5⟩ := st
    obtain ⟨xs, ys, x, y, sq1, sq2, hx, hy⟩ := hg
    obtain ⟨its1, hv1, pl1, hz1⟩ := I.list sq1
    obtain ⟨its2, hv2, pl2, hz2⟩ := I.list sq2
    obtain ⟨u, hu, r⟩ := hv1.get hx
    obtain ⟨u', hu', r'⟩ := hv2.get hy
    refine wpAny_pyNext_zip_item D h1 h2 h3 h4 h5 pl1.isList pl2.isList (by simpa using hu) (by simpa using hu') fun h' o1 o2 o3 o4 o5 o6 o7 => ?_
    refine ⟨_, rfl, ?_⟩
    have hfr : H s.heap.objs.size = none := I.hok.fresh (Nat.le_refl _)
    have I1 : L2.Inv X pins σ (upd H s.heap.objs.size (.tup [x, y])) { s with heap := h', toks := s.toks } :=
      Inv.turnNew (ch := [z, TI, TO, i1, i2]) I hf (fun c o hb q => o7 c o (fun z => hb (by simp [z])) (fun z => hb (by simp [z])) (fun z => hb (by simp [z])) (fun z => hb (by simp [z])) q) (Nat.le_refl _)
        (show ObjOk X.prog X.w _ h' _ (.tup [x, y]) from ⟨by show 2 ≤ sizeLine; decide, [u, u'], .cons r (.cons r' .nil), ⟨_, o5, rfl, _, rfl⟩⟩)
    refine wpAny_letOwnedTupleGo_zip o1 fun h9 e2 sb2 => ?_
    have hlt : ∀ c ∈ [z, TI, TO, i1, i2], c < s.heap.objs.size := fun c hb => by
      obtain ⟨o4', h4', _⟩ := h4
      obtain ⟨o5', h5', _⟩ := h5
      simp only [List.mem_cons, List.not_mem_nil, or_false] at hb
      rcases hb with rfl | rfl | rfl | rfl | rfl
      · exact Heap.lt_size h1
      · exact Heap.lt_size h2
      · exact Heap.lt_size h3
      · exact Heap.lt_size h4'
      · exact Heap.lt_size h5'
    have hnone : ∀ c ∈ [z, TI, TO, i1, i2], (upd H s.heap.objs.size (.tup [x, y])) c = none := fun c hb => by rw [upd_ne (Nat.ne_of_lt (hlt c hb))]; exact (hf c hb).1
    obtain ⟨f0, f1, f2, f3, f4, f5⟩ := hf z (by simp)
    have I2 := I1.turned (t' := s.toks) (h' := h9) (it := z) (fun c o hb q => sb2.2 c hb |>.trans q) (hnone z (by simp)) f1 f3 f4 f5
    obtain ⟨oi, hoi, hci, hdi⟩ := o3
    obtain ⟨oj, hoj, hcj, hdj⟩ := o4
    have hTI : IsPair h' TI (.ref i1) (.ref i2) := o7 TI _ D.TIz D.TITO D.TIi1 D.TIi2 h2
    refine ⟨.ref s.heap.objs.size, _, I2, rfl, ⟨_, x, y, hfr, rfl, rfl, fun ys sq' => ?_, fun ys sq' => ?_⟩, ⟨e2, (sb2.2 TI D.TIz).trans hTI, ⟨_, _, (sb2.2 TO D.TOz).trans o2⟩, ⟨oi, (sb2.2 i1 D.i1z).trans hoi, hci, hdi⟩, ⟨oj, (sb2.2 i2 D.i2z).trans hoj, hcj, hdj⟩⟩, hnone⟩
    · rw [I.list_inj sq' sq1]; exact hx
    · rw [I.list_inj sq' sq2]; exact hy
  done := by
    intro X hP hw hK hc i pins s σ H E I hf st hg
    subst hP hw hK
    obtain ⟨h1, h2, ⟨u0, v0, h3⟩, h4, h5⟩ := st
    obtain ⟨xs, ys, sq1, sq2, hx⟩ := hg
    obtain ⟨its1, hv1, pl1, hz1⟩ := I.list sq1
    obtain ⟨its2, hv2, pl2, hz2⟩ := I.list sq2
    have hl1 := hv1.length
    have hl2 := hv2.length
    refine wpAny_pyNext_zip_end (I.ok.hd hc) D h1 h2 h3 h4 h5 pl1.isList pl2.isList (by simp; omega) fun h' k => ⟨rfl, ?_⟩
    have nch : ∀ b u, H b = some u → b ∉ [z, TI, TO, i1, i2] := fun b u e hb => by rw [(hf b hb).1] at e; cases e
    have k' : ∀ b o, b ∉ [z, TI, TO, i1, i2] → s.heap.get? b = some o → h'.get? b = some o := fun c o hb q => k c o (fun z => hb (by simp [z])) (fun z => hb (by simp [z])) (fun z => hb (by simp [z])) (fun z => hb (by simp [z])) q
    refine I.step (g' := s.gens) (d' := s.drawn) (t' := s.toks) (ch := [z, TI, TO, i1, i2]) (fun b hb => ?_) (fun b o _ _ hc e _ => k' b o hc e) (fun b o _ _ hc e _ => ⟨o.slots, k' b o hc e⟩) (fun _ _ _ _ n => n) (fun b u hc e => ⟨u, k' b u hc e⟩) (fun _ _ e => e) (fun _ _ _ e => e) (fun b ps e => ⟨#[], by rw [e]; simp⟩) (fun m hm => ?_) (fun b u e => ?_) I.bare
    · obtain ⟨_, f1, _, f3, f4, f5⟩ := hf b hb
      exact ⟨f3, f1, f4, f5⟩
    · obtain ⟨o1, es, ep, ho, r⟩ := hm
      exact ⟨o1, es, ep, k' _ o1 (fun z => (hf _ z).2.1 rfl) ho, r⟩
    · refine (I.hok b u e).stay (fun c v hc q => k' c v ?_ q) (fun _ q => q) fun _ _ q => q
      rcases hc with z | z
      · rw [z]; exact nch b u e
      · exact nch c _ z
  self := fun _ _ _ _ _ st h => wpAny_pyIter_zip st.1 h
theorem zip_apart (n l1 l2 : Nat) (h1 : l1 < n) (h2 : l2 < n) : ZipApart (n + 4) (n + 2) (n + 3) n (n + 1) l1 l2 := by
  constructor <;> (intro q; exact absurd (show (_ : Nat) = _ from q) (by omega))
section
variable {X : Cx} {elts : List Expr} {x1 : Nat} {tpos : Pos}
theorem boot_enum : bootBuiltins "enumerate" = some (.type "enumerate") := by decide +kernel
theorem boot_zip : bootBuiltins "zip" = some (.type "zip") := by decide +kernel
def iEnum (K : PySem.W.Frag) (ta : TA) : TI := fun σ H R => ta σ H fun vs H1 => ∃ a xs, vs = [.ref a] ∧ SqL K H1 a xs ∧ R (Ite K a) H1
theorem pi_enum {a : Expr} {ta : TA} {p pos : Pos} (hg : Gl X "enumerate") (hm : X.mg "enumerate" = none) (ha : PA X [a] ta) (hs : starEach [a] X.env = [(false, eval a X.env)] := by rfl) : PI X (.Tuple elts x1 tpos) (.Call (.Name "enumerate" p) [a] [] pos) (iEnum X.K ta) := by
  intro pins s σ H R I h
  refine Call_ (ld_blt I hg hm boot_enum (PyProof.Rows.callWith_type1 (thn (ha pos pins s σ H _ I h) fun us s1 ⟨vs, H1, I1, r1, q1⟩ => ?_) hs rfl))
  obtain ⟨l, xs, rfl, sq, q⟩ := q1
  obtain ⟨u, rfl, ru⟩ := vals1 r1
  cases ru
  obtain ⟨its, hv, pl, hz⟩ := I1.list sq
  refine call_enumerate_list pl.isList fun h' o1 o2 o3 o4 => ?_
  have I2 : L2.Inv X pins σ H1 { s1 with heap := h' } := I1.kept (t' := s1.toks) o4
  refine wpAny_pyIter_enum o1 ⟨_, _, _, _, H1, rfl, I2, turn_enum l (s1.heap.objs.size + 1) s1.heap.objs.size (Nat.ne_of_gt (Nat.lt_succ_self _)), ⟨⟨_, o1⟩, o2⟩, fun b hb => ?_, q⟩
  have hb' : s1.heap.objs.size ≤ b := by
    simp only [List.mem_cons, List.not_mem_nil, or_false] at hb
    rcases hb with rfl | rfl
    · exact Nat.le_succ _
    · exact Nat.le_refl _
  exact L2.Inv.fpOk I1 hb' (I1.hok.fresh hb')
def iZip (K : PySem.W.Frag) (ta : TA) : TI := fun σ H R => ta σ H fun vs H1 => ∃ a b xs ys, vs = [.ref a, .ref b] ∧ SqL K H1 a xs ∧ SqL K H1 b ys ∧ R (Itz K a b) H1
theorem pi_zip {a b : Expr} {ta : TA} {p pos : Pos} (hg : Gl X "zip") (hm : X.mg "zip" = none) (ha : PA X [a, b] ta) (hs : starEach [a, b] X.env = (false, eval a X.env) :: starEach [b] X.env := by rfl) (hpl : (backTo pos (starEach [b] X.env)).any (·.1) = false := by rfl) : PI X (.Tuple elts x1 tpos) (.Call (.Name "zip" p) [a, b] [] pos) (iZip X.K ta) := by
  intro pins s σ H R I h
  refine Call_ (ld_blt I hg hm boot_zip (PyProof.Rows.callWith_type1 (thn (ha pos pins s σ H _ I h) fun us s1 ⟨vs, H1, I1, r1, q1⟩ => ?_) hs hpl))
  obtain ⟨l1, l2, xs, ys, rfl, sq1, sq2, q⟩ := q1
  obtain ⟨u, u', rfl, ru, ru'⟩ := vals2 r1
  cases ru; cases ru'
  obtain ⟨its1, hv1, pl1, hz1⟩ := I1.list sq1
  obtain ⟨its2, hv2, pl2, hz2⟩ := I1.list sq2
  have lt1 : l1 < s1.heap.objs.size := by obtain ⟨o, _, e, _⟩ := pl1; exact Heap.lt_size e
  have lt2 : l2 < s1.heap.objs.size := by obtain ⟨o, _, e, _⟩ := pl2; exact Heap.lt_size e
  refine call_zip_2 pl1.isList pl2.isList fun h' o1 o2 o3 o4 o5 o6 o7 => ?_
  have I2 : L2.Inv X pins σ H1 { s1 with heap := h' } := I1.kept (t' := s1.toks) o7
  have D : ZipApart (s1.heap.objs.size + 4) (s1.heap.objs.size + 2) (s1.heap.objs.size + 3) s1.heap.objs.size (s1.heap.objs.size + 1) l1 l2 := by
    exact zip_apart _ _ _ lt1 lt2
  refine wpAny_pyIter_zip o1 ⟨_, _, _, _, H1, rfl, I2, turn_zip l1 l2 _ _ _ _ _ D, ⟨o1, o2, ⟨_, _, o3⟩, o4, o5⟩, fun b hb => ?_, q⟩
  have hb' : s1.heap.objs.size ≤ b := by
    simp only [List.mem_cons, List.not_mem_nil, or_false] at hb
    rcases hb with rfl | rfl | rfl | rfl | rfl <;> first | exact Nat.le_add_right _ _ | exact Nat.le_refl _
  exact L2.Inv.fpOk I1 hb' (I1.hok.fresh hb')
def fEnum (g : FA) : FI := fun δ L => (g δ L).bind fun p => match p.1 with
  | [.ref n] => (seqAt p.2 n).map fun _ => (.enm n, p.2)
  | _ => none
def fZip (g : FA) : FI := fun δ L => (g δ L).bind fun p => match p.1 with
  | [.ref n, .ref m] => (seqAt p.2 n).bind fun _ => (seqAt p.2 m).map fun _ => (.zip2 n m, p.2)
  | _ => none
theorem seqAt_addr {K : PySem.W.Frag} {H : Hp} {α : List Addr} {L : UH} {n : Nat} {a : Addr} {us : List U} (A : Abs K H α L) (ea : α[n]? = some a) (h : seqAt L n = some us) : ∃ xs, SqL K H a xs ∧ RepL K H α us xs := by
  obtain ⟨a', xs, ea', sq, r⟩ := seqAt_ok A h
  rw [ea] at ea'; cases ea'
  exact ⟨xs, sq, r⟩
theorem ite_rep {K : PySem.W.Frag} {H : Hp} {α : List Addr} {n : Nat} {a : Addr} (hinj : ∀ (H : Hp) xs ys, SqL K H a xs → SqL K H a ys → True) (ea : α[n]? = some a) : ItRep K (Ite K a) (.enm n) H α := by
  intro H2 α2 L2 g A2 k
  have ea2 := g.at ea
  refine ⟨fun u eu => ?_, fun eu => ?_⟩
  · obtain ⟨us, hs, eu⟩ := Option.map_eq_some_iff.mp eu
    obtain ⟨xs, sq, r⟩ := seqAt_addr A2 ea2 hs
    obtain ⟨w, hw, eu⟩ := Option.map_eq_some_iff.mp eu
    subst eu
    obtain ⟨x, hx, rx⟩ := r.get hw
    refine ⟨⟨xs, x, sq, hx⟩, ?_⟩
    rintro y H3 ⟨p, v, hp, rfl, rfl, hy⟩
    have := hy xs sq
    rw [hx] at this; cases this
    exact A2.tup (.cons rfl (.cons rx .nil)) hp
  · obtain ⟨us, hs, eu⟩ := Option.map_eq_some_iff.mp eu
    obtain ⟨xs, sq, r⟩ := seqAt_addr A2 ea2 hs
    have : us[k]? = none := by simpa using eu
    exact ⟨xs, sq, by rw [← r.length]; exact List.getElem?_eq_none_iff.mp this⟩
theorem itz_rep {K : PySem.W.Frag} {H : Hp} {α : List Addr} {n m : Nat} {a b : Addr} (ea : α[n]? = some a) (eb : α[m]? = some b) : ItRep K (Itz K a b) (.zip2 n m) H α := by
  intro H2 α2 L2 g A2 k
  have ea2 := g.at ea
  have eb2 := g.at eb
  refine ⟨fun u eu => ?_, fun eu => ?_⟩
  · obtain ⟨us, hs, eu⟩ := Option.bind_eq_some_iff.mp eu
    obtain ⟨ws, hw, eu⟩ := Option.map_eq_some_iff.mp eu
    obtain ⟨xs, sq, r⟩ := seqAt_addr A2 ea2 hs
    obtain ⟨ys, sq', r'⟩ := seqAt_addr A2 eb2 hw
    cases h1 : us[k]? with
    | none => rw [h1] at eu; simp [pairU] at eu
    | some u1 =>
      cases h2 : ws[k]? with
      | none => rw [h1, h2] at eu; simp [pairU] at eu
      | some u2 =>
        rw [h1, h2] at eu
        simp [pairU] at eu
        subst eu
        obtain ⟨x, hx, rx⟩ := r.get h1
        obtain ⟨y, hy, ry⟩ := r'.get h2
        refine ⟨⟨xs, ys, x, y, sq, sq', hx, hy⟩, ?_⟩
        rintro z H3 ⟨p, v, v', hp, rfl, rfl, hy1, hy2⟩
        have e1 := hy1 xs sq
        have e2 := hy2 ys sq'
        rw [hx] at e1; cases e1
        rw [hy] at e2; cases e2
        exact A2.tup (.cons rx (.cons ry .nil)) hp
  · obtain ⟨us, hs, eu⟩ := Option.bind_eq_some_iff.mp eu
    obtain ⟨ws, hw, eu⟩ := Option.map_eq_some_iff.mp eu
    obtain ⟨xs, sq, r⟩ := seqAt_addr A2 ea2 hs
    obtain ⟨ys, sq', r'⟩ := seqAt_addr A2 eb2 hw
    refine ⟨xs, ys, sq, sq', ?_⟩
    cases h1 : us[k]? with
    | none => left; rw [← r.length]; exact List.getElem?_eq_none_iff.mp h1
    | some u1 =>
      cases h2 : ws[k]? with
      | none => right; rw [← r'.length]; exact List.getElem?_eq_none_iff.mp h2
      | some u2 => rw [h1, h2] at eu; simp [pairU] at eu
theorem pif_enum {a : Expr} {g : FA} {p pos : Pos} (hg : Gl X "enumerate") (hm : X.mg "enumerate" = none) (ha : PAF X [a] g) (hs : starEach [a] X.env = [(false, eval a X.env)] := by rfl) : PIF X (.Tuple elts x1 tpos) (.Call (.Name "enumerate" p) [a] [] pos) (fEnum g) := by
  refine PI.imp (pi_enum hg hm ha hs) ?_
  rintro σ H R ⟨α, δ, L, A, S, i, L3, e, q⟩
  obtain ⟨⟨us, L1⟩, e1, e⟩ := Option.bind_eq_some_iff.mp e
  refine ⟨α, δ, L, A, S, us, L1, e1, fun xs H1 α1 g1 A1 r1 => ?_⟩
  simp only at e
  split at e
  · obtain ⟨l, hl, e⟩ := Option.map_eq_some_iff.mp e
    cases e
    obtain ⟨x, rfl, rx⟩ := r1.one
    obtain ⟨a', ys, rfl, sq, r2⟩ := refs_at A1 hl rx
    obtain ⟨a2, ea, ha2⟩ := rx.ref_of A1
    cases ha2
    exact ⟨a', ys, rfl, sq, q _ H1 α1 g1 A1 (ite_rep (fun _ _ _ _ _ => trivial) ea)⟩
  · cases e
theorem pif_zip {a b : Expr} {g : FA} {p pos : Pos} (hg : Gl X "zip") (hm : X.mg "zip" = none) (ha : PAF X [a, b] g) (hs : starEach [a, b] X.env = (false, eval a X.env) :: starEach [b] X.env := by rfl) (hpl : (backTo pos (starEach [b] X.env)).any (·.1) = false := by rfl) : PIF X (.Tuple elts x1 tpos) (.Call (.Name "zip" p) [a, b] [] pos) (fZip g) := by
  refine PI.imp (pi_zip hg hm ha hs hpl) ?_
  rintro σ H R ⟨α, δ, L, A, S, i, L3, e, q⟩
  obtain ⟨⟨us, L1⟩, e1, e⟩ := Option.bind_eq_some_iff.mp e
  refine ⟨α, δ, L, A, S, us, L1, e1, fun xs H1 α1 g1 A1 r1 => ?_⟩
  simp only at e
  split at e
  · obtain ⟨l, hl, e⟩ := Option.bind_eq_some_iff.mp e
    obtain ⟨l', hl', e⟩ := Option.map_eq_some_iff.mp e
    cases e
    obtain ⟨x, y, rfl, rx, ry⟩ := r1.two
    obtain ⟨a', ys, rfl, sq, r2⟩ := refs_at A1 hl rx
    obtain ⟨b', ys', rfl, sq', r2'⟩ := refs_at A1 hl' ry
    obtain ⟨a2, ea, ha2⟩ := rx.ref_of A1
    cases ha2
    obtain ⟨b2, eb, hb2⟩ := ry.ref_of A1
    cases hb2
    exact ⟨a', b', ys, ys', rfl, sq, sq', q _ H1 α1 g1 A1 (itz_rep ea eb)⟩
  · cases e
end
end MR

set_option Elab.async false
set_option linter.all false
set_option maxRecDepth 100000
set_option maxHeartbeats 4000000
namespace MR
open PySem PySem.Spec PyProof.Rows L2
theorem fm_congr {β γ : Type} {f g : β → Option γ} : ∀ {l : List β}, (∀ x ∈ l, f x = g x) → l.filterMap f = l.filterMap g
  | [], _ => rfl
  | a :: l, h => by rw [List.filterMap_cons, List.filterMap_cons, h a (List.mem_cons_self ..), fm_congr fun x hx => h x (List.mem_cons_of_mem _ hx)]
theorem back_aux {β : Type} : ∀ r : List β, ((List.range r.length).map fun (k : Nat) => (((r.length : Int) - 1 + -1 * (k : Int)).toNat)).filterMap (r.reverse[·]?) = r
  | [] => rfl
  | a :: r => by
    have ih := back_aux r
    rw [List.length_cons, List.range_succ_eq_map, List.map_cons, List.filterMap_cons]
    have h0 : (a :: r).reverse[(((r.length + 1 : Nat) : Int) - 1 + -1 * ((0 : Nat) : Int)).toNat]? = some a := by
      have : (((r.length + 1 : Nat) : Int) - 1 + -1 * ((0 : Nat) : Int)).toNat = r.reverse.length := by rw [List.length_reverse]; omega
      rw [this, List.reverse_cons, List.getElem?_append_right (Nat.le_refl _)]
      simp
    rw [h0]
    simp only
    congr 1
    rw [List.map_map, List.filterMap_map]
    rw [List.filterMap_map] at ih
    refine Eq.trans (fm_congr fun k hk => ?_) ih
    have hk := List.mem_range.mp hk
    simp only [Function.comp]
    have : (((r.length + 1 : Nat) : Int) - 1 + -1 * ((k.succ : Nat) : Int)).toNat = ((r.length : Int) - 1 + -1 * (k : Int)).toNat := by simp only [Nat.succ_eq_add_one]; omega
    rw [this, List.reverse_cons, List.getElem?_append_left (by rw [List.length_reverse]; omega)]
theorem slicePick_back (its : List Value) : slicePick its.toArray none none (some (-1)) = its.reverse.toArray := by
  unfold slicePick
  have e : sliceBounds none none (some (-1)) its.toArray.size = ((its.length : Int) - 1, -1, -1) := by simp [sliceBounds]
  rw [e]
  have e2 : sliceRange ((its.length : Int) - 1) (-1) (-1) = (List.range its.length).map fun (k : Nat) => (((its.length : Int) - 1 + -1 * (k : Int)).toNat) := by
    unfold sliceRange
    have : (if (-1 : Int) > 0 then (if ((its.length : Int) - 1) < -1 then (-1 - ((its.length : Int) - 1) + -1 - 1) / -1 else 0) else (if ((its.length : Int) - 1) > -1 then (((its.length : Int) - 1) - -1 - -1 - 1) / (- -1) else 0)).toNat = its.length := by
      rw [if_neg (by decide)]
      split
      · have : (its.length : Int) - 1 - -1 - -1 - 1 = its.length := by omega
        rw [this]
        simp
      · simp; omega
    simp only [this]
  simp only
  rw [e2]
  have := back_aux its.reverse
  rw [List.length_reverse, List.reverse_reverse] at this
  have h2 : (List.filterMap (fun x => its.toArray[x]?) (List.map (fun (k : Nat) => (((its.length : Int) - 1 + -1 * (k : Int)).toNat)) (List.range its.length))) = its.reverse := by
    rw [← this]
    simp
  rw [h2]
theorem Vals.rev {xs : List V} {us : List Value} (h : Vals xs us) : Vals xs.reverse us.reverse := by
  induction h with
  | nil => exact .nil
  | cons h1 _ ih => rw [List.reverse_cons, List.reverse_cons]; exact ih.append (.cons h1 .nil)
theorem RepL.rev {K : PySem.W.Frag} {H : Hp} {α : List Addr} : ∀ {us : List U} {xs : List V}, RepL K H α us xs → RepL K H α us.reverse xs.reverse
  | [], xs, r => by unfold RepL at r; subst r; exact .nil
  | u :: us, xs, r => by
    unfold RepL at r
    obtain ⟨x, xr, rfl, r1, r2⟩ := r
    rw [List.reverse_cons, List.reverse_cons]
    exact (RepL.rev r2).append (.cons r1 .nil)
end MR
namespace HT
open PySem PySem.Spec PyProof.Rows
section
variable {prog : Program} {w : World} {A : Around} {E : Value → Shared → Prop} {s : Shared}
theorem sliceApplied_back {sl : Addr} {vs : Value} {n : Nat} {Q : Int × Int × Nat → Shared → Prop} (hs : s.heap.IsSliceOf sl .none .none vs) (pu : IsPart vs (some (-1)))
    (h : Q ((n : Int) - 1, -1, n) s) : wpAny (model prog w) A (Builtin.Slice.sliceApplied (.ref sl) (pure (n : Int))) Q E s := by
  obtain ⟨os, hos, hcs, hds⟩ := id hs
  unfold Builtin.Slice.sliceApplied Builtin.Slice.sliceFields
  refine wpAny_bind (wpAny_bind (wpAny_field hos hds (x := .none) rfl (wpAny_bind (wpAny_field hos hds (x := .none) rfl (wpAny_bind (wpAny_field hos hds (x := vs) rfl (wpAny_pure ?_)))))))
  refine wpAny_bind (slicePart_ pu ?_)
  show wpAny _ _ (if ((-1 : Int) == 0) = true then _ else _) _ _ s
  rw [if_neg (by decide)]
  refine wpAny_bind (slicePart_ .none (wpAny_bind (slicePart_ .none (wpAny_bind (wpAny_pure ?_)))))
  show wpAny _ _ (match Builtin.Slice.sliceAdjust none none (-1) (n : Int) with | (lo, hi) => pure (lo, (-1 : Int), Builtin.Slice.slicePlaces lo hi (-1))) _ _ s
  have e1 : Builtin.Slice.sliceAdjust none none (-1) (n : Int) = ((n : Int) - 1, -1) := rfl
  rw [e1]
  show wpAny _ _ (pure ((n : Int) - 1, (-1 : Int), Builtin.Slice.slicePlaces ((n : Int) - 1) (-1) (-1))) _ _ s
  have e2 : Builtin.Slice.slicePlaces ((n : Int) - 1) (-1) (-1) = n := by
    unfold Builtin.Slice.slicePlaces
    rw [if_neg (by decide)]
    split
    · simp
    · simp; omega
  rw [e2]
  exact wpAny_pure h
theorem pick_back (xs : List Value) : ((List.range xs.length).filterMap fun (m : Nat) => xs.toArray[((xs.length : Int) - 1 + (m : Int) * -1).toNat]?).toArray = xs.reverse.toArray := by
  have := MR.back_aux xs.reverse
  rw [List.length_reverse, List.reverse_reverse, List.filterMap_map] at this
  rw [← this]
  congr 1
  refine MR.fm_congr fun k _ => ?_
  simp only [Function.comp]
  have : ((xs.length : Int) - 1 + (k : Int) * -1) = ((xs.length : Int) - 1 + -1 * (k : Int)) := by omega
  rw [this]
  simp
theorem getItem_tuple_back {t sl : Addr} {its : List Value} {vs : Value} {Q : Value → Shared → Prop} (ht : IsTup s.heap t its.toArray) (hs : s.heap.IsSliceOf sl .none .none vs) (pu : IsPart vs (some (-1)))
    (h : Q (.ref s.heap.objs.size) { s with heap := s.heap.push { cls := .type "tuple", data := .seq its.reverse.toArray } })
    (hsz : its.length ≤ sizeLine) : wpAny (model prog w) A (getItem (.ref t) (.ref sl)) Q E s := by
  have htake : sizeOk (.seq its.reverse.toArray) := by
    show its.reverse.toArray.size ≤ sizeLine
    rw [List.size_toArray, List.length_reverse]; exact hsz
  obtain ⟨os, hos, hcs, hds⟩ := id hs
  have hTs : s.TypeIs (.ref sl) "slice" := ⟨os, hos, hcs⟩
  unfold getItem
  try with_reducible refine wpAny_holding ?_
  first | refine wpAny_bind (wpAny_pure ?_) | skip
  refine wpAny_bind (wpAny_sequenceKey ht.typeIs (by decide) ?_)
  refine wpAny_bind (wpAny_callSpecial?_slot (name := Str.ofString "__getitem__") ht.typeIs PyProof.Rows.slot_tuple_getitem
    (wpAny_call_entry PyProof.Rows.slot_tuple_getitem ht.typeIs entry_tuple_getitem ?_ (args_tuple_getitem _ _)))
  show wpAny _ _ (Builtin.Tuple.tupleItemsOf (.ref t) >>= _) _ _ s
  refine wpAny_bind (tupleItemsOf_ ht ?_)
  refine wpAny_bind (wpAny_typeOf hTs ?_)
  rw [if_pos (by decide)]
  refine wpAny_bind (sliceApplied_back hs pu ?_)
  show wpAny _ _ (if ((((its.toArray.size : Nat) : Int) - 1) == 0 && (-1 : Int) == 1 && its.toArray.size == its.toArray.size) = true then _ else _) _ _ s
  have hno : ¬ (((((its.toArray.size : Nat) : Int) - 1) == 0 && (-1 : Int) == 1 && its.toArray.size == its.toArray.size) = true) := by simp
  rw [if_neg hno]
  have e : ((List.range its.toArray.size).filterMap fun (m : Nat) => its.toArray[((its.toArray.size : Int) - 1 + (m : Int) * -1).toNat]?).toArray = its.reverse.toArray := by
    have := pick_back its
    simpa using this
  first
    | (rw [e]
       first
        | exact wpAny_bind (m := Builtin.Tuple.tupleExact _) (wpAny_newObj_type (wpAny_pure ⟨_, rfl, wpAny_pure h⟩) htake)
        | exact wpAny_bind (m := Builtin.Tuple.tupleExact _) (wpAny_newObj_type (wpAny_bind (wpAny_pure (wpAny_pure ⟨_, rfl, wpAny_pure h⟩))) htake)
        | exact wpAny_bind (wpAny_bind (m := Builtin.Tuple.tupleExact _) (wpAny_newObj_type (wpAny_pure (wpAny_pure ⟨_, rfl, wpAny_pure h⟩)) htake))
        | exact wpAny_bind (wpAny_bind (m := Builtin.Tuple.tupleExact _) (wpAny_newObj_type (wpAny_pure ⟨_, rfl, wpAny_pure h⟩) htake)))
end
end HT
namespace MR
open PySem PySem.Spec PyProof.Rows L2
section
variable {X : Cx} {e st : Expr} {fa fs : FE} {p2 pos : Pos}
def fRev (f : FE) : FE := fun δ L => (f δ L).bind fun p => match p.1 with | .ref n => (seqAt p.2 n).map fun l => (.ref p.2.length, p.2 ++ [.lst l.reverse]) | .tup l => some (.tup l.reverse, p.2) | _ => none
theorem pf_rev (he : PEF X e fa) {q1 q2 : Pos} {k : Nat} : PEF X (.Subscript e (.Slice none none (some (.UnaryOp .USub (.Constant (.int 1) k q1) q2)) p2) pos) (fRev fa) := by
  rintro pins s σ H Q I ⟨α, δ, L, A, S, z, L3, ee, q⟩
  obtain ⟨⟨u, L1⟩, e1, ee⟩ := Option.bind_eq_some_iff.mp ee
  refine Subscript_ (thn (he pins s σ H (fun x H1 => ∃ α1, Gr H α H1 α1 ∧ Abs X.K H1 α1 L1 ∧ RepU X.K H1 α1 u x) I ⟨α, δ, L, A, S, u, L1, e1, fun x H1 α1 g1 A1 r1 => ⟨α1, g1, A1, r1⟩⟩) fun v s1 ⟨x, H1, I1, r1, α1, g1, A1, ru⟩ => ?_)
  cases u with
  | ref n =>
    obtain ⟨l, hl, ee⟩ := Option.map_eq_some_iff.mp ee
    cases ee
    obtain ⟨a, xs, ea, sq, r⟩ := seqAt_ok A1 hl
    obtain ⟨a', ea', rfl⟩ := ru.ref_of A1
    rw [ea] at ea'; cases ea'
    cases r1
    have ps : POF X (some (.UnaryOp .USub (.Constant (.int 1) k q1) q2)) (fPart (fNeg (fC (.int 1)))) := pof_some (pf_neg pf_int)
    refine wpAny_Slice ?_
    rw [evalPart_none]
    refine wpAny_pure (wpAny_pure ?_)
    refine thn (ps pins s1 σ H1 (fun o H' => o = some (-1) ∧ ∃ α2, Gr H1 α1 H' α2 ∧ Abs X.K H' α2 L1) I1 ⟨α1, δ, L1, A1, S.mono g1, some (-1), L1, rfl, fun H2 α2 g2 A2 => ⟨rfl, α2, g2, A2⟩⟩) fun vs s3 ⟨o, H3, I3, pu, ho, α3, g3, A3⟩ => ?_
    subst ho
    have I4 : L2.Inv X pins σ H3 { s3 with heap := s3.heap.push { cls := .type "slice", data := .fields #[.none, .none, vs] } } := I3.kept (t' := s3.toks) fun b ob q => Heap.get?_push_of_some _ q
    obtain ⟨a3, xs3, ea3, sq3, r3⟩ := seqAt_ok A3 hl
    have : a3 = a := by
      obtain ⟨ys, hy⟩ := g3.1
      rw [hy, List.getElem?_append_left (List.getElem?_eq_some_iff.mp ea).1, ea] at ea3
      exact (Option.some.inj ea3).symm
    subst this
    obtain ⟨its, rv, ht, hz⟩ := I4.list sq3
    have hlen := rv.length
    show wpAny (model X.prog X.w) X.A (subscriptTail e (.Slice none none _ p2) (.ref _) (.ref s3.heap.objs.size)) (EP X pins σ Q) X.xe { s3 with heap := s3.heap.push { cls := .type "slice", data := .fields #[.none, .none, vs] } }
    refine tail_any (ops := [.ref _, .ref s3.heap.objs.size]) ht.isList.typeIs slot_list_getitem.lookup ?_ (by with_unfolding_all rfl)
    refine wpAny_getItem_list_slice ht.isList (Heap.IsSliceOf.new ..) .none .none pu (by simp) ?_ (by rw [List.size_toArray] <;> omega)
    rw [slicePick_back]
    obtain ⟨g4, A4, r4⟩ := A3.lst r3.rev (I4.hok.fresh (Nat.le_refl _))
    refine ⟨.ref _, _, I4.laid (t' := s3.toks) (o := .lst xs3.reverse) (fun b ob q => Heap.get?_push_of_some _ q) (Nat.le_refl _) ?_, rfl, q _ _ _ (g1.trans (g3.trans g4)) A4 r4⟩
    exact ⟨by rw [List.length_reverse]; exact hz, _, 0, Vals.rev rv, Heap.get?_push_size _ rfl⟩
  | tup l =>
    cases ee
    unfold RepU at ru
    obtain ⟨a, xs, rfl, sq, r⟩ := ru
    cases r1
    have ps : POF X (some (.UnaryOp .USub (.Constant (.int 1) k q1) q2)) (fPart (fNeg (fC (.int 1)))) := pof_some (pf_neg pf_int)
    refine wpAny_Slice ?_
    rw [evalPart_none]
    refine wpAny_pure (wpAny_pure ?_)
    refine thn (ps pins s1 σ H1 (fun o H' => o = some (-1) ∧ ∃ α2, Gr H1 α1 H' α2 ∧ Abs X.K H' α2 L1) I1 ⟨α1, δ, L1, A1, S.mono g1, some (-1), L1, rfl, fun H2 α2 g2 A2 => ⟨rfl, α2, g2, A2⟩⟩) fun vs s3 ⟨o, H3, I3, pu, ho, α3, g3, A3⟩ => ?_
    subst ho
    have I4 : L2.Inv X pins σ H3 { s3 with heap := s3.heap.push { cls := .type "slice", data := .fields #[.none, .none, vs] } } := I3.kept (t' := s3.toks) fun b ob q => Heap.get?_push_of_some _ q
    have rr : RepU X.K H3 α3 (.tup l) (.ref a) := (show RepU X.K H1 α1 (.tup l) (.ref a) by unfold RepU; exact ⟨a, xs, rfl, sq, r⟩).mono g3
    unfold RepU at rr
    obtain ⟨a3, xs3, ha3, sq3, r3⟩ := rr
    cases ha3
    obtain ⟨its, rv, ht, hz⟩ := I4.tuple sq3
    have hlen := rv.length
    show wpAny (model X.prog X.w) X.A (subscriptTail e (.Slice none none _ p2) (.ref _) (.ref s3.heap.objs.size)) (EP X pins σ Q) X.xe { s3 with heap := s3.heap.push { cls := .type "slice", data := .fields #[.none, .none, vs] } }
    refine tail_any (ops := [.ref _, .ref s3.heap.objs.size]) ht.typeIs PyProof.Rows.slot_tuple_getitem.lookup ?_ (by with_unfolding_all rfl)
    refine HT.getItem_tuple_back ht (Heap.IsSliceOf.new ..) pu ?_ (by omega)
    obtain ⟨g4, A4, r4⟩ := A3.tup r3.rev (I4.hok.fresh (Nat.le_refl _))
    refine ⟨.ref _, _, I4.laid (t' := s3.toks) (o := .tup xs3.reverse) (fun b ob q => Heap.get?_push_of_some _ q) (Nat.le_refl _) ?_, rfl, q _ _ _ (g1.trans (g3.trans g4)) A4 r4⟩
    exact ⟨by rw [List.length_reverse]; exact hz, _, Vals.rev rv, IsTup.new _ _⟩
  | _ => cases ee
end
end MR

set_option Elab.async false
set_option linter.all false
set_option maxRecDepth 100000
set_option maxHeartbeats 4000000
namespace MR
open PySem PySem.Spec PyProof.Rows L2
structure ClsF (K : PySem.W.Frag) (C : Str) (Ca : Addr) : Prop where
  ns : PySem.W.nsIn K mainGlobals C = some (some (.ref Ca))
  cl : Cls K Ca
theorem ClsF.eq {K : PySem.W.Frag} {C : Str} {Ca Cb : Addr} (T : ClsF K C Ca) (h : PySem.W.nsIn K mainGlobals C = some (some (.ref Cb))) : Cb = Ca := by
  have := T.ns.symm.trans h
  simpa using this.symm
section
variable {X : Cx} {o e value : Expr} {es : List Expr} {f m C x : Str} {p pos pos' apos : Pos} {Ca fa : Addr} {fd : FuncData} {ps : List Str} {k n : Nat} {F : FN} {fe fo fv : FE} {g : FA}
end
end MR

set_option Elab.async false
set_option linter.all false
set_option maxRecDepth 100000
set_option maxHeartbeats 4000000
namespace ZT
open PySem PySem.Spec PyProof.Rows
open Sem (wp)
/-- the kind of a row: a list or a tuple -/
def SqK (b : Bool) (h : Heap) (l : Addr) (xs : Array Value) : Prop := match b with
  | true => h.IsList l xs
  | false => h.IsTuple l xs
def ItK (b : Bool) (h : Heap) (jt l : Addr) (k : Nat) : Prop := match b with
  | true => h.IsListIter jt l k
  | false => h.IsTupleIter jt l k
theorem SqK.keep {b : Bool} {h h' : Heap} {l : Addr} {xs : Array Value} (x : SqK b h l xs) (e : ∀ o, h.get? l = some o → h'.get? l = some o) : SqK b h' l xs := by
  cases b with
  | true => obtain ⟨o, ho, r⟩ := x; exact ⟨o, e _ ho, r⟩
  | false => obtain ⟨o, ho, r⟩ := x; exact ⟨o, e _ ho, r⟩
theorem ItK.keep {b : Bool} {h h' : Heap} {jt l : Addr} {k : Nat} (x : ItK b h jt l k) (e : ∀ o, h.get? jt = some o → h'.get? jt = some o) : ItK b h' jt l k := by
  cases b with
  | true => obtain ⟨o, ho, r⟩ := x; exact ⟨o, e _ ho, r⟩
  | false => obtain ⟨o, ho, r⟩ := x; exact ⟨o, e _ ho, r⟩
theorem ItK.lt {b : Bool} {h : Heap} {jt l : Addr} {k : Nat} (x : ItK b h jt l k) : jt < h.objs.size := by
  cases b with
  | true => obtain ⟨o, ho, r⟩ := x; exact Heap.lt_size ho
  | false => obtain ⟨o, ho, r⟩ := x; exact Heap.lt_size ho
theorem ItK.obj {b : Bool} {h : Heap} {jt l : Addr} {k : Nat} (x : ItK b h jt l k) : ∃ o, h.get? jt = some o ∧ o.data = .fields #[.ref l, .int k 0] := by
  cases b with
  | true => obtain ⟨o, ho, _, r⟩ := x; exact ⟨o, ho, r⟩
  | false => obtain ⟨o, ho, _, r⟩ := x; exact ⟨o, ho, r⟩
section
variable {prog : Program} {w : World} {A : Around} {E : Value → Shared → Prop} {s : Shared}
theorem next_tup {jt t : Addr} {k : Nat} {its : Array Value} {v : Value} {Q : Value → Shared → Prop} (hj : s.heap.IsTupleIter jt t k) (ht : s.heap.IsTuple t its) (hv : its[k]? = some v)
    (hQ : ∀ h', h'.IsTupleIter jt t (k + 1) → Heap.SameBut jt s.heap h' → Q v { s with heap := h' }) : wpAny (model prog w) A (Builtin.SmallTypes.nextOf (.ref jt)) Q E s := by
  obtain ⟨ob, hob, hcl, hda⟩ := id hj
  obtain ⟨ot, hot, _, nt, hdt⟩ := ht
  unfold Builtin.SmallTypes.nextOf
  refine wpAny_bind (wpAny_callSpecial?_slot (name := Str.ofString "__next__") hj.typeIs F.slot_tuple_iterator_next (wpAny_call_entry F.slot_tuple_iterator_next hj.typeIs F.entry_tuple_iterator_next ?_ (F.args_tuple_iterator_next_1 _)))
  show wpAny _ _ (field (.ref jt) 0 >>= _) _ _ s
  refine wpAny_bind (wpAny_field hob hda (x := .ref t) rfl ?_)
  show wpAny _ _ (if (Value.ref t == Value.none) = true then _ else _) _ _ s
  rw [if_neg (show ¬ ((Value.ref t == Value.none) = true) from (fun z => Bool.false_ne_true z))]
  show wpAny _ _ (field (.ref jt) 1 >>= _) _ _ s
  refine wpAny_bind (wpAny_field hob hda (x := .int k 0) rfl ?_)
  show wpAny _ _ (seqItems? (.ref t) >>= fun z => _) _ _ s
  refine wpAny_bind (wpAny_seqItems hot hdt ?_)
  simp only [Int.toNat_natCast, hv]
  refine wpAny_bind (wpAny_setField hob hda (by simp) (wpAny_pure ⟨v, rfl, wpAny_pure (hQ _ ?_ (Heap.SameBut.update ..))⟩))
  exact ⟨_, Heap.get?_update_self _ hob (Obj.isFreed_of_fields (Obj.data_mapFields hda _)), (Obj.cls_mapFields ..).trans hcl, by rw [Obj.data_mapFields hda]; simp [rawInt]⟩
theorem stop_tup {jt t : Addr} {k : Nat} {its : Array Value} {Q : Value → Shared → Prop} (hh : A.handled = none) (hj : s.heap.IsTupleIter jt t k) (ht : s.heap.IsTuple t its) (hv : its[k]? = none)
    (hE : ∀ h' e, Heap.ExtBut jt s.heap h' → (∃ ob, h'.get? e = some ob ∧ ob.cls = .type "StopIteration") → E (.ref e) { s with heap := h' }) : wpAny (model prog w) A (Builtin.SmallTypes.nextOf (.ref jt)) Q E s := by
  obtain ⟨ob, hob, hcl, hda⟩ := id hj
  obtain ⟨ot, hot, _, nt, hdt⟩ := ht
  unfold Builtin.SmallTypes.nextOf
  refine wpAny_bind (wpAny_callSpecial?_slot (name := Str.ofString "__next__") hj.typeIs F.slot_tuple_iterator_next (wpAny_call_entry F.slot_tuple_iterator_next hj.typeIs F.entry_tuple_iterator_next ?_ (F.args_tuple_iterator_next_1 _)))
  show wpAny _ _ (field (.ref jt) 0 >>= _) _ _ s
  refine wpAny_bind (wpAny_field hob hda (x := .ref t) rfl ?_)
  show wpAny _ _ (if (Value.ref t == Value.none) = true then _ else _) _ _ s
  rw [if_neg (show ¬ ((Value.ref t == Value.none) = true) from (fun z => Bool.false_ne_true z))]
  show wpAny _ _ (field (.ref jt) 1 >>= _) _ _ s
  refine wpAny_bind (wpAny_field hob hda (x := .int k 0) rfl ?_)
  show wpAny _ _ (seqItems? (.ref t) >>= fun z => _) _ _ s
  refine wpAny_bind (wpAny_seqItems hot hdt ?_)
  simp only [Int.toNat_natCast, hv]
  refine wpAny_bind (wpAny_rule (wpAny_bind (wpAny_setField hob hda (by simp) ?_)))
  show wpAny _ _ (newExc (.type "StopIteration") [] >>= fun z => _) _ _ _
  refine wpAny_bind ?_
  simp only [newExc, newTuple]; refine wpAny_bind (wpAny_newObj_type ?_ (by size_fits))
  refine wpAny_bind (m := firstArgMember _ _) (wpAny_of_eq (a := Value.none) (by first | rfl | (simp only [firstArgMember]; rfl)) (wpAny_newObj_type ?_ (by size_fits)))
  simp only [raiseNew]; refine wpAny_bind (wpAny_handled ?_)
  first | rw [show A.in1.handled = none from hh] | (rw [hh])
  exact wpAny_bind (wpAny_pure (wpAny_throw (hE _ _ (((Heap.SameBut.update ..).extBut.push _).push _) ⟨_, Heap.get?_push_size _ rfl, rfl⟩)))
theorem next_k {b : Bool} {jt l : Addr} {k : Nat} {its : Array Value} {v : Value} {Q : Value → Shared → Prop} (hj : ItK b s.heap jt l k) (hl : SqK b s.heap l its) (hv : its[k]? = some v)
    (hQ : ∀ h', ItK b h' jt l (k + 1) → Heap.SameBut jt s.heap h' → Q v { s with heap := h' }) : wpAny (model prog w) A (Builtin.SmallTypes.nextOf (.ref jt)) Q E s := by
  cases b with
  | true => exact wpAny_nextOf_list_item hj hl hv hQ
  | false => exact next_tup hj hl hv hQ
theorem stop_k {b : Bool} {jt l : Addr} {k : Nat} {its : Array Value} {Q : Value → Shared → Prop} (hh : A.handled = none) (hj : ItK b s.heap jt l k) (hl : SqK b s.heap l its) (hv : its[k]? = none)
    (hE : ∀ h' e, Heap.ExtBut jt s.heap h' → (∃ ob, h'.get? e = some ob ∧ ob.cls = .type "StopIteration") → E (.ref e) { s with heap := h' }) : wpAny (model prog w) A (Builtin.SmallTypes.nextOf (.ref jt)) Q E s := by
  cases b with
  | true => exact wpAny_nextOf_list_end hh hj hl hv hE
  | false => exact stop_tup hh hj hl hv hE
theorem SqK.but {b : Bool} {h h' : Heap} {l c : Addr} {xs : Array Value} (x : SqK b h l xs) (e : Heap.ExtBut c h h') (hne : l ≠ c) : SqK b h' l xs := x.keep fun o q => e l o hne q
theorem ItK.but {b : Bool} {h h' : Heap} {jt l c : Addr} {k : Nat} (x : ItK b h jt l k) (e : Heap.ExtBut c h h') (hne : jt ≠ c) : ItK b h' jt l k := x.keep fun o q => e jt o hne q
variable {b1 b2 : Bool} {z TI TO j1 j2 l1 l2 : Addr} {k1 k2 : Nat} {xs ys : Array Value} {a b : Value}
theorem zn_item {x y : Value} {Q : Value → Shared → Prop} (D : ZipApart z TI TO j1 j2 l1 l2) (hz : IsZip s.heap z TI TO .none) (hI : IsPair s.heap TI (.ref j1) (.ref j2)) (hO : IsPair s.heap TO a b)
    (h1 : ItK b1 s.heap j1 l1 k1) (h2 : ItK b2 s.heap j2 l2 k2) (g1 : SqK b1 s.heap l1 xs) (g2 : SqK b2 s.heap l2 ys) (hx : xs[k1]? = some x) (hy : ys[k2]? = some y)
    (hQ : ∀ h', IsZip h' z TI TO (rawInt s.heap.objs.size) → IsPair h' TO x y → ItK b1 h' j1 l1 (k1 + 1) → ItK b2 h' j2 l2 (k2 + 1) → IsPair h' s.heap.objs.size x y → h'.objs.size = s.heap.objs.size + 1 →
      (∀ c o, c ≠ z → c ≠ TO → c ≠ j1 → c ≠ j2 → s.heap.get? c = some o → h'.get? c = some o) → Q (.ref s.heap.objs.size) { s with heap := h' }) :
    wpAny (model prog w) A (Builtin.«zip.__next__» ⟨[.ref z], []⟩) (fun fin s' => ∃ v, fin = .done (.ret v) ∧ Q v s') E s := by
  show wpAny _ _ (field (.ref z) 2 >>= fun q => _) _ _ _
  refine wpAny_bind (wpAny_field hz rfl (x := .bool false) rfl ?_); show wpAny _ _ (field (.ref z) 3 >>= _) _ _ _
  refine wpAny_bind (wpAny_field hz rfl (x := .ref TI) rfl (wpAny_bind (wpAny_seqItems hI rfl ?_)))
  show wpAny _ _ (Builtin.SmallTypes.ownedTupleIsFree (.ref z) >>= fun q => _) _ _ _
  refine wpAny_bind ?_; unfold Builtin.SmallTypes.ownedTupleIsFree
  refine wpAny_bind (wpAny_field hz rfl (x := .none) rfl (wpAny_pure ?_)); simp only [if_true]
  refine wpAny_bind (wpAny_rule (wpAny_bind (wpAny_field hz rfl (x := .ref TO) rfl (wpAny_bind (wpAny_setField_rec hz (by simp) fun p1 z1 s1 => ?_)))))
  replace z1 : IsZip p1 z TI TO .ellipsis := z1
  refine wpAny_bind ?_; simp only [List.zipIdx_cons, List.zipIdx_nil, List.forIn_cons, List.forIn_nil]
  refine wpAny_bind (wpAny_bind (wpAny_onRaise ?_)); show wpAny _ _ (Builtin.SmallTypes.nextOf (.ref j1) >>= _) _ _ _
  refine wpAny_bind (next_k (h1.but s1.extBut D.i1z) (g1.but s1.extBut D.l1z) hx fun p2 i2 s2 => wpAny_pure ?_)
  have O2 : IsPair p2 TO a b := s2.extBut _ _ D.TOi1 (s1.extBut _ _ D.TOz hO)
  refine wpAny_bind (wpAny_seqItems O2 rfl (wpAny_bind (wpAny_updateSeq_pair O2 fun p3 O3 s3 => ?_)))
  replace O3 : IsPair p3 TO x b := O3
  refine wpAny_bind (wpAny_letGo (wpAny_pure ?_)); refine wpAny_bind (wpAny_bind (wpAny_onRaise ?_))
  show wpAny _ _ (Builtin.SmallTypes.nextOf (.ref j2) >>= fun q => _) _ _ _
  refine wpAny_bind (next_k (((h2.but s1.extBut D.i2z).but s2.extBut D.i12.symm).but s3.extBut D.TOi2.symm) (((g2.but s1.extBut D.l2z).but s2.extBut D.l2i1).but s3.extBut D.l2TO) hy fun p4 i4 s4 => wpAny_pure ?_)
  have O4 : IsPair p4 TO x b := s4.extBut _ _ D.TOi2 O3
  refine wpAny_bind (wpAny_seqItems O4 rfl (wpAny_bind (wpAny_updateSeq_pair O4 fun p5 O5 s5 => ?_)))
  replace O5 : IsPair p5 TO x y := O5
  refine wpAny_bind (wpAny_letGo (wpAny_pure (wpAny_pure ?_))); refine wpAny_bind (wpAny_seqItems O5 rfl (wpAny_bind (wpAny_newTuple ?_)))
  have hsz : p5.objs.size = s.heap.objs.size := by rw [s5.1, s4.1, s3.1, s2.1, s1.1]
  have z5 : IsZip p5 z TI TO .ellipsis := s5.extBut _ _ D.TOz.symm (s4.extBut _ _ D.i2z.symm (s3.extBut _ _ D.TOz.symm (s2.extBut _ _ D.i1z.symm z1)))
  have k5 : ∀ c o, c ≠ z → c ≠ TO → c ≠ j1 → c ≠ j2 → s.heap.get? c = some o → p5.get? c = some o := fun c o c1 c2 c3 c4 e => s5.extBut _ _ c2 (s4.extBut _ _ c4 (s3.extBut _ _ c2 (s2.extBut _ _ c3 (s1.extBut _ _ c1 e))))
  have i15 : ItK b1 p5 j1 l1 (k1 + 1) := ((i2.but s3.extBut D.TOi1.symm).but s4.extBut D.i12).but s5.extBut D.TOi1.symm
  have i25 : ItK b2 p5 j2 l2 (k2 + 1) := i4.but s5.extBut D.TOi2.symm
  have zlt : z < p5.objs.size := Heap.lt_size z5
  show wpAny _ _ (Builtin.SmallTypes.ownedTupleHandOut (.ref z) (.ref p5.objs.size) >>= fun q => _) _ _ _
  refine wpAny_bind ?_; unfold Builtin.SmallTypes.ownedTupleHandOut
  have z6 : IsZip (p5.push { cls := .type "tuple", data := .seq #[x, y] }) z TI TO .ellipsis := Heap.get?_push_of_some _ z5
  refine wpAny_bind (wpAny_setField_rec z6 (by simp) fun p7 z7 s7 => ?_)
  replace z7 : IsZip p7 z TI TO (rawInt p5.objs.size) := z7
  refine wpAny_setField_rec z7 (by simp) fun p8 z8 s8 => ?_
  replace z8 : IsZip p8 z TI TO (rawInt p5.objs.size) := z8
  have up : ∀ c o, c ≠ z → p5.get? c = some o → p8.get? c = some o := fun c o c1 e => s8.extBut _ _ c1 (s7.extBut _ _ c1 (Heap.get?_push_of_some _ e))
  have t8 : IsPair p8 p5.objs.size x y := s8.extBut _ _ (Nat.ne_of_gt zlt) (s7.extBut _ _ (Nat.ne_of_gt zlt) (Heap.get?_push_size _ rfl))
  have e8 : p8.objs.size = p5.objs.size + 1 := by rw [s8.1, s7.1, Heap.size_push]
  rw [hsz] at z8 t8 e8
  refine wpAny_pure ⟨_, rfl, ?_⟩
  show Q (.ref p5.objs.size) _
  rw [hsz]
  exact hQ p8 z8 (up _ _ D.TOz O5) (i15.keep fun o e => up _ o D.i1z e) (i25.keep fun o e => up _ o D.i2z e) t8 e8 fun c o c1 c2 c3 c4 e => up c o c1 (k5 c o c1 c2 c3 c4 e)
theorem zn_end {Q : Fin → Shared → Prop} (hh : A.handled = none) (D : ZipApart z TI TO j1 j2 l1 l2) (hz : IsZip s.heap z TI TO .none) (hI : IsPair s.heap TI (.ref j1) (.ref j2)) (hO : IsPair s.heap TO a b)
    (h1 : ItK b1 s.heap j1 l1 k1) (h2 : ItK b2 s.heap j2 l2 k2) (g1 : SqK b1 s.heap l1 xs) (g2 : SqK b2 s.heap l2 ys) (hend : xs[k1]? = none ∨ ys[k2]? = none)
    (hE : ∀ h' e, (∀ c o, c ≠ z → c ≠ TO → c ≠ j1 → c ≠ j2 → s.heap.get? c = some o → h'.get? c = some o) → (∃ ob, h'.get? e = some ob ∧ ob.cls = .type "StopIteration") → E (.ref e) { s with heap := h' }) :
    wpAny (model prog w) A (Builtin.«zip.__next__» ⟨[.ref z], []⟩) Q E s := by
  show wpAny _ _ (field (.ref z) 2 >>= fun q => _) _ _ _
  refine wpAny_bind (wpAny_field hz rfl (x := .bool false) rfl ?_); show wpAny _ _ (field (.ref z) 3 >>= _) _ _ _
  refine wpAny_bind (wpAny_field hz rfl (x := .ref TI) rfl (wpAny_bind (wpAny_seqItems hI rfl ?_)))
  show wpAny _ _ (Builtin.SmallTypes.ownedTupleIsFree (.ref z) >>= fun q => _) _ _ _
  refine wpAny_bind ?_; unfold Builtin.SmallTypes.ownedTupleIsFree
  refine wpAny_bind (wpAny_field hz rfl (x := .none) rfl (wpAny_pure ?_)); simp only [if_true]
  refine wpAny_bind (wpAny_rule (wpAny_bind (wpAny_field hz rfl (x := .ref TO) rfl (wpAny_bind (wpAny_setField_rec hz (by simp) fun p1 z1 s1 => ?_)))))
  replace z1 : IsZip p1 z TI TO .ellipsis := z1
  refine wpAny_bind ?_; simp only [List.zipIdx_cons, List.zipIdx_nil, List.forIn_cons, List.forIn_nil]
  refine wpAny_bind (wpAny_bind (wpAny_onRaise ?_)); show wpAny _ _ (Builtin.SmallTypes.nextOf (.ref j1) >>= _) _ _ _
  cases hx : xs[k1]? with
  | none =>
    refine wpAny_bind (stop_k hh (h1.but s1.extBut D.i1z) (g1.but s1.extBut D.l1z) hx fun p2 e s2 he => ?_)
    obtain ⟨oe, hoe, hce⟩ := he
    have z2 : IsZip p2 z TI TO .ellipsis := s2 _ _ D.i1z.symm z1
    have hez : e ≠ z := fun q => by subst q; rw [z2] at hoe; cases hoe; simp at hce
    refine wpAny_setField_rec z2 (by simp) fun p3 _ s3 => hE p3 e (fun c o c1 _ c3 _ q => s3.extBut _ _ c1 (s2 _ _ c3 (s1.extBut _ _ c1 q))) ⟨oe, s3.extBut _ _ hez hoe, hce⟩
  | some x =>
    have hy : ys[k2]? = none := by rcases hend with h | h; (rw [hx] at h; cases h); exact h
    refine wpAny_bind (next_k (h1.but s1.extBut D.i1z) (g1.but s1.extBut D.l1z) hx fun p2 i2 s2 => wpAny_pure ?_)
    have O2 : IsPair p2 TO a b := s2.extBut _ _ D.TOi1 (s1.extBut _ _ D.TOz hO)
    refine wpAny_bind (wpAny_seqItems O2 rfl (wpAny_bind (wpAny_updateSeq_pair O2 fun p3 O3 s3 => ?_)))
    refine wpAny_bind (wpAny_letGo (wpAny_pure ?_)); refine wpAny_bind (wpAny_bind (wpAny_onRaise ?_))
    show wpAny _ _ (Builtin.SmallTypes.nextOf (.ref j2) >>= fun q => _) _ _ _
    refine wpAny_bind (stop_k hh (((h2.but s1.extBut D.i2z).but s2.extBut D.i12.symm).but s3.extBut D.TOi2.symm) (((g2.but s1.extBut D.l2z).but s2.extBut D.l2i1).but s3.extBut D.l2TO) hy fun p4 e s4 he => ?_)
    obtain ⟨oe, hoe, hce⟩ := he
    have z4 : IsZip p4 z TI TO .ellipsis := s4 _ _ D.i2z.symm (s3.extBut _ _ D.TOz.symm (s2.extBut _ _ D.i1z.symm z1))
    have hez : e ≠ z := fun q => by subst q; rw [z4] at hoe; cases hoe; simp at hce
    refine wpAny_setField_rec z4 (by simp) fun p5 _ s5 => hE p5 e (fun c o c1 c2 c3 c4 q => s5.extBut _ _ c1 (s4 _ _ c4 (s3.extBut _ _ c2 (s2.extBut _ _ c3 (s1.extBut _ _ c1 q))))) ⟨oe, s5.extBut _ _ hez hoe, hce⟩
theorem pz_item {x y : Value} {Q : Option Value → Shared → Prop} (D : ZipApart z TI TO j1 j2 l1 l2) (hz : IsZip s.heap z TI TO .none) (hI : IsPair s.heap TI (.ref j1) (.ref j2)) (hO : IsPair s.heap TO a b)
    (h1 : ItK b1 s.heap j1 l1 k1) (h2 : ItK b2 s.heap j2 l2 k2) (g1 : SqK b1 s.heap l1 xs) (g2 : SqK b2 s.heap l2 ys) (hx : xs[k1]? = some x) (hy : ys[k2]? = some y)
    (hQ : ∀ h', IsZip h' z TI TO (rawInt s.heap.objs.size) → IsPair h' TO x y → ItK b1 h' j1 l1 (k1 + 1) → ItK b2 h' j2 l2 (k2 + 1) → IsPair h' s.heap.objs.size x y → h'.objs.size = s.heap.objs.size + 1 →
      (∀ c o, c ≠ z → c ≠ TO → c ≠ j1 → c ≠ j2 → s.heap.get? c = some o → h'.get? c = some o) → Q (some (.ref s.heap.objs.size)) { s with heap := h' }) :
    wpAny (model prog w) A (pyNext (.ref z)) Q E s := by
  have ty : s.TypeIs (.ref z) "zip" := ⟨_, hz, rfl⟩
  unfold pyNext
  exact wpAny_bind (wpAny_attempt (wpAny_callSpecial?_slot (name := Str.ofString "__next__") ty F.slot_zip_next (wpAny_call_entry F.slot_zip_next ty F.entry_zip_next (zn_item D hz hI hO h1 h2 g1 g2 hx hy fun h' q1 q2 q3 q4 q5 q6 q7 => wpAny_pure (hQ h' q1 q2 q3 q4 q5 q6 q7)) (F.args_zip_next_1 _))))
theorem pz_end {Q : Option Value → Shared → Prop} (hh : A.handled = none) (D : ZipApart z TI TO j1 j2 l1 l2) (hz : IsZip s.heap z TI TO .none) (hI : IsPair s.heap TI (.ref j1) (.ref j2)) (hO : IsPair s.heap TO a b)
    (h1 : ItK b1 s.heap j1 l1 k1) (h2 : ItK b2 s.heap j2 l2 k2) (g1 : SqK b1 s.heap l1 xs) (g2 : SqK b2 s.heap l2 ys) (hend : xs[k1]? = none ∨ ys[k2]? = none)
    (hQ : ∀ h', (∀ c o, c ≠ z → c ≠ TO → c ≠ j1 → c ≠ j2 → s.heap.get? c = some o → h'.get? c = some o) → Q none { s with heap := h' }) : wpAny (model prog w) A (pyNext (.ref z)) Q E s := by
  have ty : s.TypeIs (.ref z) "zip" := ⟨_, hz, rfl⟩
  unfold pyNext
  refine wpAny_bind (wpAny_attempt (wpAny_callSpecial?_slot (name := Str.ofString "__next__") ty F.slot_zip_next (wpAny_call_entry F.slot_zip_next ty F.entry_zip_next (zn_end hh D hz hI hO h1 h2 g1 g2 hend fun h' e hk he => ?_) (F.args_zip_next_1 _))))
  obtain ⟨ob, hob, hcl⟩ := he
  exact wpAny_bind (wpAny_isInstance (T := "StopIteration") (b := true) ⟨ob, hob, hcl⟩ isSubtype_stop (wpAny_pure (hQ _ hk)))
end
end ZT

set_option Elab.async false
set_option linter.all false
set_option maxRecDepth 100000
set_option maxHeartbeats 4000000
namespace ZT
open PySem PySem.Spec PyProof.Rows
open Sem (wp)
abbrev zh1 (c1 : String) (h : Heap) (l1 : Addr) : Heap := h.push { cls := .type c1, data := .fields #[.ref l1, .int 0 0] }
abbrev zh2 (c1 c2 : String) (h : Heap) (l1 l2 : Addr) : Heap := (zh1 c1 h l1).push { cls := .type c2, data := .fields #[.ref l2, .int 0 0] }
abbrev zh3 (c1 c2 : String) (h : Heap) (l1 l2 : Addr) : Heap := (zh2 c1 c2 h l1 l2).push { cls := .type "tuple", data := .seq #[.ref h.objs.size, .ref (zh1 c1 h l1).objs.size] }
abbrev zh4 (c1 c2 : String) (h : Heap) (l1 l2 : Addr) : Heap := (zh3 c1 c2 h l1 l2).push { cls := .type "tuple", data := .seq #[.none, .none] }
abbrev zh5 (c1 c2 : String) (h : Heap) (l1 l2 : Addr) : Heap := (zh4 c1 c2 h l1 l2).push { cls := .type "zip", data := .fields #[.none, .bool false, .bool false, .ref (zh2 c1 c2 h l1 l2).objs.size, .ref (zh3 c1 c2 h l1 l2).objs.size] }
theorem new_tt (l1 l2 : Addr) (xs ys : Array Value) : Meets (Builtin.«zip.__new__» ⟨[.type "zip", .ref l1, .ref l2], []⟩) (fun _ R s => s.heap.IsTuple l1 xs ∧ s.heap.IsTuple l2 ys ∧
      R (.ok (.ret (.ref (zh4 "tuple_iterator" "tuple_iterator" s.heap l1 l2).objs.size))) { s with heap := zh5 "tuple_iterator" "tuple_iterator" s.heap l1 l2 }) :=
  .of_wp fun prog w A R s h => by
    obtain ⟨hp, g, d, tk, os⟩ := s
    obtain ⟨t1, t2, h⟩ := h
    have hsub := sub_zip
    have T1 : Heap.IsTuple (Shared.heap ⟨hp, g, d, tk, os⟩) l1 xs := t1
    have T2 : Heap.IsTuple (Shared.heap ⟨hp.push { cls := .type "tuple_iterator", data := .fields #[.ref l1, .int 0 0] }, g, d, tk, os⟩) l2 ys := Heap.IsTuple.push t2 _
    wp_walk using wpAny_pyIter_tuple T1, wpAny_pyIter_tuple T2
    exact ⟨_, rfl, h⟩
theorem new_tl (l1 l2 : Addr) (xs ys : Array Value) : Meets (Builtin.«zip.__new__» ⟨[.type "zip", .ref l1, .ref l2], []⟩) (fun _ R s => s.heap.IsTuple l1 xs ∧ s.heap.IsList l2 ys ∧
      R (.ok (.ret (.ref (zh4 "tuple_iterator" "list_iterator" s.heap l1 l2).objs.size))) { s with heap := zh5 "tuple_iterator" "list_iterator" s.heap l1 l2 }) :=
  .of_wp fun prog w A R s h => by
    obtain ⟨hp, g, d, tk, os⟩ := s
    obtain ⟨t1, t2, h⟩ := h
    have hsub := sub_zip
    have T1 : Heap.IsTuple (Shared.heap ⟨hp, g, d, tk, os⟩) l1 xs := t1
    have T2 : Heap.IsList (Shared.heap ⟨hp.push { cls := .type "tuple_iterator", data := .fields #[.ref l1, .int 0 0] }, g, d, tk, os⟩) l2 ys := Heap.IsList.push t2 _
    wp_walk using wpAny_pyIter_tuple T1, wpAny_pyIter_list T2
    exact ⟨_, rfl, h⟩
section
variable {prog : Program} {w : World} {A : Around} {E : Value → Shared → Prop} {s : Shared}
theorem call_tt {l1 l2 : Addr} {xs ys : Array Value} {Q : Value → Shared → Prop} (t1 : s.heap.IsTuple l1 xs) (t2 : s.heap.IsTuple l2 ys)
    (h : ∀ h', IsZip h' (s.heap.objs.size + 4) (s.heap.objs.size + 2) (s.heap.objs.size + 3) .none → IsPair h' (s.heap.objs.size + 2) (.ref s.heap.objs.size) (.ref (s.heap.objs.size + 1)) →
      IsPair h' (s.heap.objs.size + 3) .none .none → ItK false h' s.heap.objs.size l1 0 → ItK false h' (s.heap.objs.size + 1) l2 0 → (∀ c o, s.heap.get? c = some o → h'.get? c = some o) → Q (.ref (s.heap.objs.size + 4)) { s with heap := h' }) :
    wpAny (model prog w) A (call (.type "zip") [.ref l1, .ref l2]) Q E s := by
  refine callType_new F.called_zip (by decide) (F.typeCall_zip_2 _ _) (F.newCall_zip_2 _ _) (fun obj => F.args_object_init_3 obj _ _) F.entry_zip_new (new_tt l1 l2 xs ys) ⟨t1, t2, ?_⟩
  have z1 : (zh1 "tuple_iterator" s.heap l1).objs.size = s.heap.objs.size + 1 := Heap.size_push ..
  have z2 : (zh2 "tuple_iterator" "tuple_iterator" s.heap l1 l2).objs.size = s.heap.objs.size + 2 := by rw [Heap.size_push, z1]
  have z3 : (zh3 "tuple_iterator" "tuple_iterator" s.heap l1 l2).objs.size = s.heap.objs.size + 3 := by rw [Heap.size_push, z2]
  have z4 : (zh4 "tuple_iterator" "tuple_iterator" s.heap l1 l2).objs.size = s.heap.objs.size + 4 := by rw [Heap.size_push, z3]
  have q5 : (zh5 "tuple_iterator" "tuple_iterator" s.heap l1 l2).get? (zh4 "tuple_iterator" "tuple_iterator" s.heap l1 l2).objs.size = some _ := Heap.get?_push_size _ rfl
  have q4 : (zh5 "tuple_iterator" "tuple_iterator" s.heap l1 l2).get? (zh3 "tuple_iterator" "tuple_iterator" s.heap l1 l2).objs.size = some _ := Heap.get?_push_of_some _ (Heap.get?_push_size _ rfl)
  have q3 : (zh5 "tuple_iterator" "tuple_iterator" s.heap l1 l2).get? (zh2 "tuple_iterator" "tuple_iterator" s.heap l1 l2).objs.size = some _ := Heap.get?_push_of_some _ (Heap.get?_push_of_some _ (Heap.get?_push_size _ rfl))
  have q2 : (zh5 "tuple_iterator" "tuple_iterator" s.heap l1 l2).get? (zh1 "tuple_iterator" s.heap l1).objs.size = some _ := Heap.get?_push_of_some _ (Heap.get?_push_of_some _ (Heap.get?_push_of_some _ (Heap.get?_push_size _ rfl)))
  have q1 : (zh5 "tuple_iterator" "tuple_iterator" s.heap l1 l2).get? s.heap.objs.size = some _ := Heap.get?_push_of_some _ (Heap.get?_push_of_some _ (Heap.get?_push_of_some _ (Heap.get?_push_of_some _ (Heap.get?_push_size _ rfl))))
  show _ ∧ _
  rw [z2, z3, z4] at q5; rw [z1, z2] at q3; rw [z3] at q4
  rw [z1] at q2; rw [z4]
  exact ⟨⟨_, q5, rfl⟩, h _ q5 q3 q4 ⟨_, q1, rfl, rfl⟩ ⟨_, q2, rfl, rfl⟩ fun c o q => Heap.get?_push_of_some _ (Heap.get?_push_of_some _ (Heap.get?_push_of_some _ (Heap.get?_push_of_some _ (Heap.get?_push_of_some _ q))))⟩
theorem call_tl {l1 l2 : Addr} {xs ys : Array Value} {Q : Value → Shared → Prop} (t1 : s.heap.IsTuple l1 xs) (t2 : s.heap.IsList l2 ys)
    (h : ∀ h', IsZip h' (s.heap.objs.size + 4) (s.heap.objs.size + 2) (s.heap.objs.size + 3) .none → IsPair h' (s.heap.objs.size + 2) (.ref s.heap.objs.size) (.ref (s.heap.objs.size + 1)) →
      IsPair h' (s.heap.objs.size + 3) .none .none → ItK false h' s.heap.objs.size l1 0 → ItK true h' (s.heap.objs.size + 1) l2 0 → (∀ c o, s.heap.get? c = some o → h'.get? c = some o) → Q (.ref (s.heap.objs.size + 4)) { s with heap := h' }) :
    wpAny (model prog w) A (call (.type "zip") [.ref l1, .ref l2]) Q E s := by
  refine callType_new F.called_zip (by decide) (F.typeCall_zip_2 _ _) (F.newCall_zip_2 _ _) (fun obj => F.args_object_init_3 obj _ _) F.entry_zip_new (new_tl l1 l2 xs ys) ⟨t1, t2, ?_⟩
  have z1 : (zh1 "tuple_iterator" s.heap l1).objs.size = s.heap.objs.size + 1 := Heap.size_push ..
  have z2 : (zh2 "tuple_iterator" "list_iterator" s.heap l1 l2).objs.size = s.heap.objs.size + 2 := by rw [Heap.size_push, z1]
  have z3 : (zh3 "tuple_iterator" "list_iterator" s.heap l1 l2).objs.size = s.heap.objs.size + 3 := by rw [Heap.size_push, z2]
  have z4 : (zh4 "tuple_iterator" "list_iterator" s.heap l1 l2).objs.size = s.heap.objs.size + 4 := by rw [Heap.size_push, z3]
  have q5 : (zh5 "tuple_iterator" "list_iterator" s.heap l1 l2).get? (zh4 "tuple_iterator" "list_iterator" s.heap l1 l2).objs.size = some _ := Heap.get?_push_size _ rfl
  have q4 : (zh5 "tuple_iterator" "list_iterator" s.heap l1 l2).get? (zh3 "tuple_iterator" "list_iterator" s.heap l1 l2).objs.size = some _ := Heap.get?_push_of_some _ (Heap.get?_push_size _ rfl)
  have q3 : (zh5 "tuple_iterator" "list_iterator" s.heap l1 l2).get? (zh2 "tuple_iterator" "list_iterator" s.heap l1 l2).objs.size = some _ := Heap.get?_push_of_some _ (Heap.get?_push_of_some _ (Heap.get?_push_size _ rfl))
  have q2 : (zh5 "tuple_iterator" "list_iterator" s.heap l1 l2).get? (zh1 "tuple_iterator" s.heap l1).objs.size = some _ := Heap.get?_push_of_some _ (Heap.get?_push_of_some _ (Heap.get?_push_of_some _ (Heap.get?_push_size _ rfl)))
  have q1 : (zh5 "tuple_iterator" "list_iterator" s.heap l1 l2).get? s.heap.objs.size = some _ := Heap.get?_push_of_some _ (Heap.get?_push_of_some _ (Heap.get?_push_of_some _ (Heap.get?_push_of_some _ (Heap.get?_push_size _ rfl))))
  show _ ∧ _
  rw [z2, z3, z4] at q5; rw [z1, z2] at q3; rw [z3] at q4
  rw [z1] at q2; rw [z4]
  exact ⟨⟨_, q5, rfl⟩, h _ q5 q3 q4 ⟨_, q1, rfl, rfl⟩ ⟨_, q2, rfl, rfl⟩ fun c o q => Heap.get?_push_of_some _ (Heap.get?_push_of_some _ (Heap.get?_push_of_some _ (Heap.get?_push_of_some _ (Heap.get?_push_of_some _ q))))⟩
end
end ZT
namespace MR
open PySem PySem.Spec PyProof.Rows L2
/-- zip of a list or tuple at a and one at b -/
def SK (bb : Bool) (K : PySem.W.Frag) (H : Hp) (a : Addr) (xs : List V) : Prop := match bb with
  | true => SqL K H a xs
  | false => SqT K H a xs
theorem SK.at {X : Cx} {pins : List (Addr × Obj)} {σ : L2.St} {H : Hp} {s : Shared} {bb : Bool} {a : Addr} {xs : List V} (I : L2.Inv X pins σ H s) (h : SK bb X.K H a xs) : ∃ its : List Value, Vals xs its ∧ ZT.SqK bb s.heap a its.toArray ∧ xs.length ≤ sizeLine := by
  cases bb with
  | true => obtain ⟨its, r, p, z⟩ := I.list h; exact ⟨its, r, p.isList, z⟩
  | false => obtain ⟨its, r, p, z⟩ := I.tuple h; exact ⟨its, r, p, z⟩
theorem SK.inj {X : Cx} {pins : List (Addr × Obj)} {σ : L2.St} {H : Hp} {s : Shared} {bb : Bool} {a : Addr} {xs ys : List V} (I : L2.Inv X pins σ H s) (h : SK bb X.K H a xs) (h' : SK bb X.K H a ys) : xs = ys := by
  cases bb with
  | true => exact I.list_inj h h'
  | false => exact I.tuple_inj h h'
def ItzK (b1 b2 : Bool) (K : PySem.W.Frag) (a b : Addr) : It :=
  ⟨fun i H => ∃ xs ys x y, SK b1 K H a xs ∧ SK b2 K H b ys ∧ xs[i]? = some x ∧ ys[i]? = some y, fun i H z H' => ∃ p x y, H p = none ∧ z = .ref p ∧ H' = upd H p (.tup [x, y]) ∧ (∀ xs, SK b1 K H a xs → xs[i]? = some x) ∧ ∀ ys, SK b2 K H b ys → ys[i]? = some y,
    fun i H => ∃ xs ys, SK b1 K H a xs ∧ SK b2 K H b ys ∧ (xs.length ≤ i ∨ ys.length ≤ i)⟩
theorem turn_zipK {b1 b2 : Bool} {P : Program} {w : World} {K : PySem.W.Frag} {elts : List Expr} {x1} {pos : Pos} (a b z TI TO i1 i2 : Addr) (D : ZipApart z TI TO i1 i2 a b) : Turn P w K (.Tuple elts x1 pos) (ItzK b1 b2 K a b) [z, TI, TO, i1, i2] z
    (fun i h => IsZip h z TI TO .none ∧ IsPair h TI (.ref i1) (.ref i2) ∧ (∃ u v, IsPair h TO u v) ∧ ZT.ItK b1 h i1 a i ∧ ZT.ItK b2 h i2 b i) where
  mem := by simp
  obj := fun i h st c hb => by
    obtain ⟨h1, h2, ⟨u, v, h3⟩, h4', h5'⟩ := st
    obtain ⟨o4, h4, d4⟩ := h4'.obj
    obtain ⟨o5, h5, d5⟩ := h5'.obj
    simp only [List.mem_cons, List.not_mem_nil, or_false] at hb
    rcases hb with rfl | rfl | rfl | rfl | rfl
    · exact ⟨_, h1, fun v z => by simp at z⟩
    · exact ⟨_, h2, fun v z => by simp at z⟩
    · exact ⟨_, h3, fun v z => by simp at z⟩
    · exact ⟨_, h4, fun v z => by rw [d4] at z; cases z⟩
    · exact ⟨_, h5, fun v z => by rw [d5] at z; cases z⟩
  keep := fun i h h' st k => by
    obtain ⟨h1, h2, ⟨u, v, h3⟩, h4, h5⟩ := st
    exact ⟨k z (by simp) _ h1, k TI (by simp) _ h2, ⟨u, v, k TO (by simp) _ h3⟩, h4.keep (k i1 (by simp)), h5.keep (k i2 (by simp))⟩
  item := by
    intro X hP hw hK hc i pins s σ H E I hf st hg
    subst hP hw hK
    obtain ⟨h1, h2, ⟨u0, v0, h3⟩, h4, h5⟩ := st
    obtain ⟨xs, ys, x, y, sq1, sq2, hx, hy⟩ := hg
    obtain ⟨its1, hv1, pl1, hz1⟩ := SK.at I sq1
    obtain ⟨its2, hv2, pl2, hz2⟩ := SK.at I sq2
    obtain ⟨u, hu, r⟩ := hv1.get hx
    obtain ⟨u', hu', r'⟩ := hv2.get hy
    refine ZT.pz_item D h1 h2 h3 h4 h5 pl1 pl2 (by simpa using hu) (by simpa using hu') fun h' o1 o2 o3 o4 o5 o6 o7 => ?_
    refine ⟨_, rfl, ?_⟩
    have hfr : H s.heap.objs.size = none := I.hok.fresh (Nat.le_refl _)
    have I1 : L2.Inv X pins σ (upd H s.heap.objs.size (.tup [x, y])) { s with heap := h', toks := s.toks } :=
      Inv.turnNew (ch := [z, TI, TO, i1, i2]) I hf (fun c o hb q => o7 c o (fun z => hb (by simp [z])) (fun z => hb (by simp [z])) (fun z => hb (by simp [z])) (fun z => hb (by simp [z])) q) (Nat.le_refl _)
        (show ObjOk X.prog X.w _ h' _ (.tup [x, y]) from ⟨by show 2 ≤ sizeLine; decide, [u, u'], .cons r (.cons r' .nil), ⟨_, o5, rfl, _, rfl⟩⟩)
    refine wpAny_letOwnedTupleGo_zip o1 fun h9 e2 sb2 => ?_
    have hlt : ∀ c ∈ [z, TI, TO, i1, i2], c < s.heap.objs.size := fun c hb => by
      simp only [List.mem_cons, List.not_mem_nil, or_false] at hb
      rcases hb with rfl | rfl | rfl | rfl | rfl
      · exact Heap.lt_size h1
      · exact Heap.lt_size h2
      · exact Heap.lt_size h3
      · exact h4.lt
      · exact h5.lt
    have hnone : ∀ c ∈ [z, TI, TO, i1, i2], (upd H s.heap.objs.size (.tup [x, y])) c = none := fun c hb => by rw [upd_ne (Nat.ne_of_lt (hlt c hb))]; exact (hf c hb).1
    obtain ⟨f0, f1, f2, f3, f4, f5⟩ := hf z (by simp)
    have I2 := I1.turned (t' := s.toks) (h' := h9) (it := z) (fun c o hb q => sb2.2 c hb |>.trans q) (hnone z (by simp)) f1 f3 f4 f5
    have hTI : IsPair h' TI (.ref i1) (.ref i2) := o7 TI _ D.TIz D.TITO D.TIi1 D.TIi2 h2
    refine ⟨.ref s.heap.objs.size, _, I2, rfl, ⟨_, x, y, hfr, rfl, rfl, fun ys sq' => ?_, fun ys sq' => ?_⟩, ⟨e2, (sb2.2 TI D.TIz).trans hTI, ⟨_, _, (sb2.2 TO D.TOz).trans o2⟩, o3.keep (fun o q => (sb2.2 i1 D.i1z).trans q), o4.keep (fun o q => (sb2.2 i2 D.i2z).trans q)⟩, hnone⟩
    · rw [SK.inj I sq' sq1]; exact hx
    · rw [SK.inj I sq' sq2]; exact hy
  done := by
    intro X hP hw hK hc i pins s σ H E I hf st hg
    subst hP hw hK
    obtain ⟨h1, h2, ⟨u0, v0, h3⟩, h4, h5⟩ := st
    obtain ⟨xs, ys, sq1, sq2, hx⟩ := hg
    obtain ⟨its1, hv1, pl1, hz1⟩ := SK.at I sq1
    obtain ⟨its2, hv2, pl2, hz2⟩ := SK.at I sq2
    have hl1 := hv1.length
    have hl2 := hv2.length
    refine ZT.pz_end (I.ok.hd hc) D h1 h2 h3 h4 h5 pl1 pl2 (by simp; omega) fun h' k => ⟨rfl, ?_⟩
    have nch : ∀ b u, H b = some u → b ∉ [z, TI, TO, i1, i2] := fun b u e hb => by rw [(hf b hb).1] at e; cases e
    have k' : ∀ b o, b ∉ [z, TI, TO, i1, i2] → s.heap.get? b = some o → h'.get? b = some o := fun c o hb q => k c o (fun z => hb (by simp [z])) (fun z => hb (by simp [z])) (fun z => hb (by simp [z])) (fun z => hb (by simp [z])) q
    refine I.step (g' := s.gens) (d' := s.drawn) (t' := s.toks) (ch := [z, TI, TO, i1, i2]) (fun b hb => ?_) (fun b o _ _ hc e _ => k' b o hc e) (fun b o _ _ hc e _ => ⟨o.slots, k' b o hc e⟩) (fun _ _ _ _ n => n) (fun b u hc e => ⟨u, k' b u hc e⟩) (fun _ _ e => e) (fun _ _ _ e => e) (fun b ps e => ⟨#[], by rw [e]; simp⟩) (fun m hm => ?_) (fun b u e => ?_) I.bare
    · obtain ⟨_, f1, _, f3, f4, f5⟩ := hf b hb
      exact ⟨f3, f1, f4, f5⟩
    · obtain ⟨o1, es, ep, ho, r⟩ := hm
      exact ⟨o1, es, ep, k' _ o1 (fun z => (hf _ z).2.1 rfl) ho, r⟩
    · refine (I.hok b u e).stay (fun c v hc q => k' c v ?_ q) (fun _ q => q) fun _ _ q => q
      rcases hc with z | z
      · rw [z]; exact nch b u e
      · exact nch c _ z
  self := fun _ _ _ _ _ st h => wpAny_pyIter_zip st.1 h
section
variable {X : Cx} {elts : List Expr} {x1 : Nat} {tpos : Pos}
def iZipT (K : PySem.W.Frag) (ta : TA) : TI := fun σ H R => ta σ H fun vs H1 => ∃ a b xs ys, vs = [.ref a, .ref b] ∧ SqT K H1 a xs ∧ SqT K H1 b ys ∧ R (ItzK false false K a b) H1
theorem pi_zipT {a b : Expr} {ta : TA} {p pos : Pos} (hg : Gl X "zip") (hm : X.mg "zip" = none) (ha : PA X [a, b] ta) (hs : starEach [a, b] X.env = (false, eval a X.env) :: starEach [b] X.env := by rfl) (hpl : (backTo pos (starEach [b] X.env)).any (·.1) = false := by rfl) : PI X (.Tuple elts x1 tpos) (.Call (.Name "zip" p) [a, b] [] pos) (iZipT X.K ta) := by
  intro pins s σ H R I h
  refine Call_ (ld_blt I hg hm boot_zip (PyProof.Rows.callWith_type1 (thn (ha pos pins s σ H _ I h) fun us s1 ⟨vs, H1, I1, r1, q1⟩ => ?_) hs hpl))
  obtain ⟨l1, l2, xs, ys, rfl, sq1, sq2, q⟩ := q1
  obtain ⟨u, u', rfl, ru, ru'⟩ := vals2 r1
  cases ru; cases ru'
  obtain ⟨its1, hv1, pl1, hz1⟩ := I1.tuple sq1
  obtain ⟨its2, hv2, pl2, hz2⟩ := I1.tuple sq2
  have lt1 : l1 < s1.heap.objs.size := by obtain ⟨o, e, _⟩ := pl1; exact Heap.lt_size e
  have lt2 : l2 < s1.heap.objs.size := by obtain ⟨o, e, _⟩ := pl2; exact Heap.lt_size e
  refine ZT.call_tt pl1 pl2 fun h' o1 o2 o3 o4 o5 o7 => ?_
  have I2 : L2.Inv X pins σ H1 { s1 with heap := h' } := I1.kept (t' := s1.toks) o7
  refine wpAny_pyIter_zip o1 ⟨_, _, _, _, H1, rfl, I2, turn_zipK (b1 := false) (b2 := false) l1 l2 _ _ _ _ _ (zip_apart _ _ _ lt1 lt2), ⟨o1, o2, ⟨_, _, o3⟩, o4, o5⟩, fun b hb => ?_, q⟩
  have hb' : s1.heap.objs.size ≤ b := by
    simp only [List.mem_cons, List.not_mem_nil, or_false] at hb
    rcases hb with rfl | rfl | rfl | rfl | rfl <;> first | exact Nat.le_add_right _ _ | exact Nat.le_refl _
  exact L2.Inv.fpOk I1 hb' (I1.hok.fresh hb')
def iZipM (K : PySem.W.Frag) (ta : TA) : TI := fun σ H R => ta σ H fun vs H1 => ∃ a b xs ys, vs = [.ref a, .ref b] ∧ SqT K H1 a xs ∧ SqL K H1 b ys ∧ R (ItzK false true K a b) H1
theorem pi_zipM {a b : Expr} {ta : TA} {p pos : Pos} (hg : Gl X "zip") (hm : X.mg "zip" = none) (ha : PA X [a, b] ta) (hs : starEach [a, b] X.env = (false, eval a X.env) :: starEach [b] X.env := by rfl) (hpl : (backTo pos (starEach [b] X.env)).any (·.1) = false := by rfl) : PI X (.Tuple elts x1 tpos) (.Call (.Name "zip" p) [a, b] [] pos) (iZipM X.K ta) := by
  intro pins s σ H R I h
  refine Call_ (ld_blt I hg hm boot_zip (PyProof.Rows.callWith_type1 (thn (ha pos pins s σ H _ I h) fun us s1 ⟨vs, H1, I1, r1, q1⟩ => ?_) hs hpl))
  obtain ⟨l1, l2, xs, ys, rfl, sq1, sq2, q⟩ := q1
  obtain ⟨u, u', rfl, ru, ru'⟩ := vals2 r1
  cases ru; cases ru'
  obtain ⟨its1, hv1, pl1, hz1⟩ := I1.tuple sq1
  obtain ⟨its2, hv2, pl2, hz2⟩ := I1.list sq2
  have lt1 : l1 < s1.heap.objs.size := by obtain ⟨o, e, _⟩ := pl1; exact Heap.lt_size e
  have lt2 : l2 < s1.heap.objs.size := by obtain ⟨o, _, e, _⟩ := pl2; exact Heap.lt_size e
  refine ZT.call_tl pl1 pl2.isList fun h' o1 o2 o3 o4 o5 o7 => ?_
  have I2 : L2.Inv X pins σ H1 { s1 with heap := h' } := I1.kept (t' := s1.toks) o7
  refine wpAny_pyIter_zip o1 ⟨_, _, _, _, H1, rfl, I2, turn_zipK (b1 := false) (b2 := true) l1 l2 _ _ _ _ _ (zip_apart _ _ _ lt1 lt2), ⟨o1, o2, ⟨_, _, o3⟩, o4, o5⟩, fun b hb => ?_, q⟩
  have hb' : s1.heap.objs.size ≤ b := by
    simp only [List.mem_cons, List.not_mem_nil, or_false] at hb
    rcases hb with rfl | rfl | rfl | rfl | rfl <;> first | exact Nat.le_add_right _ _ | exact Nat.le_refl _
  exact L2.Inv.fpOk I1 hb' (I1.hok.fresh hb')
def pairsU (us ws : List U) : List U := (us.zip ws).map fun p => .tup [p.1, p.2]
theorem pairsU_get (us ws : List U) (k : Nat) : (pairsU us ws)[k]? = pairU us[k]? ws[k]? := by
  unfold pairsU
  rw [List.getElem?_map, List.zip, List.getElem?_zipWith]
  cases us[k]? <;> cases ws[k]? <;> rfl
theorem itzT_rep {K : PySem.W.Frag} {H : Hp} {α : List Addr} {a b : Addr} {us ws : List U} {xs ys : List V} (sa : SqT K H a xs) (sb : SqT K H b ys) (ra : RepL K H α us xs) (rb : RepL K H α ws ys) : ItRep K (ItzK false false K a b) (.seq (pairsU us ws)) H α := by
  intro H2 α2 L2 g A2 k
  have mv : ∀ (c : Addr) (vs : List U) (zs : List V), SqT K H c zs → RepL K H α vs zs → ∃ zs2, SqT K H2 c zs2 ∧ RepL K H2 α2 vs zs2 := fun c vs zs s r => by
    have m := (show RepU K H α (.tup vs) (.ref c) by unfold RepU; exact ⟨c, zs, rfl, s, r⟩).mono g
    unfold RepU at m
    obtain ⟨c', zs2, e, s2, r2⟩ := m
    cases e
    exact ⟨zs2, s2, r2⟩
  obtain ⟨xs2, sa2, ra2⟩ := mv a us xs sa ra
  obtain ⟨ys2, sb2, rb2⟩ := mv b ws ys sb rb
  refine ⟨fun u eu => ?_, fun eu => ?_⟩
  · have eu : (pairsU us ws)[k]? = some u := by simpa [IU.at] using eu
    rw [pairsU_get] at eu
    cases h1 : us[k]? with
    | none => rw [h1] at eu; simp [pairU] at eu
    | some u1 =>
      cases h2 : ws[k]? with
      | none => rw [h1, h2] at eu; simp [pairU] at eu
      | some u2 =>
        rw [h1, h2] at eu
        simp [pairU] at eu
        subst eu
        obtain ⟨x, hx, rx⟩ := ra2.get h1
        obtain ⟨y, hy, ry⟩ := rb2.get h2
        refine ⟨⟨xs2, ys2, x, y, sa2, sb2, hx, hy⟩, ?_⟩
        rintro z H3 ⟨p, v, v', hp, rfl, rfl, hy1, hy2⟩
        have e1 := hy1 xs2 sa2
        have e2 := hy2 ys2 sb2
        rw [hx] at e1; cases e1
        rw [hy] at e2; cases e2
        exact A2.tup (.cons rx (.cons ry .nil)) hp
  · have eu : (pairsU us ws)[k]? = none := by simpa [IU.at] using eu
    rw [pairsU_get] at eu
    refine ⟨xs2, ys2, sa2, sb2, ?_⟩
    cases h1 : us[k]? with
    | none => left; rw [← ra2.length]; exact List.getElem?_eq_none_iff.mp h1
    | some u1 =>
      cases h2 : ws[k]? with
      | none => right; rw [← rb2.length]; exact List.getElem?_eq_none_iff.mp h2
      | some u2 => rw [h1, h2] at eu; simp [pairU] at eu
theorem itzM_rep {K : PySem.W.Frag} {H : Hp} {α : List Addr} {m : Nat} {a b : Addr} {us : List U} {xs : List V} (sa : SqT K H a xs) (ra : RepL K H α us xs) (eb : α[m]? = some b) : ItRep K (ItzK false true K a b) (.zipT us m) H α := by
  intro H2 α2 L2 g A2 k
  have eb2 := g.at eb
  have mv : ∃ zs2, SqT K H2 a zs2 ∧ RepL K H2 α2 us zs2 := by
    have m := (show RepU K H α (.tup us) (.ref a) by unfold RepU; exact ⟨a, xs, rfl, sa, ra⟩).mono g
    unfold RepU at m
    obtain ⟨c', zs2, e, s2, r2⟩ := m
    cases e
    exact ⟨zs2, s2, r2⟩
  obtain ⟨xs2, sa2, ra2⟩ := mv
  refine ⟨fun u eu => ?_, fun eu => ?_⟩
  · obtain ⟨ws, hw, eu⟩ := Option.map_eq_some_iff.mp eu
    obtain ⟨ys2, sb2, rb2⟩ := seqAt_addr A2 eb2 hw
    cases h1 : us[k]? with
    | none => rw [h1] at eu; simp [pairU] at eu
    | some u1 =>
      cases h2 : ws[k]? with
      | none => rw [h1, h2] at eu; simp [pairU] at eu
      | some u2 =>
        rw [h1, h2] at eu
        simp [pairU] at eu
        subst eu
        obtain ⟨x, hx, rx⟩ := ra2.get h1
        obtain ⟨y, hy, ry⟩ := rb2.get h2
        refine ⟨⟨xs2, ys2, x, y, sa2, sb2, hx, hy⟩, ?_⟩
        rintro z H3 ⟨p, v, v', hp, rfl, rfl, hy1, hy2⟩
        have e1 := hy1 xs2 sa2
        have e2 := hy2 ys2 sb2
        rw [hx] at e1; cases e1
        rw [hy] at e2; cases e2
        exact A2.tup (.cons rx (.cons ry .nil)) hp
  · obtain ⟨ws, hw, eu⟩ := Option.map_eq_some_iff.mp eu
    obtain ⟨ys2, sb2, rb2⟩ := seqAt_addr A2 eb2 hw
    refine ⟨xs2, ys2, sa2, sb2, ?_⟩
    cases h1 : us[k]? with
    | none => left; rw [← ra2.length]; exact List.getElem?_eq_none_iff.mp h1
    | some u1 =>
      cases h2 : ws[k]? with
      | none => right; rw [← rb2.length]; exact List.getElem?_eq_none_iff.mp h2
      | some u2 => rw [h1, h2] at eu; simp [pairU] at eu
/-- zip of two lists, of two tuples, of a tuple and a list -/
def fZipA (g : FA) : FI := fun δ L => (g δ L).bind fun p => match p.1 with
  | [.ref n, .ref m] => (seqAt p.2 n).bind fun _ => (seqAt p.2 m).map fun _ => (.zip2 n m, p.2)
  | [.tup us, .tup ws] => some (.seq (pairsU us ws), p.2)
  | [.tup us, .ref m] => (seqAt p.2 m).map fun _ => (.zipT us m, p.2)
  | _ => none
theorem pif_zipA {a b : Expr} {g : FA} {p pos : Pos} (hg : Gl X "zip") (hm : X.mg "zip" = none) (ha : PAF X [a, b] g) (hs : starEach [a, b] X.env = (false, eval a X.env) :: starEach [b] X.env := by rfl) (hpl : (backTo pos (starEach [b] X.env)).any (·.1) = false := by rfl) : PIF X (.Tuple elts x1 tpos) (.Call (.Name "zip" p) [a, b] [] pos) (fZipA g) := by
  refine PI.imp (PI.or (pi_zip hg hm ha hs hpl) (PI.or (pi_zipT hg hm ha hs hpl) (pi_zipM hg hm ha hs hpl))) ?_
  rintro σ H R ⟨α, δ, L, A, S, i, L3, e, q⟩
  obtain ⟨⟨us, L1⟩, e1, ee⟩ := Option.bind_eq_some_iff.mp e
  simp only at ee
  split at ee
  · obtain ⟨l, hl, e2⟩ := Option.bind_eq_some_iff.mp ee
    obtain ⟨l', hl', e3⟩ := Option.map_eq_some_iff.mp e2
    cases e3
    refine .inl ⟨α, δ, L, A, S, _, _, e1, fun xs H1 α1 g1 A1 r1 => ?_⟩
    obtain ⟨x, y, rfl, rx, ry⟩ := r1.two
    obtain ⟨a', ys, rfl, sq, r2⟩ := refs_at A1 hl rx
    obtain ⟨b', ys', rfl, sq', r2'⟩ := refs_at A1 hl' ry
    obtain ⟨a2, ea, ha2⟩ := rx.ref_of A1
    cases ha2
    obtain ⟨b2, eb, hb2⟩ := ry.ref_of A1
    cases hb2
    exact ⟨a', b', ys, ys', rfl, sq, sq', q _ H1 α1 g1 A1 (itz_rep ea eb)⟩
  · cases ee
    refine .inr (.inl ⟨α, δ, L, A, S, _, _, e1, fun xs H1 α1 g1 A1 r1 => ?_⟩)
    obtain ⟨x, y, rfl, rx, ry⟩ := r1.two
    unfold RepU at rx ry
    obtain ⟨a', ys, rfl, sq, r2⟩ := rx
    obtain ⟨b', ys', rfl, sq', r2'⟩ := ry
    exact ⟨a', b', ys, ys', rfl, sq, sq', q _ H1 α1 g1 A1 (itzT_rep sq sq' r2 r2')⟩
  · obtain ⟨l', hl', e3⟩ := Option.map_eq_some_iff.mp ee
    cases e3
    refine .inr (.inr ⟨α, δ, L, A, S, _, _, e1, fun xs H1 α1 g1 A1 r1 => ?_⟩)
    obtain ⟨x, y, rfl, rx, ry⟩ := r1.two
    unfold RepU at rx
    obtain ⟨a', ys, rfl, sq, r2⟩ := rx
    obtain ⟨b', ys', rfl, sq', r2'⟩ := refs_at A1 hl' ry
    obtain ⟨b2, eb, hb2⟩ := ry.ref_of A1
    cases hb2
    exact ⟨a', b', ys, ys', rfl, sq, sq', q _ H1 α1 g1 A1 (itzM_rep sq r2 eb)⟩
  · cases ee
end
end MR

set_option Elab.async false
set_option linter.all false
set_option maxRecDepth 100000
set_option maxHeartbeats 4000000
namespace MR
open PySem PySem.Spec PyProof.Rows PySem.Calls L2
theorem bls_get {bs : List Bool} : ∀ {us : List Value}, Vals (bs.map V.bl) us → ∀ (i : Nat) (v : Value), us[i]? = some v → ∃ b, bs[i]? = some b ∧ v = .bool b := by
  induction bs with
  | nil => intro us r i v e; rw [List.map_nil] at r; cases r; simp at e
  | cons n ns ih =>
    intro us r i v e
    rw [List.map_cons] at r
    cases r with
    | cons r1 r2 =>
      cases i with
      | zero => simp at e; subst e; exact ⟨n, rfl, r1⟩
      | succ i => simpa using ih r2 i v (by simpa using e)
theorem bls_len {bs : List Bool} : ∀ {us : List Value}, Vals (bs.map V.bl) us → us.length = bs.length := by
  induction bs with
  | nil => intro us r; rw [List.map_nil] at r; cases r; rfl
  | cons n ns ih =>
    intro us r
    rw [List.map_cons] at r
    cases r with
    | cons r1 r2 => simp [ih r2]
theorem rng_all (bs : List Bool) : ((List.range bs.length).all fun i => (bs[i]?).getD true) = bs.all id := by
  rw [Bool.eq_iff_iff, List.all_eq_true, List.all_eq_true]
  constructor
  · intro h b hb
    obtain ⟨i, hi, e⟩ := List.getElem_of_mem hb
    have := h i (List.mem_range.mpr hi)
    simp only [List.getElem?_eq_getElem hi, Option.getD_some, e] at this
    exact this
  · intro h i hi
    have hi' := List.mem_range.mp hi
    simp only [List.getElem?_eq_getElem hi', Option.getD_some]
    exact h _ (List.getElem_mem hi')
section
variable {X : Cx}
theorem kept_it {s : Shared} {h' : Heap} {o : Obj} (hk : ∀ b x, b ∉ [s.heap.objs.size] → (s.heap.push o).get? b = some x → h'.get? b = some x) : ∀ b x, s.heap.get? b = some x → h'.get? b = some x :=
  fun b x e => hk b x (fun hm => by rw [List.mem_singleton.mp hm] at e; exact Nat.lt_irrefl _ (Heap.lt_size e)) (Heap.get?_push_of_some _ e)
theorem call_allL (hc : X.calm = true) : CallR X (.builtin "all") (fun xs H Q => ∃ (p : Addr) (bs : List Bool), xs = [.ref p] ∧ SqL X.K H p (bs.map V.bl) ∧ Q (.bl (bs.all id)) H) := by
  intro pins s σ H xs us Q I r h
  obtain ⟨p, bs, rfl, hq, q⟩ := h
  obtain ⟨u, rfl, rx⟩ := vals1 r
  cases rx
  obtain ⟨its, r', pl, hz⟩ := I.list hq
  have hl := pl.isList
  have hlt : p < s.heap.objs.size := by obtain ⟨_, e, _⟩ := hl; exact Heap.lt_size e
  refine call_all_walk (wpAny_pyIter_list hl ?_)
  refine ⟨s.heap.objs.size, [s.heap.objs.size, p], [s.heap.objs.size], its.toArray.size, _, _, fun i => (bs[i]?).getD true, rfl, Walks.list (A := Around.in1 _) (I.ok.hd hc) _ p (Nat.ne_of_lt hlt) its.toArray,
    ⟨⟨_, Heap.get?_push_size _ rfl, rfl, rfl⟩, hl.push _⟩, fun i v s' Q' E' hP hQ => ?_, fun h' tk hk => ?_⟩
  · obtain ⟨b, e, rfl⟩ := bls_get r' i v (by simpa using hP)
    simp only [e, Option.getD_some] at hQ
    exact wpAny_truthy_bool hQ
  · have e : ((List.range its.toArray.size).all fun i => (bs[i]?).getD true) = bs.all id := by
      rw [List.size_toArray, bls_len r']; exact rng_all bs
    rw [e]
    exact ⟨.bl (bs.all id), H, I.kept (kept_it hk), rfl, q⟩
end
def toB : U → Option Bool
  | .bl b => some b
  | _ => none
theorem toBs_ok {K : PySem.W.Frag} {H : Hp} {α : List Addr} : ∀ {us : List U} {xs : List V} {bs : List Bool}, RepL K H α us xs → mapO toB us = some bs → xs = bs.map V.bl
  | [], xs, ys, r, h => by unfold RepL at r; subst r; cases h; rfl
  | u :: us, xs, ys, r, h => by
    unfold RepL at r
    obtain ⟨x, xr, rfl, r1, r2⟩ := r
    obtain ⟨y, e1, h⟩ := Option.bind_eq_some_iff.mp h
    obtain ⟨yr, e2, h⟩ := Option.map_eq_some_iff.mp h
    subst h
    cases u <;> simp only [toB] at e1 <;> first
      | (cases e1; unfold RepU at r1; subst r1; rw [toBs_ok r2 e2]; rfl)
      | cases e1
def semAll : SC := fun us L => match us with
  | [.ref n] => (seqAt L n).bind fun l => (mapO toB l).map fun bs => (.bl (bs.all id), L)
  | _ => none
theorem sem_all {K : PySem.W.Frag} : SemC K (fun xs H Q => ∃ (p : Addr) (bs : List Bool), xs = [.ref p] ∧ SqL K H p (bs.map V.bl) ∧ Q (.bl (bs.all id)) H) semAll := by
  intro H α L us xs z L' Q A r e q
  unfold semAll at e
  split at e
  · obtain ⟨l, hl, e⟩ := Option.bind_eq_some_iff.mp e
    obtain ⟨bs, e1, e⟩ := Option.map_eq_some_iff.mp e
    cases e
    obtain ⟨x, rfl, rx⟩ := r.one
    obtain ⟨a, ys, rfl, sq, r2⟩ := refs_at A hl rx
    rw [toBs_ok r2 e1] at sq
    exact ⟨a, bs, rfl, sq, q _ H α (.refl _ _) A rfl⟩
  · cases e
end MR

set_option Elab.async false
set_option linter.all false
set_option maxRecDepth 100000
set_option maxHeartbeats 4000000
namespace MR
open PySem PySem.Spec PyProof.Rows PySem.Calls L2
section
variable {X : Cx}
end
end MR

set_option Elab.async false
set_option linter.all false
set_option maxRecDepth 100000
set_option maxHeartbeats 4000000
namespace ZT
open PySem PySem.Spec PyProof.Rows
open Sem (wp)
theorem meets_enumerate_newT (l : Addr) (items : Array Value) :
    Meets (Builtin.«enumerate.__new__» ⟨[.type "enumerate", .ref l], []⟩) (fun _ R s => s.heap.IsTuple l items ∧
      R (.ok (.ret (.ref (s.heap.push { cls := .type "tuple_iterator", data := .fields #[.ref l, .int 0 0] }).objs.size)))
        { s with heap := (s.heap.push { cls := .type "tuple_iterator", data := .fields #[.ref l, .int 0 0] }).push { cls := .type "enumerate", data := .fields #[.none, .bool false, .ref s.heap.objs.size, rawInt 0, .none, .none] } }) :=
  .of_wp fun prog w A R s h => by
    obtain ⟨hp, g, d, tk, os⟩ := s; obtain ⟨hl, h⟩ := h
    have hsub := sub_enumerate
    have hL : Heap.IsTuple (Shared.heap ⟨hp, g, d, tk, os⟩) l items := hl
    wp_walk using wpAny_pyIter_tuple hL
    refine wpAny_stack_any fun st => wpAny_pure ?_
    split
    · rename_i c _ _ _ _ _
      cases (c == Value.type "enumerate")
      · wp_walk using wpAny_pyIter_tuple hL
        exact ⟨_, rfl, h⟩
      · wp_walk using wpAny_pyIter_tuple hL
        exact ⟨_, rfl, h⟩
    · wp_walk using wpAny_pyIter_tuple hL
      exact ⟨_, rfl, h⟩
section
variable {prog : Program} {w : World} {A : Around} {E : Value → Shared → Prop} {s : Shared}
theorem call_enumerate_tuple {l : Addr} {items : Array Value} {Q : Value → Shared → Prop} (hL : s.heap.IsTuple l items)
    (h : ∀ h', IsEnum h' (s.heap.objs.size + 1) s.heap.objs.size 0 .none → h'.IsTupleIter s.heap.objs.size l 0 → h'.objs.size = s.heap.objs.size + 2 →
      (∀ b o, s.heap.get? b = some o → h'.get? b = some o) → Q (.ref (s.heap.objs.size + 1)) { s with heap := h' }) :
    wpAny (model prog w) A (call (.type "enumerate") [.ref l]) Q E s := by
  refine callType_new F.called_enumerate (by decide) (F.typeCall_enumerate_1 _) (F.newCall_enumerate_1 _) (fun obj => F.args_object_init_2 obj _) F.entry_enumerate_new
    (meets_enumerate_newT l items) ⟨hL, ?_⟩
  have hz : (s.heap.push { cls := .type "tuple_iterator", data := .fields #[.ref l, .int 0 0] }).objs.size = s.heap.objs.size + 1 := Heap.size_push ..
  show _ ∧ _
  rw [hz]
  have he : IsEnum ((s.heap.push { cls := .type "tuple_iterator", data := .fields #[.ref l, .int 0 0] }).push
      { cls := .type "enumerate", data := .fields #[.none, .bool false, .ref s.heap.objs.size, rawInt 0, .none, .none] }) (s.heap.objs.size + 1) s.heap.objs.size 0 .none := by
    have := Heap.get?_push_size (s.heap.push { cls := .type "tuple_iterator", data := .fields #[.ref l, .int 0 0] })
      (o := { cls := .type "enumerate", data := .fields #[.none, .bool false, .ref s.heap.objs.size, rawInt 0, .none, .none] }) rfl
    rw [hz] at this; exact this
  refine ⟨⟨_, he, rfl⟩, h _ he ⟨_, Heap.get?_push_of_some _ (Heap.get?_push_size _ rfl), rfl, rfl⟩ (by rw [Heap.size_push, hz]) fun b o x => Heap.get?_push_of_some _ (Heap.get?_push_of_some _ x)⟩
end
theorem draws_tuple {prog : Program} {w : World} {A : Around} (hh : A.handled = none) (it l : Addr) (hne : l ≠ it) (items : Array Value) :
    Draws prog w A it [it, l] items.size (fun i v => items[i]? = some v) (fun i h => h.IsTupleIter it l i ∧ h.IsTuple l items) where
  live := fun _ _ st => let ⟨o, ho, _⟩ := st.1; ⟨o, ho⟩
  frame := fun _ _ _ st hk => ⟨st.1.at fun o e => hk it (by simp) o e, st.2.at fun o e => hk l (by simp) o e⟩
  item := fun i s Q E hi st hQ => by
    refine next_tup st.1 st.2 (v := items[i]) (by simp [hi]) fun h' hit' hs' => ?_
    exact hQ _ h' s.toks (by simp [hi]) ⟨hit', st.2.extBut hs'.extBut hne⟩ hs'
  done := fun s Q E st hE => stop_tup hh st.1 st.2 (by simp) hE
section
variable {prog : Program} {w : World} {A : Around} {E : Value → Shared → Prop} {s : Shared}
theorem enum_end_tup {e it l : Addr} {n : Nat} {i : Int} {items : Array Value} {old : Value} {Q : Option Value → Shared → Prop} (hh : A.handled = none)
    (he : IsEnum s.heap e it i old) (hit : s.heap.IsTupleIter it l n) (hl : s.heap.IsTuple l items) (hn : items.size ≤ n)
    (hQ : ∀ h', Heap.ExtBut it s.heap h' → Q none { s with heap := h' }) : wpAny (model prog w) A (pyNext (.ref e)) Q E s := by
  have hT : s.TypeIs (.ref e) "enumerate" := ⟨_, he, rfl⟩
  unfold pyNext
  refine wpAny_bind (wpAny_attempt (wpAny_callSpecial?_slot (name := Str.ofString "__next__") hT F.slot_enumerate_next
    (wpAny_call_entry F.slot_enumerate_next hT F.entry_enumerate_next ?_ (F.args_enumerate_next_1 _))))
  show wpAny _ _ (field (.ref e) 2 >>= _) _ _ _
  refine wpAny_bind (wpAny_field he rfl (x := .ref it) rfl ?_)
  refine wpAny_bind (stop_tup (A := Around.in1 A) hh hit hl (by simp; omega) fun h' x he' hx' => ?_)
  obtain ⟨o, ho, hc⟩ := hx'
  refine wpAny_bind (wpAny_isInstance (T := "StopIteration") (b := true) ⟨o, ho, hc⟩ isSubtype_stop ?_)
  exact wpAny_pure (hQ _ he')
end
end ZT
namespace MR
open PySem PySem.Spec PyProof.Rows L2
def IteT (K : PySem.W.Frag) (a : Addr) : It :=
  ⟨fun i H => ∃ xs x, SqT K H a xs ∧ xs[i]? = some x, fun i H x H' => ∃ p v, H p = none ∧ x = .ref p ∧ H' = upd H p (.tup [.int i, v]) ∧ ∀ xs, SqT K H a xs → xs[i]? = some v, fun i H => ∃ xs, SqT K H a xs ∧ xs.length ≤ i⟩
theorem turn_enumT {P : Program} {w : World} {K : PySem.W.Frag} {elts : List Expr} {x1} {pos : Pos} (a e it : Addr) (hne : e ≠ it) : Turn P w K (.Tuple elts x1 pos) (IteT K a) [e, it] e (fun i h => (∃ old, IsEnum h e it i old) ∧ h.IsTupleIter it a i) where
  mem := by simp
  obj := fun i h st b hb => by
    obtain ⟨⟨old, he⟩, o, ho, hc, hd⟩ := st
    rcases List.mem_cons.mp hb with rfl | hb
    · exact ⟨_, he, fun v z => by simp at z⟩
    · have : b = it := by simpa using hb
      subst this
      exact ⟨o, ho, fun v z => by rw [hd] at z; cases z⟩
  keep := fun i h h' st k => by
    obtain ⟨⟨old, he⟩, o, ho, hc, hd⟩ := st
    exact ⟨⟨old, k e (by simp) _ he⟩, o, k it (by simp) _ ho, hc, hd⟩
  item := by
    intro X hP hw hK hc i pins s σ H E I hf st hg
    subst hP hw hK
    obtain ⟨⟨old, he⟩, hit⟩ := st
    obtain ⟨xs, v, sq, hx⟩ := hg
    obtain ⟨its, hv, pl, hz⟩ := I.tuple sq
    obtain ⟨u, hu, r⟩ := hv.get hx
    have hae : e ≠ a := fun q => by
      subst q
      obtain ⟨o, ho, hc, _⟩ := pl
      have : some o = some _ := ho.symm.trans he
      cases this
      simp at hc
    have hai : a ≠ it := fun q => by
      subst q
      obtain ⟨o, ho, hc, _⟩ := pl
      obtain ⟨o', ho', hc', _⟩ := hit
      have : some o = some o' := ho.symm.trans ho'
      cases this
      rw [hc] at hc'; simp at hc'
    have hlt : i < its.toArray.size := by
      have := (List.getElem?_eq_some_iff.mp hu).1
      simpa using this
    refine wpAny_pyNext_enum_itemD (ZT.draws_tuple (A := Around.in1 _) (I.ok.hd hc) it a hai its.toArray) he ⟨hit, pl⟩ hlt hne (by simp [hne, hae]) fun x h' tk px o1 o2 o3 o4 o5 => ?_
    have hxu : x = u := by
      have : its[i]? = some x := by simpa using px
      rw [hu] at this; cases this; rfl
    subst hxu
    refine ⟨_, rfl, ?_⟩
    have hfr : H s.heap.objs.size = none := I.hok.fresh (Nat.le_refl _)
    have I1 : L2.Inv X pins σ (upd H s.heap.objs.size (.tup [.int i, v])) { s with heap := h', toks := tk + 1 } :=
      Inv.turnNew (ch := [e, it]) I hf (fun b o hb q => o5 b o (fun z => hb (by simp [z])) (fun z => hb (by simp [z])) q) (Nat.le_refl _)
        (show ObjOk X.prog X.w _ h' _ (.tup [.int i, v]) from ⟨by show 2 ≤ sizeLine; decide, [.int i tk, x], .cons ⟨_, rfl⟩ (.cons r .nil), ⟨_, o3, rfl, _, rfl⟩⟩)
    refine wpAny_letOwnedTupleGo_enum o1 fun h2 e2 sb2 => ?_
    have hne2 : ∀ b ∈ [e, it], b ≠ s.heap.objs.size := fun b hb z => by
      rcases List.mem_cons.mp hb with q | q
      · have := Heap.lt_size he; rw [← q, z] at this; exact Nat.lt_irrefl _ this
      · have q : b = it := by simpa using q
        obtain ⟨o, ho, _⟩ := hit
        have := Heap.lt_size ho; rw [← q, z] at this; exact Nat.lt_irrefl _ this
    have hnone : ∀ b ∈ [e, it], (upd H s.heap.objs.size (.tup [.int i, v])) b = none := fun b hb => by rw [upd_ne (hne2 b hb)]; exact (hf b hb).1
    obtain ⟨f0, f1, f2, f3, f4, f5⟩ := hf e (by simp)
    have I2 := I1.turned (t' := tk + 1) (h' := h2) (it := e) (fun b o hb q => sb2.2 b hb |>.trans q) (hnone e (by simp)) f1 f3 f4 f5
    obtain ⟨oi, hoi, hci, hdi⟩ := o2.1
    refine ⟨.ref s.heap.objs.size, _, I2, rfl, ⟨_, v, hfr, rfl, rfl, fun ys sq' => ?_⟩, ⟨⟨_, e2⟩, oi, (sb2.2 it (Ne.symm hne)).trans hoi, hci, hdi⟩, hnone⟩
    rw [I.tuple_inj sq' sq]; exact hx
  done := by
    intro X hP hw hK hc i pins s σ H E I hf st hg
    subst hP hw hK
    obtain ⟨⟨old, he⟩, hit⟩ := st
    obtain ⟨xs, sq, hx⟩ := hg
    obtain ⟨its, hv, pl, hz⟩ := I.tuple sq
    obtain ⟨f0, f1, f2, f3, f4, f5⟩ := hf it (by simp)
    have hlen := hv.length
    exact ZT.enum_end_tup (I.ok.hd hc) he hit pl (by simp; omega) fun h' eb => ⟨rfl, I.turned (t' := s.toks) (fun b o hb q => eb b o hb q) f0 f1 f3 f4 f5⟩
  self := fun _ _ _ _ _ st h => by obtain ⟨⟨old, he⟩, _⟩ := st; exact wpAny_pyIter_enum he h
section
variable {X : Cx} {elts : List Expr} {x1 : Nat} {tpos : Pos}
def iEnumT (K : PySem.W.Frag) (ta : TA) : TI := fun σ H R => ta σ H fun vs H1 => ∃ a xs, vs = [.ref a] ∧ SqT K H1 a xs ∧ R (IteT K a) H1
theorem pi_enumT {a : Expr} {ta : TA} {p pos : Pos} (hg : Gl X "enumerate") (hm : X.mg "enumerate" = none) (ha : PA X [a] ta) (hs : starEach [a] X.env = [(false, eval a X.env)] := by rfl) : PI X (.Tuple elts x1 tpos) (.Call (.Name "enumerate" p) [a] [] pos) (iEnumT X.K ta) := by
  intro pins s σ H R I h
  refine Call_ (ld_blt I hg hm boot_enum (PyProof.Rows.callWith_type1 (thn (ha pos pins s σ H _ I h) fun us s1 ⟨vs, H1, I1, r1, q1⟩ => ?_) hs rfl))
  obtain ⟨l, xs, rfl, sq, q⟩ := q1
  obtain ⟨u, rfl, ru⟩ := vals1 r1
  cases ru
  obtain ⟨its, hv, pl, hz⟩ := I1.tuple sq
  refine ZT.call_enumerate_tuple pl fun h' o1 o2 o3 o4 => ?_
  have I2 : L2.Inv X pins σ H1 { s1 with heap := h' } := I1.kept (t' := s1.toks) o4
  refine wpAny_pyIter_enum o1 ⟨_, _, _, _, H1, rfl, I2, turn_enumT l (s1.heap.objs.size + 1) s1.heap.objs.size (Nat.ne_of_gt (Nat.lt_succ_self _)), ⟨⟨_, o1⟩, o2⟩, fun b hb => ?_, q⟩
  have hb' : s1.heap.objs.size ≤ b := by
    simp only [List.mem_cons, List.not_mem_nil, or_false] at hb
    rcases hb with rfl | rfl
    · exact Nat.le_succ _
    · exact Nat.le_refl _
  exact L2.Inv.fpOk I1 hb' (I1.hok.fresh hb')
def enumU (us : List U) : List U := us.mapIdx fun i u => .tup [.int i, u]
def fEnumA (g : FA) : FI := fun δ L => (g δ L).bind fun p => match p.1 with
  | [.ref n] => (seqAt p.2 n).map fun _ => (.enm n, p.2)
  | [.tup us] => some (.seq (enumU us), p.2)
  | _ => none
theorem iteT_rep {K : PySem.W.Frag} {H : Hp} {α : List Addr} {a : Addr} {us : List U} {xs : List V} (sq : SqT K H a xs) (r : RepL K H α us xs) : ItRep K (IteT K a) (.seq (enumU us)) H α := by
  intro H2 α2 L2 g A2 k
  have m := (show RepU K H α (.tup us) (.ref a) by unfold RepU; exact ⟨a, xs, rfl, sq, r⟩).mono g
  unfold RepU at m
  obtain ⟨c', xs, e, sq2, r2⟩ := m
  cases e
  refine ⟨fun u eu => ?_, fun eu => ?_⟩
  · have eu : (enumU us)[k]? = some u := by simpa [IU.at] using eu
    unfold enumU at eu
    rw [List.getElem?_mapIdx] at eu
    obtain ⟨w, hw, eu⟩ := Option.map_eq_some_iff.mp eu
    subst eu
    obtain ⟨x, hx, rx⟩ := r2.get hw
    refine ⟨⟨xs, x, sq2, hx⟩, ?_⟩
    rintro y H3 ⟨p, v, hp, rfl, rfl, hy⟩
    have := hy xs sq2
    rw [hx] at this; cases this
    exact A2.tup (.cons rfl (.cons rx .nil)) hp
  · have eu : (enumU us)[k]? = none := by simpa [IU.at] using eu
    unfold enumU at eu
    rw [List.getElem?_mapIdx] at eu
    have : us[k]? = none := by simpa using eu
    exact ⟨xs, sq2, by rw [← r2.length]; exact List.getElem?_eq_none_iff.mp this⟩
theorem pif_enumA {a : Expr} {g : FA} {p pos : Pos} (hg : Gl X "enumerate") (hm : X.mg "enumerate" = none) (ha : PAF X [a] g) (hs : starEach [a] X.env = [(false, eval a X.env)] := by rfl) : PIF X (.Tuple elts x1 tpos) (.Call (.Name "enumerate" p) [a] [] pos) (fEnumA g) := by
  refine PI.imp (PI.or (pi_enum hg hm ha hs) (pi_enumT hg hm ha hs)) ?_
  rintro σ H R ⟨α, δ, L, A, S, i, L3, e, q⟩
  obtain ⟨⟨us, L1⟩, e1, e⟩ := Option.bind_eq_some_iff.mp e
  simp only at e
  split at e
  · obtain ⟨l, hl, e⟩ := Option.map_eq_some_iff.mp e
    cases e
    refine .inl ⟨α, δ, L, A, S, _, _, e1, fun xs H1 α1 g1 A1 r1 => ?_⟩
    obtain ⟨x, rfl, rx⟩ := r1.one
    obtain ⟨a', ys, rfl, sq, r2⟩ := refs_at A1 hl rx
    obtain ⟨a2, ea, ha2⟩ := rx.ref_of A1
    cases ha2
    exact ⟨a', ys, rfl, sq, q _ H1 α1 g1 A1 (ite_rep (fun _ _ _ _ _ => trivial) ea)⟩
  · cases e
    refine .inr ⟨α, δ, L, A, S, _, _, e1, fun xs H1 α1 g1 A1 r1 => ?_⟩
    obtain ⟨x, rfl, rx⟩ := r1.one
    unfold RepU at rx
    obtain ⟨a', ys, rfl, sq, r2⟩ := rx
    exact ⟨a', ys, rfl, sq, q _ H1 α1 g1 A1 (iteT_rep sq r2)⟩
  · cases e
end
end MR

set_option Elab.async false
set_option linter.all false
set_option maxRecDepth 100000
set_option maxHeartbeats 4000000
namespace MR
open PySem PySem.Spec PyProof.Rows L2
structure CompScC (X : Cx) (scope : Scope) (N' : List Str) (ix : List (Option Nat)) : Prop where
  kind : scope.kind = .function
  own : (scope.names.all fun y => scope.names.lookup y.1 == some y.2) = true
  free : (scope.names.all fun y => y.2 != .free || (X.env.kindOf y.1 == some .cell || X.env.kindOf y.1 == some .free)) = true
  ixs : ((N'.zip ix).all fun p => match p.2 with | none => true | some i => (X.N[i]? == some p.1) && (scope.names.lookup p.1 == some .free)) = true
  len : N'.length = ix.length
section
variable {X : Cx} {scope : Scope} {N' : List Str} {ix : List (Option Nat)} {pins : List (Addr × Obj)} {σ : L2.St} {H2 : Hp} {s2 : Shared} {cl : List (Str × Addr)} {fp : List Addr}
theorem CompScC.lk (S : CompScC X scope N' ix) {x : Str} {k : NameKind} (h : (x, k) ∈ scope.names) : scope.names.lookup x = some k := by
  have := List.all_eq_true.mp S.own _ h
  simpa using this
theorem CompScC.names (S : CompScC X scope N' ix) : ∀ x ∈ scope.names, x.2 = .local → scope.names.lookup x.1 = some .local := fun x hx hl => by
  have := S.lk (x := x.1) (k := x.2) hx
  rw [hl] at this
  exact this
theorem CompScC.clos (S : CompScC X scope N' ix) (ok : X.Ok) : ∃ cl, closureFor scope X.env = pure cl ∧ (∀ x c, cl.lookup x = some c → X.env.cells.lookup x = some c) ∧ ∀ y ∈ scope.names, y.2 = .free → ∃ c, cl.lookup y.1 = some c := by
  refine closureFor_ex fun y hy hf => ?_
  have := List.all_eq_true.mp S.free y hy
  rw [hf] at this
  simp at this
  exact ok.has y.1 this
end
section
variable {X : Cx} {scope : Scope} {N' : List Str} {ix : List (Option Nat)} {elt tg iter c : Expr} {pos : Pos} {fi : FI} {g : FG} {ft : FT} {fe : FE}
end
end MR

set_option Elab.async false
set_option linter.all false
set_option maxRecDepth 100000
set_option maxHeartbeats 4000000
namespace MR
open PySem PySem.Spec PyProof.Rows L2
def Its (x : Str) : It := ⟨fun i _ => i < x.cps.size, fun i H v H' => H' = H ∧ ∃ c, x.cps[i]? = some c ∧ v = .str ⟨#[c]⟩, fun i _ => x.cps.size ≤ i⟩
theorem turn_str {P : Program} {w : World} {K : PySem.W.Frag} {tg : Expr} (x : Str) (t : Tok) (it : Addr) : Turn P w K tg (Its x) [it] it (fun i h => h.IsStrIter it "str_ascii_iterator" x t i) where
  mem := by simp
  obj := fun i h st b hb => by
    have e : b = it := by simpa using hb
    subst e
    obtain ⟨o, e, c, d⟩ := st
    exact ⟨o, e, fun v z => by rw [d] at z; cases z⟩
  keep := fun i h h' st k => by
    obtain ⟨o, e, r⟩ := st
    exact ⟨o, k it (by simp) o e, r⟩
  item := by
    intro X hP hw hK hc i pins s σ H E I hf st hg
    subst hP hw hK
    obtain ⟨f0, f1, f2, f3, f4, f5⟩ := hf it (by simp)
    have hg : i < x.cps.size := hg
    have hx : x.cps[i]? = some (x.cps[i]'hg) := Array.getElem?_eq_getElem hg
    refine wpAny_pyNext_ascii_item st hx fun h' st' sb => ?_
    have I1 : Inv X pins σ H { s with heap := h', toks := s.toks + 1 } := I.turned (t' := s.toks + 1) (fun b o hb e => (sb.2 b hb).trans e) f0 f1 f3 f4 f5
    obtain ⟨o, e, c, d⟩ := id st'
    exact ⟨_, rfl, go_of (s := { s with heap := h', toks := s.toks + 1 }) e c d (by decide) ⟨.str ⟨#[x.cps[i]'hg]⟩, H, I1, ⟨_, rfl⟩, ⟨rfl, _, hx, rfl⟩, st', fun b hb => (hf b hb).1⟩⟩
  done := by
    intro X hP hw hK hc i pins s σ H E I hf st hg
    subst hP hw hK
    obtain ⟨f0, f1, f2, f3, f4, f5⟩ := hf it (by simp)
    have hx : x.cps[i]? = none := Array.getElem?_eq_none hg
    exact wpAny_pyNext_ascii_end (I.ok.hd hc) st hx fun h' eb => ⟨rfl, I.turned (t' := s.toks) (fun b o hb e => eb b o hb e) f0 f1 f3 f4 f5⟩
  self := fun _ _ _ _ _ st h => wpAny_pyIter_striter_ascii st h
def iStr (tl : TE) : TI := fun σ H R => tl σ H fun v H1 => ∃ x : Str, v = .str x ∧ x.cps.all (· < 128) = true ∧ R (Its x) H1
section
variable {X : Cx} {tg : Expr}
theorem pi_str {l : Expr} {tl : TE} (hl : PE X l tl) : PI X tg l (iStr tl) := by
  intro pins s σ H R I h
  refine thn (hl pins s σ H _ I h) fun v s1 ⟨x, H1, I1, r1, q1⟩ => ?_
  obtain ⟨x, rfl, ha, q⟩ := q1
  obtain ⟨t, rfl⟩ := r1
  refine wpAny_pyIter_ascii ha ?_
  refine ⟨s1.heap.objs.size, [s1.heap.objs.size], _, _, H1, rfl, I1.kept (t' := s1.toks) fun b o e => Heap.get?_push_of_some _ e, turn_str x t _, ⟨_, Heap.get?_push_size _ rfl, rfl, rfl⟩, fun b hb => ?_, q⟩
  have e : b = s1.heap.objs.size := by simpa using hb
  subst e
  exact I1.fpOk (Nat.le_refl _) (I1.hok.fresh (Nat.le_refl _))
def chrU (x : Str) : List U := x.cps.toList.map fun c => .str ⟨#[c]⟩
def fStrI (f : FE) : FI := fun δ L => (f δ L).bind fun p => match p.1 with
  | .str x => if x.cps.all (· < 128) = true then some (.seq (chrU x), p.2) else none
  | _ => none
theorem its_rep {K : PySem.W.Frag} {H : Hp} {α : List Addr} (x : Str) : ItRep K (Its x) (.seq (chrU x)) H α := by
  intro H2 α2 L2 g A2 k
  refine ⟨fun u eu => ?_, fun eu => ?_⟩
  · have eu : (chrU x)[k]? = some u := by simpa [IU.at] using eu
    unfold chrU at eu
    rw [List.getElem?_map] at eu
    obtain ⟨c, hc, eu⟩ := Option.map_eq_some_iff.mp eu
    subst eu
    have hc' : x.cps[k]? = some c := by simpa using hc
    have hk : k < x.cps.size := by
      have := (List.getElem?_eq_some_iff.mp hc).1
      simpa using this
    refine ⟨hk, ?_⟩
    rintro y H3 ⟨rfl, c', hc2, rfl⟩
    rw [hc'] at hc2; cases hc2
    exact ⟨.refl _ _, A2, rfl⟩
  · have eu : (chrU x)[k]? = none := by simpa [IU.at] using eu
    unfold chrU at eu
    have : x.cps.toList.length ≤ k := by simpa using eu
    show x.cps.size ≤ k
    simpa using this
theorem pif_str {l : Expr} {f : FE} (hl : PEF X l f) : PIF X tg l (fStrI f) := by
  refine PI.imp (pi_str hl) ?_
  rintro σ H R ⟨α, δ, L, A, S, i, L3, e, q⟩
  obtain ⟨⟨u, L1⟩, e1, e⟩ := Option.bind_eq_some_iff.mp e
  simp only at e
  split at e
  · split at e
    · rename_i ha
      cases e
      refine ⟨α, δ, L, A, S, _, _, e1, fun x H1 α1 g1 A1 r1 => ?_⟩
      unfold RepU at r1
      subst r1
      exact ⟨_, rfl, ha, q _ H1 α1 g1 A1 (its_rep _)⟩
    · cases e
  · cases e
end
end MR

set_option Elab.async false
set_option linter.all false
set_option maxRecDepth 100000
set_option maxHeartbeats 4000000
namespace ZT
open PySem PySem.Spec PyProof.Rows
open Sem (wp)
section
variable {prog : Program} {w : World} {A : Around} {s : Shared} {R : Result → Shared → Prop}
variable {I : Addr} {fp wr : List Addr} {G : Array GenState → Array GenState → Prop} {n : Nat} {P : Nat → Value → Prop} {St : Nat → Shared → Prop}
end
section
variable {prog : Program} {w : World} {A : Around} {E : Value → Shared → Prop} {s : Shared}
variable {I : Addr} {fp wr : List Addr} {G : Array GenState → Array GenState → Prop} {n : Nat} {P : Nat → Value → Prop} {St : Nat → Shared → Prop}
end
end ZT

set_option Elab.async false
set_option linter.all false
set_option maxRecDepth 100000
set_option maxHeartbeats 4000000
namespace MR
open PySem PySem.Spec PyProof.Rows PySem.Calls L2
section
variable {X : Cx}
end
end MR

set_option Elab.async false
set_option linter.all false
set_option maxRecDepth 100000
set_option maxHeartbeats 4000000
namespace ZT
open PySem PySem.Spec PyProof.Rows HT
section
variable {prog : Program} {w : World} {A : Around} {E : Value → Shared → Prop} {s : Shared}
/-- t[lo:hi], the whole of it: t itself -/
theorem getItem_tuple_whole {t sl : Addr} {items : Array Value} {vl vu : Value} {lo hi : Option Int} {Q : Value → Shared → Prop} (ht : IsTup s.heap t items) (hs : s.heap.IsSliceOf sl vl vu .none) (pl : IsPart vl lo) (pu : IsPart vu hi)
    (hw : sIx items.size 0 lo = 0 ∧ sIx items.size items.size hi = items.size) (h : Q (.ref t) s) : wpAny (model prog w) A (getItem (.ref t) (.ref sl)) Q E s := by
  obtain ⟨os, hos, hcs, hds⟩ := id hs
  have hTs : s.TypeIs (.ref sl) "slice" := ⟨os, hos, hcs⟩
  unfold getItem
  try with_reducible refine wpAny_holding ?_
  first | refine wpAny_bind (wpAny_pure ?_) | skip
  refine wpAny_bind (wpAny_sequenceKey ht.typeIs (by decide) ?_)
  refine wpAny_bind (wpAny_callSpecial?_slot (name := Str.ofString "__getitem__") ht.typeIs PyProof.Rows.slot_tuple_getitem
    (wpAny_call_entry PyProof.Rows.slot_tuple_getitem ht.typeIs entry_tuple_getitem ?_ (args_tuple_getitem _ _)))
  show wpAny _ _ (Builtin.Tuple.tupleItemsOf (.ref t) >>= _) _ _ s
  refine wpAny_bind (tupleItemsOf_ ht ?_)
  refine wpAny_bind (wpAny_typeOf hTs ?_)
  rw [if_pos (by decide)]
  refine wpAny_bind (sliceApplied_gen hs pl pu ?_)
  have hyes : ((((sIx items.size 0 lo : Nat) : Int) == 0 && (1 : Int) == 1 && (sIx items.size items.size hi - sIx items.size 0 lo) == items.size) = true) := by
    rw [hw.1, hw.2]; simp
  show wpAny _ _ (if (((sIx items.size 0 lo : Nat) : Int) == 0 && (1 : Int) == 1 && (sIx items.size items.size hi - sIx items.size 0 lo) == items.size) = true then _ else _) _ _ s
  rw [if_pos hyes]
  unfold Builtin.Tuple.tupleIsExact
  refine wpAny_bind (wpAny_bind (wpAny_typeOf ht.typeIs (wpAny_pure ?_)))
  rw [if_pos (by decide)]
  refine wpAny_bind (wpAny_rule ?_)
  first
    | exact wpAny_pure ⟨_, rfl, wpAny_pure h⟩
    | exact wpAny_bind (wpAny_pure ⟨_, rfl, wpAny_pure h⟩)
    | exact wpAny_bind (wpAny_pure (wpAny_pure ⟨_, rfl, wpAny_pure h⟩))
    | trace_state
end
end ZT
namespace MR
open PySem PySem.Spec PyProof.Rows PySem.Calls L2
section
variable {X : Cx} {tg : Expr}
def rSlW (K : PySem.W.Frag) : V → Option Int → Option Int → Hp → VK → Prop := fun x lo hi H Q => ∃ a xs, x = .ref a ∧ SqT K H a xs ∧ (HT.sIx xs.length 0 lo = 0 ∧ HT.sIx xs.length xs.length hi = xs.length) ∧ Q (.ref a) H
theorem sl_whole : SlR X (rSlW X.K) := by
  intro pins s σ H x v vl vu lo hi sl Q I rx hs pl pu h
  obtain ⟨a, xs, rfl, hx, hw, q⟩ := h
  cases rx
  obtain ⟨its, r, ht, hz⟩ := I.tuple hx
  have hlen : its.toArray.size = xs.length := by rw [List.size_toArray]; exact r.length.symm
  refine ⟨"tuple", _, PyProof.Rows.slot_tuple_getitem.lookup, ht.typeIs, ?_⟩
  exact ZT.getItem_tuple_whole ht hs pl pu (by rw [hlen]; exact hw) ⟨.ref a, H, I, rfl, q⟩
def semSlA : SS := fun u lo hi L => match u with
  | .tup l => if HT.sIx l.length 0 lo = 0 ∧ HT.sIx l.length l.length hi = l.length then some (.tup l, L) else some (.tup (cutU l lo hi), L)
  | .ref n => (seqAt L n).map fun l => (.ref L.length, L ++ [.lst (cutU l lo hi)])
  | _ => none
theorem sl_allA : SlR X (fun x lo hi H Q => rSlA X.K x lo hi H Q ∨ rSlW X.K x lo hi H Q) := sl_all.or sl_whole
theorem sem_slA {K : PySem.W.Frag} : SemSl K (fun x lo hi H Q => rSlA K x lo hi H Q ∨ rSlW K x lo hi H Q) semSlA := by
  intro H α L u x lo hi z L' Q A ru e q
  cases u with
  | tup l =>
    by_cases hw : HT.sIx l.length 0 lo = 0 ∧ HT.sIx l.length l.length hi = l.length
    · unfold semSlA at e
      simp only at e
      rw [if_pos hw] at e
      cases e
      have ru' := ru
      unfold RepU at ru
      obtain ⟨a, ys, rfl, sq, r2⟩ := ru
      exact .inr ⟨a, ys, rfl, sq, by rw [← r2.length]; exact hw, q _ H α (.refl _ _) A ru'⟩
    · refine .inl (sem_sl H α L (.tup l) x lo hi z L' Q A ru ?_ q)
      unfold semSlA at e
      unfold semSl
      simp only at e ⊢
      rw [if_neg hw] at e ⊢
      exact e
  | ref n => exact .inl (sem_sl H α L (.ref n) x lo hi z L' Q A ru e q)
  | _ => cases e
end
end MR

set_option Elab.async false
set_option linter.all false
set_option maxRecDepth 100000
set_option maxHeartbeats 4000000
namespace MR
open PySem PySem.Spec PyProof.Rows PySem.Calls L2
section
variable {X : Cx}
def rCatE (K : PySem.W.Frag) : R2 := fun x y H Q => ∃ a b ys, x = .ref a ∧ y = .ref b ∧ SqT K H a [] ∧ SqT K H b ys ∧ Q (.ref b) H
theorem op_catE : OpR X (binaryOp .Add) (rCatE X.K) := by
  intro pins s σ H x y v u Q I rx ry h
  obtain ⟨a, b, ys, rfl, rfl, ha, hb, q⟩ := h
  cases rx
  cases ry
  obtain ⟨its, r1, p1, _⟩ := I.tuple ha
  obtain ⟨its2, r2, p2, _⟩ := I.tuple hb
  have he : its = [] := r1.nil_iff.mpr rfl
  obtain ⟨⟨cls, dd, data, sl⟩, ho, hc, n, hd⟩ := id p1
  obtain ⟨⟨cls2, dd2, data2, sl2⟩, ho2, hc2, n2, hd2⟩ := id p2
  simp only at hc hd hc2 hd2
  subst hc hd hc2 hd2
  exact concat_meets ⟨_, ho, rfl⟩ ⟨_, ho2, rfl⟩ noFill_tuple_add seq_tuple_add PySem.F.slot_tuple_add PySem.F.entry_tuple_add (PySem.F.args_tuple_add_2 _ _)
    (tuple_addW0 a b its.toArray its2.toArray n n2 dd dd2 sl sl2 (by simp [he])) ⟨ho, ho2, ⟨.ref b, H, I, rfl, q⟩⟩
end
def semAddA : S2 := fun u w L => match u, w with
  | .tup [], .tup b => some (.tup b, L)
  | u, w => semAdd u w L
def rAddE (K : PySem.W.Frag) : R2 := fun x y H Q => rAddA K x y H Q ∨ rCatE K x y H Q
theorem op_addE {X : Cx} : OpR X (binaryOp .Add) (rAddE X.K) := op_addA.or op_catE
theorem sem_addA {K : PySem.W.Frag} : SemR2 K (rAddE K) semAddA := by
  intro H α L u w x y z L' Q A ru rw e q
  unfold semAddA at e
  split at e
  · cases e
    have rw' := rw
    unfold RepU at ru rw
    obtain ⟨a, xs, rfl, sq, r2⟩ := ru
    obtain ⟨b, ys, rfl, sq', r2'⟩ := rw
    unfold RepL at r2
    subst r2
    exact .inr ⟨a, b, ys, rfl, rfl, sq, sq', q _ H α (.refl _ _) A rw'⟩
  · exact .inl (sem_add H α L _ _ x y z L' Q A ru rw e q)
@[simp] theorem semAddA_int (i j : Int) (L : UH) : semAddA (.int i) (.int j) L = some (.int (i + j), L) := rfl
end MR

set_option Elab.async false
set_option linter.all false
set_option maxRecDepth 100000
set_option maxHeartbeats 4000000
namespace MR
open PySem PyProof.Rows L2
section
variable {X : Cx}
def rSlS : V → Option Int → Option Int → Hp → VK → Prop := fun x lo hi H Q => ∃ a, x = .str a ∧ a.length ≤ sizeLine ∧ Q (.str (Txt.slice a lo hi)) H
theorem sl_str : SlR X rSlS := by
  intro pins s σ H x v vl vu lo hi sl Q I rx hs pl pu h
  obtain ⟨a, rfl, hl, q⟩ := h
  obtain ⟨t, rfl⟩ := rx
  refine ⟨"str", _, F.slot_str_getitem.lookup, typeIs_str _ _ _, ?_⟩
  have fin : ∀ (t' : Tok) (k : Nat), EP X pins σ Q (.str (Txt.slice a lo hi) t') { s with toks := k } := fun t' k => ⟨.str (Txt.slice a lo hi), H, I.tok k, ⟨_, rfl⟩, q⟩
  have hz : (Txt.slice a lo hi).length ≤ sizeLine := Nat.le_trans (Txt.slice_le a _ _) hl
  cases pl with
  | none =>
    cases pu with
    | none => exact wpAny_getItem_str_slice (l := none) (u := none) (st := none) hs rfl (post_val_or_str ⟨hz, fin⟩)
    | int j tj => exact wpAny_getItem_str_slice (l := none) (u := some (j, tj)) (st := none) hs rfl (post_val_or_str ⟨hz, fin⟩)
  | int i ti =>
    cases pu with
    | none => exact wpAny_getItem_str_slice (l := some (i, ti)) (u := none) (st := none) hs rfl (post_val_or_str ⟨hz, fin⟩)
    | int j tj => exact wpAny_getItem_str_slice (l := some (i, ti)) (u := some (j, tj)) (st := none) hs rfl (post_val_or_str ⟨hz, fin⟩)
def rJoin : V → List V → Hp → VK → Prop := fun x vs H Q => ∃ (a : Str) (l : Addr) (ys : List Str), x = .str a ∧ vs = [.ref l] ∧ H l = some (.lst (ys.map V.str)) ∧ a.length ≤ 16 ∧ (ys.map (·.length)).sum + ys.length ≤ 1048576 ∧ Q (.str (Txt.join a ys)) H
theorem strsAre_of : ∀ {its : List Value} {ys : List Str}, Vals (ys.map V.str) its → StrsAre its ys
  | its, [], r => by rw [List.map_nil] at r; cases r; exact .nil
  | its, y :: ys, r => by
    rw [List.map_cons] at r
    cases r with
    | cons r1 r2 =>
      obtain ⟨t', rfl⟩ := r1
      exact .cons _ _ (strsAre_of r2)
theorem mt_join : MtR X "str.join" rJoin := by
  intro pins s σ H x vs v us Q I rx rv h
  obtain ⟨a, l, ys, rfl, rfl, hH, ha, hw, q⟩ := h
  obtain ⟨t, rfl⟩ := rx
  obtain ⟨u, rfl, ru⟩ := rv.one
  cases ru
  obtain ⟨z, its, n, r, hl, e⟩ := I.lstM hH
  exact join_listW ⟨_, e, rfl, _, rfl⟩ (by simpa using strsAre_of r) ha hw fun t' k => ⟨.str (Txt.join a ys), H, I.tok k, ⟨_, rfl⟩, q⟩
end
def semSlZ : SS := fun u lo hi L => match u with
  | .str x => if small x.length = true then some (.str (Txt.slice x lo hi), L) else none
  | u => semSl u lo hi L
theorem sl_allZ {X : Cx} : SlR X (fun x lo hi H Q => rSlA X.K x lo hi H Q ∨ rSlS x lo hi H Q) := sl_all.or sl_str
theorem sem_slZ {K : PySem.W.Frag} : SemSl K (fun x lo hi H Q => rSlA K x lo hi H Q ∨ rSlS x lo hi H Q) semSlZ := by
  intro H α L u x lo hi z L' Q A ru e q
  cases u with
  | str a =>
    unfold semSlZ at e
    simp only at e
    split at e
    · rename_i hs
      cases e
      unfold RepU at ru
      subst ru
      exact .inr ⟨a, rfl, small_le hs, q _ H α (.refl _ _) A rfl⟩
    · cases e
  | tup l => exact .inl (sem_sl H α L (.tup l) x lo hi z L' Q A ru e q)
  | ref n => exact .inl (sem_sl H α L (.ref n) x lo hi z L' Q A ru e q)
  | _ => cases e
def toS : U → Option Str
  | .str a => some a
  | _ => none
theorem toSs_ok {K : PySem.W.Frag} {H : Hp} {α : List Addr} : ∀ {us : List U} {xs : List V} {ys : List Str}, RepL K H α us xs → mapO toS us = some ys → xs = ys.map V.str
  | [], xs, ys, r, e => by
    unfold RepL at r
    cases e
    exact r
  | u :: us, xs, ys, r, e => by
    unfold RepL at r
    obtain ⟨x, xr, rfl, rx, r⟩ := r
    unfold mapO at e
    obtain ⟨y, hy, e⟩ := Option.bind_eq_some_iff.mp e
    obtain ⟨yr, hyr, e⟩ := Option.map_eq_some_iff.mp e
    cases e
    cases u with
    | str a =>
      cases hy
      unfold RepU at rx
      rw [rx, toSs_ok r hyr]; rfl
    | _ => cases hy
def semJoin : SM := fun u us L => match u, us with
  | .str a, [.ref n] => (lstAt L n).bind fun l => (mapO toS l).bind fun ys => if a.length ≤ 16 ∧ (ys.map (·.length)).sum + ys.length ≤ 1048576 then some (.str (Txt.join a ys), L) else none
  | _, _ => none
theorem sem_join {K : PySem.W.Frag} : SemM K rJoin semJoin := by
  intro H α L u us x xs z L' Q A ru r e q
  unfold semJoin at e
  split at e
  · obtain ⟨l, hl, e⟩ := Option.bind_eq_some_iff.mp e
    obtain ⟨ys, hys, e⟩ := Option.bind_eq_some_iff.mp e
    split at e
    · rename_i hc
      cases e
      unfold RepU at ru
      subst ru
      obtain ⟨v, rfl, rv⟩ := r.one
      obtain ⟨a', zs, rfl, ea, h, r2⟩ := ref_lst A hl rv
      rw [toSs_ok r2 hys] at h
      exact ⟨_, a', ys, rfl, rfl, h, hc.1, hc.2, q _ H α (.refl _ _) A rfl⟩
    · cases e
  · cases e
end MR
namespace MR
open PySem PySem.W PyProof.Rows L2
end MR
namespace Att
open PySem PySem.W PySem.Calls PyProof.Rows L2 MR
end Att

set_option Elab.async false
set_option linter.all false
set_option maxRecDepth 100000
set_option maxHeartbeats 4000000
namespace MR
open PySem PyProof.Rows L2
def g0 (us ws : List Value) : List Value := match us with | [] => ws | _ => []
section
variable {X : Cx} {k : Nat} {f : Addr} {fd : FuncData} {p : Str} {ps : List Str} {x : Str} {pp pos kpos : Pos} {e : Expr} {kws : List Keyword} {nm : Option Str}
theorem PK.imp {t t' : TA} (h : PK X kws t) (hi : ∀ σ H Q, t' σ H Q → t σ H Q) : PK X kws t' := fun pos pins s σ H Q I q => h pos pins s σ H Q I (hi σ H Q q)
end
end MR

set_option Elab.async false
set_option linter.all false
set_option maxRecDepth 100000
set_option maxHeartbeats 4000000
namespace MR
open PySem PySem.Spec PyProof.Rows PySem.Calls L2
section
variable {X : Cx}
end
end MR

set_option Elab.async false
set_option linter.all false
set_option maxRecDepth 100000
set_option maxHeartbeats 4000000
namespace MR
open PySem PySem.Spec PyProof.Rows PySem.Calls L2
section
variable {X : Cx}
end
end MR

set_option Elab.async false
set_option linter.all false
set_option maxRecDepth 100000
set_option maxHeartbeats 4000000
namespace MR
open PySem PyProof.Rows L2
theorem RepL.init {K : PySem.W.Frag} {H : Hp} {α : List Addr} : ∀ {us : List U} {xs : List V}, RepL K H α us xs → RepL K H α us.dropLast xs.dropLast
  | [], xs, r => by unfold RepL at r; subst r; exact .nil
  | [u], xs, r => by
    unfold RepL at r
    obtain ⟨x, xr, rfl, rx, r⟩ := r
    unfold RepL at r
    subst r
    exact .nil
  | u :: w :: us, xs, r => by
    unfold RepL at r
    obtain ⟨x, xr, rfl, rx, r⟩ := r
    have r' := r
    unfold RepL at r'
    obtain ⟨y, yr, rfl, ry, _⟩ := r'
    exact .cons rx (RepL.init r)
end MR

set_option Elab.async false
set_option linter.all false
set_option maxRecDepth 100000
set_option maxHeartbeats 4000000
namespace MR
open PySem PyProof.Rows L2
def toK : U → Option Key
  | .int i => some (.inl i)
  | .str x => some (.inr x)
  | _ => none
theorem toK_ok {K : PySem.W.Frag} {H : Hp} {α : List Addr} {u : U} {x : V} {k : Key} (r : RepU K H α u x) (h : toK u = some k) : x = kV k := by
  cases u <;> simp only [toK] at h <;> first | (cases h; unfold RepU at r; exact r) | cases h
def valU (kvs : List (Key × U)) (k : Key) : Option U := (kvs.find? fun kv => decide (kv.1 = k)).map (·.2)
def putD (kvs : List (Key × U)) (k : Key) (v : U) : List (Key × U) :=
  if (kvs.any fun kv => decide (kv.1 = k)) = true then kvs.map (fun kv => if kv.1 = k then (kv.1, v) else kv) else kvs ++ [(k, v)]
section
variable {K : PySem.W.Frag} {H : Hp} {α : List Addr}
def RepKV (K : PySem.W.Frag) (H : Hp) (α : List Addr) (kvs : List (Key × U)) (vs : List (Key × V)) : Prop := kvs.map (·.1) = vs.map (·.1) ∧ RepL K H α (kvs.map (·.2)) (vs.map (·.2))
theorem RepKV.nil : RepKV K H α [] [] := ⟨rfl, .nil⟩
theorem RepKV.cons {kv : Key × U} {kvs : List (Key × U)} {vs : List (Key × V)} (h : RepKV K H α (kv :: kvs) vs) : ∃ x vs', vs = (kv.1, x) :: vs' ∧ RepU K H α kv.2 x ∧ RepKV K H α kvs vs' := by
  obtain ⟨h1, h2⟩ := h
  cases vs with
  | nil => simp at h1
  | cons w vs' =>
    simp only [List.map_cons, List.cons.injEq] at h1
    rw [List.map_cons, List.map_cons] at h2
    unfold RepL at h2
    obtain ⟨x, xr, hx, rx, r⟩ := h2
    injection hx with e1 e2
    subst e1
    refine ⟨w.2, vs', by rw [h1.1], rx, h1.2, ?_⟩
    rw [e2]; exact r
theorem RepKV.mk {k : Key} {u : U} {x : V} {kvs : List (Key × U)} {vs : List (Key × V)} (r : RepU K H α u x) (h : RepKV K H α kvs vs) : RepKV K H α ((k, u) :: kvs) ((k, x) :: vs) :=
  ⟨by simp [h.1], by rw [List.map_cons, List.map_cons]; exact .cons r h.2⟩
theorem RepKV.val {k : Key} {u : U} : ∀ {kvs : List (Key × U)} {vs : List (Key × V)}, RepKV K H α kvs vs → valU kvs k = some u → ∃ x, valV vs k = some x ∧ RepU K H α u x
  | [], vs, _, e => by simp [valU] at e
  | kv :: kvs, vs, r, e => by
    obtain ⟨x, vs', rfl, rx, r'⟩ := r.cons
    unfold valU at e
    unfold valV
    rw [List.find?_cons] at e ⊢
    by_cases h : kv.1 = k
    · simp only [h, decide_true, Option.map_some] at e ⊢
      cases e
      exact ⟨x, rfl, rx⟩
    · simp only [h, decide_false] at e ⊢
      exact RepKV.val r' e
theorem RepKV.any {k : Key} : ∀ {kvs : List (Key × U)} {vs : List (Key × V)}, RepKV K H α kvs vs → (kvs.any fun kv => decide (kv.1 = k)) = (vs.any fun kv => decide (kv.1 = k))
  | [], vs, r => by
    obtain ⟨h1, _⟩ := r
    cases vs with
    | nil => rfl
    | cons _ _ => simp at h1
  | kv :: kvs, vs, r => by
    obtain ⟨x, vs', rfl, rx, r'⟩ := r.cons
    rw [List.any_cons, List.any_cons, RepKV.any r']
theorem RepKV.len {kvs : List (Key × U)} {vs : List (Key × V)} (r : RepKV K H α kvs vs) : kvs.length = vs.length := by
  have := congrArg List.length r.1
  simpa using this
theorem RepKV.upd {k : Key} {u : U} {x : V} (ru : RepU K H α u x) : ∀ {kvs : List (Key × U)} {vs : List (Key × V)}, RepKV K H α kvs vs → RepKV K H α (kvs.map fun kv => if kv.1 = k then (kv.1, u) else kv) (vs.map fun kv => if kv.1 = k then (kv.1, x) else kv)
  | [], vs, r => by
    obtain ⟨h1, _⟩ := r
    cases vs with
    | nil => exact .nil
    | cons _ _ => simp at h1
  | kv :: kvs, vs, r => by
    obtain ⟨y, vs', rfl, ry, r'⟩ := r.cons
    rw [List.map_cons, List.map_cons]
    by_cases h : kv.1 = k
    · rw [if_pos h, if_pos h]
      exact .mk ru (RepKV.upd ru r')
    · rw [if_neg h, if_neg h]
      exact .mk ry (RepKV.upd ru r')
theorem RepKV.add {k : Key} {u : U} {x : V} (ru : RepU K H α u x) : ∀ {kvs : List (Key × U)} {vs : List (Key × V)}, RepKV K H α kvs vs → RepKV K H α (kvs ++ [(k, u)]) (vs ++ [(k, x)])
  | [], vs, r => by
    obtain ⟨h1, _⟩ := r
    cases vs with
    | nil => exact .mk ru .nil
    | cons _ _ => simp at h1
  | kv :: kvs, vs, r => by
    obtain ⟨y, vs', rfl, ry, r'⟩ := r.cons
    exact .mk ry (RepKV.add ru r')
theorem RepKV.put {k : Key} {u : U} {x : V} {kvs : List (Key × U)} {vs : List (Key × V)} (ru : RepU K H α u x) (r : RepKV K H α kvs vs) : RepKV K H α (putD kvs k u) (putK vs k x) := by
  unfold putD putK
  rw [r.any]
  split
  · exact r.upd ru
  · exact r.add ru
theorem RepKV.mono {H' : Hp} {α' : List Addr} {kvs : List (Key × U)} {vs : List (Key × V)} (r : RepKV K H α kvs vs) (g : Gr H α H' α') : RepKV K H' α' kvs vs := ⟨r.1, r.2.mono g⟩
end
def dicAt (L : UH) (n : Nat) : Option (List (Key × U)) := match L[n]? with
  | some (.dic kvs) => some kvs
  | _ => none
theorem dicAt_some {L : UH} {n : Nat} {kvs : List (Key × U)} (h : dicAt L n = some kvs) : L[n]? = some (.dic kvs) := by
  unfold dicAt at h
  split at h
  · rename_i e; cases h; exact e
  · cases h
theorem ref_dic {K : PySem.W.Frag} {H : Hp} {α : List Addr} {L : UH} {n : Nat} {x : V} {kvs : List (Key × U)} (A : Abs K H α L) (h : dicAt L n = some kvs) (r : RepU K H α (.ref n) x) : ∃ a vs, x = .ref a ∧ α[n]? = some a ∧ H a = some (.dK vs) ∧ RepKV K H α kvs vs := by
  unfold RepU at r
  obtain ⟨a, ea, rfl⟩ := r
  obtain ⟨vs, e, k1, k2⟩ := A.rep n a _ ea (dicAt_some h)
  exact ⟨a, vs, rfl, ea, e, k1, k2⟩
theorem Abs.setD {K : PySem.W.Frag} {H : Hp} {α : List Addr} {L : UH} {n : Nat} {a : Addr} {vs ws : List (Key × V)} {kvs kws : List (Key × U)} (A : Abs K H α L) (h : dicAt L n = some kvs) (ea : α[n]? = some a) (e : H a = some (.dK vs)) (r : RepKV K H α kws ws) :
    Gr H α (upd H a (.dK ws)) α ∧ Abs K (upd H a (.dK ws)) α (L.set n (.dic kws)) := by
  have g : Gr H α (upd H a (.dK ws)) α := ⟨⟨[], by simp⟩, .write e (by exact trivial) _⟩
  obtain ⟨A', _⟩ := A.put (o := .dK ws) (u := .dic kws) ea (dicAt_some h) rfl rfl e (by exact trivial) ⟨ws, upd_same, (r.mono g).1, (r.mono g).2⟩
  exact ⟨g, A'⟩
section
variable {X : Cx} {o i value : Expr} {pos pos' : Pos} {fo fi fv : FE}
def fDNew : FE := fun _ L => some (.ref L.length, L ++ [.dic []])
theorem pf_dnew : PEF X (.Dict [] [] pos) fDNew := by
  refine PE.imp pe_dnewK ?_
  rintro σ H Q ⟨α, δ, L, A, S, z, L3, e, q⟩
  cases e
  intro p hp
  have g : Gr H α (upd H p (.dK [])) (α ++ [p]) := ⟨⟨[p], rfl⟩, .new hp _⟩
  obtain ⟨A', _⟩ := A.new (o := .dK []) (u := .dic []) hp ⟨[], upd_same, rfl, .nil⟩
  refine q _ _ _ g A' ?_
  unfold RepU
  exact ⟨p, by rw [← A.len]; simp, rfl⟩
def fDPut (fo fi fv : FE) : FS := fun δ L => (fv δ L).bind fun p => (fo δ p.2).bind fun q => (fi δ q.2).bind fun r => match q.1 with
  | .ref n => (toK r.1).bind fun k => (dicAt r.2 n).bind fun kvs => if kvs.length < 1000000 then some (.nx δ, r.2.set n (.dic (putD kvs k p.1))) else none
  | _ => none
theorem psf_dput (hu : X.A.units + 64 < cLine) (ho : PEF X o fo) (hi : PEF X i fi) (hv : PEF X value fv) (hs : swapsWith value (some (.Subscript o i pos')) pos.line X.env = pure false := by rfl) : PSF X (.Assign [.Subscript o i pos'] value pos) (fDPut fo fi fv) := by
  refine PS.imp (ps_dput (by omega) ho hi hv hs) ?_
  rintro D σ H ⟨α, δ, L, A, S, fl, L', e, q⟩
  obtain ⟨⟨v, L1⟩, e1, e⟩ := Option.bind_eq_some_iff.mp e
  obtain ⟨⟨u, L2⟩, e2, e⟩ := Option.bind_eq_some_iff.mp e
  obtain ⟨⟨w, L3⟩, e3, e⟩ := Option.bind_eq_some_iff.mp e
  refine ⟨α, δ, L, A, S, v, L1, e1, fun xv H1 α1 g1 A1 rv => ⟨α1, δ, L1, A1, S.mono g1, u, L2, e2, fun x H2 α2 g2 A2 rx => ⟨α2, δ, L2, A2, (S.mono g1).mono g2, w, L3, e3, fun y H3 α3 g3 A3 ry => ?_⟩⟩⟩
  simp only at e
  split at e
  · obtain ⟨k, hk, e⟩ := Option.bind_eq_some_iff.mp e
    obtain ⟨kvs, hd, e⟩ := Option.bind_eq_some_iff.mp e
    split at e
    · rename_i hl
      cases e
      obtain ⟨a, vs, rfl, ea, ha, rk⟩ := ref_dic A3 hd (rx.mono g3)
      have rv' := rv.mono (g2.trans g3)
      obtain ⟨g4, A4⟩ := A3.setD hd ea ha (rk.put (k := k) rv')
      refine ⟨a, _, rfl, ?_, q σ _ α3 ((g1.trans (g2.trans g3)).trans g4) A4 ((((S.mono g1).mono g2).mono g3).mono g4)⟩
      rw [toK_ok ry hk]
      exact DPut.k ha (by rw [← rk.len]; unfold sizeLine; omega)
    · cases e
  · cases e
end
end MR

set_option Elab.async false
set_option linter.all false
set_option maxRecDepth 100000
set_option maxHeartbeats 4000000
namespace MR
open PySem PySem.Spec PyProof.Rows L2
section
variable {X : Cx} {pins : List (Addr × Obj)} {σ : L2.St} {H H' : Hp} {s : Shared}
def Thaw (H H' H2 : Hp) : Prop := ∀ b, H2 b = H' b ∨ ∃ o vs, H' b = some (.frz o (.dK vs)) ∧ H2 b = some (.dK vs) ∧ ∀ o u, H b ≠ some (.frz o u)
theorem Thaw.stay {H2 : Hp} (t : Thaw H H' H2) {b : Addr} {u : Option HO} (e : H' b = u) (n : ∀ o ks, u ≠ some (.frz o (.dK ks))) : H2 b = u := by
  rcases t b with z | ⟨o, vs, z, _⟩
  · rw [z]; exact e
  · rw [e] at z; exact absurd z (n _ _)
end
section
variable {K : PySem.W.Frag} {H H' : Hp} {α : List Addr}
mutual
theorem RepU.via (g : ∀ a xs, SqT K H a xs → SqT K H' a xs) : ∀ (u : U) (v : V), RepU K H α u v → RepU K H' α u v
  | .non, _, h => h
  | .bl _, _, h => h
  | .int _, _, h => h
  | .str _, _, h => h
  | .tup l, v, h => by
    unfold RepU at h ⊢
    obtain ⟨a, xs, e, s, r⟩ := h
    exact ⟨a, xs, e, g _ _ s, RepL.via g l xs r⟩
  | .ref n, v, h => by
    unfold RepU at h ⊢
    exact h
theorem RepL.via (g : ∀ a xs, SqT K H a xs → SqT K H' a xs) : ∀ (l : List U) (xs : List V), RepL K H α l xs → RepL K H' α l xs
  | [], xs, h => h
  | u :: l, xs, h => by
    unfold RepL at h ⊢
    obtain ⟨x, r, e, h1, h2⟩ := h
    exact ⟨x, r, e, RepU.via g u x h1, RepL.via g l r h2⟩
end
end
end MR

set_option Elab.async false
set_option linter.all false
set_option maxRecDepth 100000
set_option maxHeartbeats 4000000
namespace MR
open PySem PySem.Spec PyProof.Rows L2
structure DObj (P : Program) (w : World) (o : Obj) (kvs : List (Key × V)) (vs : List (Key × Value)) (ep : Nat) : Prop where
  rel : KV kvs vs
  at_ : ∀ (h : Heap) (d : Addr), h.get? d = some o → h.DictAt (mixKind P w) d vs ep
theorem KV.at_ : ∀ {kvs : List (Key × V)} {vs : List (Key × Value)} {i : Nat} {p : Key × Value}, KV kvs vs → vs[i]? = some p → ∃ q, kvs[i]? = some q ∧ q.1 = p.1 ∧ RelV q.2 p.2
  | _, _, i, p, .nil, e => by simp at e
  | _, _, 0, p, .cons r t, e => by simp at e; subst e; exact ⟨_, rfl, r⟩
  | _, _, i + 1, p, .cons r t, e => by simpa using KV.at_ (i := i) t (by simpa using e)
section
variable {P : Program} {w : World} {K : PySem.W.Frag} {d it : Addr} {o : Obj} {kvs : List (Key × V)} {vs : List (Key × Value)} {ep : Nat}
end
section
variable {X : Cx} {tg o e : Expr} {apos cpos : Pos} {td : TE}
structure M0 (X : Cx) (o : Expr) (m : Str) (apos cpos : Pos) : Prop where
  base : attributeBase o m X.env (eval o X.env) = eval o X.env
  few : ((backTo cpos (starEach [] X.env)).all (fun x => !x.1) && (backToKw cpos (keywordEach [] X.env)).all (fun x => x.1.isSome)
    && decide (([] : List Expr).length + ([] : List Keyword).length + (if ([] : List Keyword).isEmpty then 0 else 1) < 30)) = true
  line : (apos.endLine == cpos.line) = true
  trees : backTo cpos (starEach [] X.env) = []
end
section
variable {K : PySem.W.Frag} {H : Hp} {α : List Addr} {L : UH} {a : Addr} {ob : Obj}
end
section
variable {X : Cx} {tg o : Expr} {apos cpos : Pos} {fo : FE}
def rDIn : R2 := fun y x H Q => ∃ a r, x = .ref a ∧ DGet H a y r ∧ Q (.bl r.isSome) H
theorem op_din (hu : X.A.units + 64 < cLine) : OpR X (compareOp .In) rDIn := by
  intro pins s σ H x y u w Q I rx ry h
  obtain ⟨a, r, rfl, g, q⟩ := h
  obtain rfl : w = Value.ref a := ry
  exact d_in (by omega) I g rx fun s' I' => ⟨.bl _, H, I', rfl, q⟩
def semDIn : S2 := fun y x L => match x with
  | .ref n => (toK y).bind fun k => (dicAt L n).map fun kvs => (.bl (valU kvs k).isSome, L)
  | _ => none
theorem find_any (k : Key) : ∀ kvs : List (Key × U), (kvs.find? fun kv => decide (kv.1 = k)).isSome = kvs.any fun kv => decide (kv.1 = k)
  | [] => rfl
  | kv :: kvs => by
    rw [List.find?_cons, List.any_cons]
    by_cases h : kv.1 = k
    · simp [h]
    · simp only [h, decide_false, Bool.false_or]
      exact find_any k kvs
theorem RepKV.some {K : PySem.W.Frag} {H : Hp} {α : List Addr} {kvs : List (Key × U)} {vs : List (Key × V)} (r : RepKV K H α kvs vs) (k : Key) : (valU kvs k).isSome = (valV vs k).isSome := by
  have h1 : (valU kvs k).isSome = kvs.any fun kv => decide (kv.1 = k) := by
    unfold valU
    rw [Option.isSome_map]
    exact find_any k kvs
  rw [h1, r.any, valV_any]
theorem sem_din {K : PySem.W.Frag} : SemR2 K rDIn semDIn := by
  intro H α L u w x y z L' Q A ru rw' e q
  unfold semDIn at e
  split at e
  · obtain ⟨k, hk, e⟩ := Option.bind_eq_some_iff.mp e
    obtain ⟨kvs, hd, e⟩ := Option.map_eq_some_iff.mp e
    cases e
    obtain ⟨a, vs, rfl, ea, ha, rk⟩ := ref_dic A hd rw'
    refine ⟨a, _, rfl, by rw [toK_ok ru hk]; exact DGet.k ha, ?_⟩
    rw [← rk.some k]
    exact q _ H α (.refl _ _) A rfl
  · cases e
end
def dropD (kvs : List (Key × U)) (k : Key) : List (Key × U) := kvs.filter fun kv => decide (kv.1 ≠ k)
theorem RepKV.drop {K : PySem.W.Frag} {H : Hp} {α : List Addr} (k : Key) : ∀ {kvs : List (Key × U)} {vs : List (Key × V)}, RepKV K H α kvs vs → RepKV K H α (dropD kvs k) (dropK vs k)
  | [], vs, r => by
    have := r.1
    cases vs with
    | nil => exact .nil
    | cons _ _ => simp at this
  | kv :: kvs, vs, r => by
    obtain ⟨x, vs', rfl, rx, r'⟩ := r.cons
    unfold dropD dropK
    rw [List.filter_cons, List.filter_cons]
    by_cases h : kv.1 = k
    · simp only [h, ne_eq, not_true_eq_false, decide_false, Bool.false_eq_true, if_false]
      exact RepKV.drop k r'
    · simp only [h, ne_eq, not_false_eq_true, decide_true, if_true]
      exact .mk rx (RepKV.drop k r')
end MR

set_option Elab.async false
set_option linter.all false
set_option maxRecDepth 100000
set_option maxHeartbeats 4000000
namespace MR
open PySem PySem.Spec PyProof.Rows PySem.Calls L2
theorem parts_len (x y : Str) : (Txt.split x y).length ≤ x.length + 2 := by
  unfold Txt.split
  split
  · simp
  · split
    · simp
    · have e1 := StrLaws.occ_length_le x y 0 x.length (x.length + 1)
      rw [length_partsBetween]; omega
theorem split_new {P : Program} {w : World} {A : Around} {E : Value → Shared → Prop} {s : Shared} {Q : Value → Shared → Prop} {x y : Str} {t u : Tok} (hy : (y.length == 0) = false) (hsz : x.length + 2 ≤ sizeLine)
    (h : ∀ (l : List (Str × Tok)) (k : Nat), l.map (·.1) = Txt.split x y → Q (.ref s.heap.objs.size) { s with heap := s.heap.push { cls := .type "list", data := .seq (strValues l).toArray }, toks := k }) :
    wpAny (model P w) A (call (.builtin "str.split") [.str x t, .str y u]) Q E s := by
  have hn := parts_len x y
  by_cases c1 : (decide (x.length < y.length) || decide (Builtin.Str.strKind x < Builtin.Str.strKind y)) = true
  · have e : Txt.split x y = [x] := by unfold Txt.split; rw [if_pos c1]
    exact call_meets PySem.F.slot_str_split (typeIs_str _ _ _) PySem.F.entry_str_split (PySem.F.args_str_split_2 _ _) (meets_str_split_cannot_occur x y t u c1) (h [(x, t)] s.toks (by rw [e]; rfl))
  have c1' : (decide (x.length < y.length) || decide (Builtin.Str.strKind x < Builtin.Str.strKind y)) = false := by simpa using c1
  by_cases c2 : (Builtin.Str.occurrences x y 0 x.length (x.length + 1)).isEmpty = true
  · have e : Txt.split x y = [x] := by unfold Txt.split; rw [if_neg c1, if_pos c2]
    exact call_meets PySem.F.slot_str_split (typeIs_str _ _ _) PySem.F.entry_str_split (PySem.F.args_str_split_2 _ _) (meets_str_split_not_found x y t u c1' hy c2) (h [(x, t)] s.toks (by rw [e]; rfl))
  have c2' : (Builtin.Str.occurrences x y 0 x.length (x.length + 1)).isEmpty = false := by simpa using c2
  have e : Txt.split x y = Builtin.Str.partsBetween x (Builtin.Str.occurrences x y 0 x.length (x.length + 1)) y.length := by unfold Txt.split; rw [if_neg c1, if_neg c2]
  rw [e] at hn
  refine call_meets PySem.F.slot_str_split (typeIs_str _ _ _) PySem.F.entry_str_split (PySem.F.args_str_split_2 _ _) (meets_str_split_sep x y t u c1' hy c2' (by omega) (by omega)) ?_
  show wants Q E _ _
  rw [strsFrom_eq]
  exact h (numbered s.toks _) _ ((numbered_texts _ _).trans e.symm)
theorem strVals_rel : ∀ (l : List (Str × Tok)), Vals ((l.map (·.1)).map V.str) (strValues l)
  | [] => .nil
  | p :: r => .cons ⟨p.2, rfl⟩ (strVals_rel r)
section
variable {X : Cx}
def rSplit : V → List V → Hp → VK → Prop := fun x vs H Q => ∃ a b, x = .str a ∧ vs = [.str b] ∧ (b.length == 0) = false ∧ a.length + 2 ≤ sizeLine ∧ ∀ l, H l = none → Q (.ref l) (upd H l (.lst ((Txt.split a b).map V.str)))
theorem mt_split : MtR X "str.split" rSplit := by
  intro pins s σ H x vs v us Q I rx rv h
  obtain ⟨a, b, rfl, rfl, hb, hz, q⟩ := h
  obtain ⟨t, rfl⟩ := rx
  obtain ⟨u, rfl, ru⟩ := rv.one
  obtain ⟨t', rfl⟩ := ru
  refine split_new hb hz fun l k e => ?_
  have hlen := parts_len a b
  refine ⟨.ref s.heap.objs.size, _, I.laid (t' := k) (o := .lst ((Txt.split a b).map V.str)) (fun b o e => Heap.get?_push_of_some _ e) (Nat.le_refl _) ⟨by rw [List.length_map]; omega, strValues l, 0, by rw [← e]; exact strVals_rel l, Heap.get?_push_size _ rfl⟩, rfl, q _ (I.hok.fresh (Nat.le_refl _))⟩
def rStarts : V → List V → Hp → VK → Prop := fun x vs H Q => ∃ a b, x = .str a ∧ vs = [.str b] ∧ Q (.bl (Txt.startswith a b)) H
theorem mt_starts : MtR X "str.startswith" rStarts := by
  intro pins s σ H x vs v us Q I rx rv h
  obtain ⟨a, b, rfl, rfl, q⟩ := h
  obtain ⟨t, rfl⟩ := rx
  obtain ⟨u, rfl, ru⟩ := rv.one
  obtain ⟨t', rfl⟩ := ru
  exact SC.startswith ⟨.bl (Txt.startswith a b), H, I, rfl, q⟩
theorem call_intT : CallR X (.type "int") (fun xs H Q => ∃ a n, xs = [.str a] ∧ PySem.intText? a = some n ∧ a.length ≤ 640 ∧ Q (.int n) H) := by
  intro pins s σ H xs us Q I r h
  obtain ⟨a, n, rfl, hn, hl, q⟩ := h
  obtain ⟨u, rfl, ru⟩ := r.one
  obtain ⟨t, rfl⟩ := ru
  exact PySem.W.KIN.call_text hn hl ⟨.int n, H, I.tok _, ⟨_, rfl⟩, q⟩
end
def semSplit : SM := fun u us L => match u, us with
  | .str a, [.str b] => if (b.length == 0) = false ∧ a.length ≤ 1000000 then some (.ref L.length, L ++ [.lst ((Txt.split a b).map U.str)]) else none
  | _, _ => none
theorem strs_rep {K : PySem.W.Frag} {H : Hp} {α : List Addr} : ∀ l : List Str, RepL K H α (l.map U.str) (l.map V.str)
  | [] => .nil
  | a :: l => .cons (by unfold RepU; rfl) (strs_rep l)
theorem sem_split {K : PySem.W.Frag} : SemM K rSplit semSplit := by
  intro H α L u us x xs z L' Q A ru r e q
  unfold semSplit at e
  split at e
  · rename_i a b
    split at e
    · rename_i hc
      cases e
      unfold RepU at ru
      subst ru
      obtain ⟨v, rfl, rv⟩ := r.one
      unfold RepU at rv
      subst rv
      refine ⟨a, b, rfl, rfl, hc.1, by unfold sizeLine; omega, fun l hl => ?_⟩
      obtain ⟨g2, A2, r2⟩ := A.lst (strs_rep (K := K) (H := H) (α := α) (Txt.split a b)) hl
      exact q _ _ _ g2 A2 r2
    · cases e
  · cases e
def semStarts : SM := fun u us L => match u, us with
  | .str a, [.str b] => some (.bl (Txt.startswith a b), L)
  | _, _ => none
theorem sem_starts {K : PySem.W.Frag} : SemM K rStarts semStarts := by
  intro H α L u us x xs z L' Q A ru r e q
  unfold semStarts at e
  split at e
  · cases e
    unfold RepU at ru
    subst ru
    obtain ⟨v, rfl, rv⟩ := r.one
    unfold RepU at rv
    subst rv
    exact ⟨_, _, rfl, rfl, q _ H α (.refl _ _) A rfl⟩
  · cases e
def semIntT : SC := fun us L => match us with
  | [.str a] => if a.length ≤ 640 then (PySem.intText? a).map fun n => (.int n, L) else none
  | _ => none
theorem sem_intT {K : PySem.W.Frag} : SemC K (fun xs H Q => ∃ a n, xs = [.str a] ∧ PySem.intText? a = some n ∧ a.length ≤ 640 ∧ Q (.int n) H) semIntT := by
  intro H α L us xs z L' Q A r e q
  unfold semIntT at e
  split at e
  · split at e
    · rename_i hc
      obtain ⟨n, hn, e⟩ := Option.map_eq_some_iff.mp e
      cases e
      obtain ⟨x, rfl, rx⟩ := r.one
      unfold RepU at rx
      subst rx
      exact ⟨_, n, rfl, hn, hc, q _ H α (.refl _ _) A rfl⟩
    · cases e
  · cases e
end MR
namespace MR
open PySem PySem.Spec PyProof.Rows PySem.Calls L2
theorem pf_globS {X : Cx} {x : Str} {a : Str} {pos : Pos} (hg : Gl X x) (hm : ∃ t, X.mg x = some (.str a t)) (hd : (x == ("__debug__" : Str)) = false := by decide) : PEF X (.Name x pos) (fC (.str a)) :=
  let ⟨t, h⟩ := hm
  pf_c (pe_glob (v := .str a) hg h ⟨t, rfl⟩ hd) fun _ _ => by unfold RepU; rfl
theorem pf_globI {X : Cx} {x : Str} {i : Int} {pos : Pos} (hg : Gl X x) (hm : ∃ t, X.mg x = some (.int i t)) (hd : (x == ("__debug__" : Str)) = false := by decide) : PEF X (.Name x pos) (fC (.int i)) :=
  let ⟨t, h⟩ := hm
  pf_c (pe_glob (v := .int i) hg h ⟨t, rfl⟩ hd) fun _ _ => by unfold RepU; rfl
end MR

set_option Elab.async false
set_option linter.all false
set_option maxRecDepth 100000
set_option maxHeartbeats 4000000
namespace MR
open PySem PySem.Spec PyProof.Rows PySem.Calls L2
def fmtOk (n : Int) : Bool := decide (-100000000000000000000 ≤ n) && decide (n ≤ 100000000000000000000)
theorem fmt_log {n : Int} (h : fmtOk n = true) : n.natAbs.log2 < 1920 := by
  unfold fmtOk at h
  simp only [Bool.and_eq_true, decide_eq_true_eq] at h
  have h1 : n.natAbs ≤ 100000000000000000000 := by omega
  by_cases h0 : n.natAbs = 0
  · rw [h0]; decide
  · rw [Nat.log2_lt h0]
    refine Nat.lt_of_le_of_lt h1 ?_
    have : (100000000000000000000 : Nat) < 2 ^ 100 := by decide
    exact Nat.lt_of_lt_of_le this (Nat.pow_le_pow_right (by decide) (by decide))
def numT (n : Int) : Str := Str.ofString (toString n)
def tFmt (t : TE) : TE := fun σ H Q => t σ H fun v H1 => (∃ x, v = .str x ∧ x.length ≤ sizeLine ∧ Q (.str x) H1) ∨ ∃ n, v = .int n ∧ fmtOk n = true ∧ Q (.str (numT n)) H1
section
variable {X : Cx}
theorem pe_fmt {e : Expr} {t : TE} {pos : Pos} (h : PE X e t) : PE X (.FormattedValue e (-1) none pos) (tFmt t) := by
  intro pins s σ H Q I q
  refine FormattedValue_plain (thn (h pins s σ H _ I q) fun v s1 ⟨x, H1, I1, r1, q1⟩ => ?_)
  rcases q1 with ⟨a, rfl, hl, q⟩ | ⟨n, rfl, hn, q⟩
  · obtain ⟨t', rfl⟩ := r1
    exact formatField_str (fun t'' tk => ⟨.str a, H1, I1.tok tk, ⟨_, rfl⟩, q⟩) hl
  · obtain ⟨t', rfl⟩ := r1
    exact formatField_int_small (fmt_log hn) ⟨.str (numT n), H1, I1.tok _, ⟨_, rfl⟩, q⟩
def tJ : Str → List TE → L2.St → Hp → VK → Prop
  | out, [], _, H, Q => out.length ≤ sizeLine ∧ Q (.str out) H
  | out, t :: r, σ, H, Q => t σ H fun v H1 => ∃ x, v = .str x ∧ (out ++ x).length ≤ sizeLine ∧ tJ (out ++ x) r σ H1 Q
inductive PEs (X : Cx) : List Expr → List TE → Prop
  | nil : PEs X [] []
  | cons {e : Expr} {t : TE} {es : List Expr} {ts : List TE} (h : PE X e t) (r : PEs X es ts) : PEs X (e :: es) (t :: ts)
theorem join_walk {es : List Expr} {ts : List TE} (h : PEs X es ts) : ∀ (pins : List (Addr × Obj)) (s : Shared) (σ : L2.St) (H : Hp) (Q : VK) (out : Str), Inv X pins σ H s →
    tJ out ts σ H Q → wpAny (model X.prog X.w) X.A (joinParts out (evalEach es X.env)) (EP X pins σ Q) X.xe s := by
  induction h with
  | nil =>
    intro pins s σ H Q out I q
    obtain ⟨hl, q⟩ := q
    exact joinParts_nil ⟨.str out, H, I.tok _, ⟨_, rfl⟩, q⟩ hl
  | @cons e t es ts h r ih =>
    intro pins s σ H Q out I q
    show wpAny _ _ (joinParts out (eval e X.env :: evalEach es X.env)) _ _ _
    refine joinParts_cons (thn (h pins s σ H _ I q) fun v s1 ⟨x, H1, I1, r1, y, ey, hl, q1⟩ => ?_)
    subst ey
    obtain ⟨t', rfl⟩ := r1
    exact ⟨hl, ih pins s1 σ H1 Q (out ++ y) I1 q1⟩
theorem pe_joined {v1 v2 : Expr} {es : List Expr} {ts : List TE} {pos : Pos} (h : PEs X (v1 :: v2 :: es) ts) : PE X (.JoinedStr (v1 :: v2 :: es) pos) (tJ Str.empty ts) := fun pins s σ H Q I q =>
  JoinedStr_many (join_walk h pins s σ H Q Str.empty I q)
end
def fFmt (f : FE) : FE := fun δ L => (f δ L).bind fun p => match p.1 with
  | .str x => if small x.length = true then some (.str x, p.2) else none
  | .int n => if fmtOk n = true then some (.str (numT n), p.2) else none
  | _ => none
theorem pf_fmt {X : Cx} {e : Expr} {f : FE} {pos : Pos} (h : PEF X e f) : PEF X (.FormattedValue e (-1) none pos) (fFmt f) := by
  refine PE.imp (pe_fmt h) ?_
  rintro σ H Q ⟨α, δ, L, A, S, z, L3, e, q⟩
  obtain ⟨⟨u, L1⟩, e1, e⟩ := Option.bind_eq_some_iff.mp e
  refine ⟨α, δ, L, A, S, u, L1, e1, fun x H1 α1 g1 A1 r1 => ?_⟩
  simp only at e
  split at e
  · split at e
    · rename_i hc
      cases e
      unfold RepU at r1
      subst r1
      exact .inl ⟨_, rfl, small_le hc, q _ _ _ g1 A1 (by unfold RepU; rfl)⟩
    · cases e
  · split at e
    · rename_i hc
      cases e
      unfold RepU at r1
      subst r1
      exact .inr ⟨_, rfl, hc, q _ _ _ g1 A1 (by unfold RepU; rfl)⟩
    · cases e
  · cases e
def goJ : Str → List FE → UE → UH → Option (U × UH)
  | out, [], _, L => some (.str out, L)
  | out, f :: r, δ, L => (f δ L).bind fun p => match p.1 with
    | .str x => if small (out ++ x).length = true then goJ (out ++ x) r δ p.2 else none
    | _ => none
def fJoined (fs : List FE) : FE := fun δ L => goJ Str.empty fs δ L
inductive PFs (X : Cx) : List Expr → List FE → Prop
  | nil : PFs X [] []
  | cons {e : Expr} {f : FE} {es : List Expr} {fs : List FE} (h : PEF X e f) (r : PFs X es fs) : PFs X (e :: es) (f :: fs)
theorem PFs.pes {X : Cx} {es : List Expr} {fs : List FE} (h : PFs X es fs) : PEs X es (fs.map (lE X.K)) := by
  induction h with
  | nil => exact .nil
  | cons h r ih => exact .cons h ih
theorem goJ_ok {K : PySem.W.Frag} : ∀ (fs : List FE) (out : Str) (σ : L2.St) (H : Hp) (Q : VK) (α : List Addr) (δ : UE) (L : UH) (z : U) (L3 : UH), Abs K H α L → RepS K H α δ σ → goJ out fs δ L = some (z, L3) → out.length ≤ sizeLine →
    (∀ v H' α', Gr H α H' α' → Abs K H' α' L3 → RepU K H' α' z v → Q v H') → tJ out (fs.map (lE K)) σ H Q
  | [], out, σ, H, Q, α, δ, L, z, L3, A, S, e, hl, q => by
    cases e
    exact ⟨hl, q _ H α (.refl _ _) A (by unfold RepU; rfl)⟩
  | f :: r, out, σ, H, Q, α, δ, L, z, L3, A, S, e, hl, q => by
    unfold goJ at e
    obtain ⟨⟨u, L1⟩, e1, e⟩ := Option.bind_eq_some_iff.mp e
    refine ⟨α, δ, L, A, S, u, L1, e1, fun x H1 α1 g1 A1 r1 => ?_⟩
    simp only at e
    split at e
    · split at e
      · rename_i x' hc
        unfold RepU at r1
        subst r1
        exact ⟨x', rfl, small_le hc, goJ_ok r (out ++ x') σ H1 Q α1 δ L1 z L3 A1 (S.mono g1) e (small_le hc) fun v H' α' g A' r' => q v H' α' (g1.trans g) A' r'⟩
      · cases e
    · cases e
theorem pf_joined {X : Cx} {v1 v2 : Expr} {es : List Expr} {fs : List FE} {pos : Pos} (h : PFs X (v1 :: v2 :: es) fs) : PEF X (.JoinedStr (v1 :: v2 :: es) pos) (fJoined fs) := by
  refine PE.imp (pe_joined h.pes) ?_
  rintro σ H Q ⟨α, δ, L, A, S, z, L3, e, q⟩
  exact goJ_ok fs Str.empty σ H Q α δ L z L3 A S e (Nat.zero_le _) q
end MR

set_option Elab.async false
set_option linter.all false
set_option maxRecDepth 100000
set_option maxHeartbeats 1000000
namespace MR
open PySem L2
@[simp] theorem fVar_eq (i : Nat) (δ : UE) (L : UH) : fVar i δ L = (δ[i]?).join.map fun u => (u, L) := rfl
@[simp] theorem fC_eq (u : U) (δ : UE) (L : UH) : fC u δ L = some (u, L) := rfl
@[simp] theorem f2_eq (s : S2) (a b : FE) (δ : UE) (L : UH) : f2 s a b δ L = (a δ L).bind fun p => (b δ p.2).bind fun q => s p.1 q.1 q.2 := rfl
@[simp] theorem fTest_eq (f : FE) (δ : UE) (L : UH) : fTest f δ L = (f δ L).bind fun p => match p.1 with | .bl k => some (k, p.2) | _ => none := rfl
@[simp] theorem fAnd_eq (f g : FT) (δ : UE) (L : UH) : fAnd f g δ L = (f δ L).bind fun p => if p.1 = true then g δ p.2 else some (false, p.2) := rfl
@[simp] theorem fOr_eq (f g : FT) (δ : UE) (L : UH) : fOr f g δ L = (f δ L).bind fun p => if p.1 = true then some (true, p.2) else g δ p.2 := rfl
@[simp] theorem fNot_eq (f : FT) (δ : UE) (L : UH) : fNot f δ L = (f δ L).map fun p => (!p.1, p.2) := rfl
@[simp] theorem fAndV_eq (f g : FE) (δ : UE) (L : UH) : fAndV f g δ L = (f δ L).bind fun p => match p.1 with | .bl k => if k = true then g δ p.2 else some (.bl false, p.2) | _ => none := rfl
@[simp] theorem fOrV_eq (f g : FE) (δ : UE) (L : UH) : fOrV f g δ L = (f δ L).bind fun p => match p.1 with | .bl k => if k = true then some (.bl true, p.2) else g δ p.2 | _ => none := rfl
@[simp] theorem fNotV_eq (f : FE) (δ : UE) (L : UH) : fNotV f δ L = (f δ L).bind fun p => match p.1 with | .bl k => some (.bl (!k), p.2) | _ => none := rfl
@[simp] theorem fIf_eq (c : FT) (f g : FE) (δ : UE) (L : UH) : fIf c f g δ L = (c δ L).bind fun p => if p.1 = true then f δ p.2 else g δ p.2 := rfl
@[simp] theorem fNil_eq (δ : UE) (L : UH) : fNil δ L = some ([], L) := rfl
@[simp] theorem fCons_eq (f : FE) (g : FA) (δ : UE) (L : UH) : fCons f g δ L = (f δ L).bind fun p => (g δ p.2).map fun q => (p.1 :: q.1, q.2) := rfl
@[simp] theorem fTup_eq (g : FA) (δ : UE) (L : UH) : fTup g δ L = (g δ L).bind fun p => if small p.1.length = true then some (.tup p.1, p.2) else none := rfl
@[simp] theorem fLst_eq (g : FA) (δ : UE) (L : UH) : fLst g δ L = (g δ L).bind fun p => if small p.1.length = true then some (.ref p.2.length, p.2 ++ [.lst p.1]) else none := rfl
@[simp] theorem fCall_eq (s : SC) (g : FA) (δ : UE) (L : UH) : fCall s g δ L = (g δ L).bind fun p => s p.1 p.2 := rfl
@[simp] theorem fOwn_eq (n : Nat) (F : FN) (g : FA) (δ : UE) (L : UH) : fOwn n F g δ L = (g δ L).bind fun p => if p.1.length = n then F p.1 p.2 else none := rfl
@[simp] theorem fMeth_eq (T : String) (s : SM) (f : FE) (g : FA) (δ : UE) (L : UH) : fMeth T s f g δ L = (f δ L).bind fun p => if tyU T p.1 p.2 = true then (g δ p.2).bind fun q => s p.1 q.1 q.2 else none := rfl
@[simp] theorem fPart_eq (f : FE) (δ : UE) (L : UH) : fPart f δ L = (f δ L).bind fun p => match p.1 with | .int i => some (some i, p.2) | _ => none := rfl
@[simp] theorem fNoPart_eq (δ : UE) (L : UH) : fNoPart δ L = some (none, L) := rfl
@[simp] theorem fSl_eq (s : SS) (f : FE) (l h : FO) (δ : UE) (L : UH) : fSl s f l h δ L = (f δ L).bind fun p => (l δ p.2).bind fun q => (h δ q.2).bind fun r => s p.1 q.1 r.1 r.2 := rfl
@[simp] theorem fNeg_eq (f : FE) (δ : UE) (L : UH) : fNeg f δ L = (f δ L).bind fun p => match p.1 with | .int i => some (.int (-i), p.2) | _ => none := rfl
@[simp] theorem fTru_eq (f : FE) (δ : UE) (L : UH) : fTru f δ L = (f δ L).bind fun p => (truU p.1 p.2).map fun k => (k, p.2) := rfl
@[simp] theorem fIsi_eq (c : String) (f : FE) (δ : UE) (L : UH) : fIsi c f δ L = (f δ L).bind fun p => (tyName p.1 p.2).map fun t => (.bl (isT t c), p.2) := rfl
@[simp] theorem fNext_eq (δ : UE) (L : UH) : fNext δ L = some (.nx δ, L) := rfl
@[simp] theorem fSeq_eq (f g : FS) (δ : UE) (L : UH) : fSeq f g δ L = (f δ L).bind fun p => match p.1 with | .nx δ' => g δ' p.2 | fl => some (fl, p.2) := rfl
@[simp] theorem fRet_eq (f : FE) (δ : UE) (L : UH) : fRet f δ L = (f δ L).map fun p => (.rt p.1, p.2) := rfl
@[simp] theorem fDrop_eq (f : FE) (δ : UE) (L : UH) : fDrop f δ L = (f δ L).map fun p => (.nx δ, p.2) := rfl
@[simp] theorem fRetN_eq (δ : UE) (L : UH) : fRetN δ L = some (.rt .non, L) := rfl
@[simp] theorem fIfS_eq (c : FT) (f g : FS) (δ : UE) (L : UH) : fIfS c f g δ L = (c δ L).bind fun p => if p.1 = true then f δ p.2 else g δ p.2 := rfl
@[simp] theorem gN_eq (i : Nat) (u : U) (δ : UE) (L : UH) : gN i u δ L = some (δ.set i (some u), L) := rfl
@[simp] theorem gNil_eq (δ : UE) (L : UH) : MR.gNil [] δ L = some (δ, L) := rfl
@[simp] theorem gCons_eq (f : FG) (g : FGs) (u : U) (r : List U) (δ : UE) (L : UH) : MR.gCons f g (u :: r) δ L = (f u δ L).bind fun p => g r p.1 p.2 := rfl
@[simp] theorem gTup_eq (n : Nat) (g : FGs) (us : List U) (δ : UE) (L : UH) : MR.gTup n g (.tup us) δ L = if us.length = n then g us δ L else none := rfl
@[simp] theorem gSub_eq (a b : FE) (v : U) (δ : UE) (L : UH) : MR.gSub a b v δ L = (a δ L).bind fun p => (b δ p.2).bind fun q => match p.1, q.1 with
  | .ref n, .int k => (lstAt q.2 n).bind fun l => (ixN l.length k).map fun j => (δ, q.2.set n (.lst (l.set j v)))
  | _, _ => none := rfl
@[simp] theorem fAsg_eq (f : FE) (g : FG) (δ : UE) (L : UH) : fAsg f g δ L = (f δ L).bind fun p => (g p.1 δ p.2).map fun q => (.nx q.1, q.2) := rfl
@[simp] theorem fFor_eq (fi : FI) (g : FG) (b : FS) (δ : UE) (L : UH) : fFor fi g b δ L = (fi δ L).bind fun p => loopU p.1 g b (p.1.size p.2 + 1) 0 δ p.2 := rfl
@[simp] theorem fSeqI_eq (f : FE) (δ : UE) (L : UH) : fSeqI f δ L = (f δ L).bind fun p => (iSeqU p.1 p.2).map fun i => (i, p.2) := rfl
@[simp] theorem fRng1_eq (g : FA) (δ : UE) (L : UH) : fRng1 g δ L = (g δ L).bind fun p => match p.1 with
  | [.int j] => if -(2 ^ 62) ≤ j ∧ j < 2 ^ 62 then some (.seq (rangeU 0 j.toNat), p.2) else none
  | _ => none := rfl
@[simp] theorem semAdd_int (i j : Int) (L : UH) : semAdd (.int i) (.int j) L = some (.int (i + j), L) := rfl
@[simp] theorem semSub_int (i j : Int) (L : UH) : semSub (.int i) (.int j) L = some (.int (i - j), L) := rfl
@[simp] theorem semMul_int (i j : Int) (L : UH) : semMul (.int i) (.int j) L = if mulOk i j = true then some (.int (i * j), L) else none := rfl
@[simp] theorem semDiv_int (i j : Int) (L : UH) : semDiv (.int i) (.int j) L = if divOk i j = true then some (.int (i / j), L) else none := rfl
@[simp] theorem semMod_int (i j : Int) (L : UH) : semMod (.int i) (.int j) L = if decide (0 < j) = true then some (.int (i % j), L) else none := rfl
@[simp] theorem semPow_int (i j : Int) (L : UH) : semPow (.int i) (.int j) L = if powOk i j = true then some (.int (i ^ j.toNat), L) else none := rfl
@[simp] theorem semLe_int (i j : Int) (L : UH) : semLe (.int i) (.int j) L = some (.bl (decide (i ≤ j)), L) := rfl
@[simp] theorem semLt_int (i j : Int) (L : UH) : semLt (.int i) (.int j) L = some (.bl (decide (i < j)), L) := rfl
@[simp] theorem semGt_int (i j : Int) (L : UH) : semGt (.int i) (.int j) L = some (.bl (decide (j < i)), L) := rfl
@[simp] theorem semGe_int (i j : Int) (L : UH) : semGe (.int i) (.int j) L = some (.bl (decide (j ≤ i)), L) := rfl
@[simp] theorem semEq_int (i j : Int) (L : UH) : semEq (.int i) (.int j) L = some (.bl (i == j), L) := rfl
@[simp] theorem semNe_int (i j : Int) (L : UH) : semNe (.int i) (.int j) L = some (.bl (!(i == j)), L) := rfl
@[simp] theorem semEq_bl (i j : Bool) (L : UH) : semEq (.bl i) (.bl j) L = some (.bl (i == j), L) := rfl
@[simp] theorem semNe_bl (i j : Bool) (L : UH) : semNe (.bl i) (.bl j) L = some (.bl (!(i == j)), L) := rfl
@[simp] theorem semIs_bl (i j : Bool) (L : UH) : semIs false (.bl i) (.bl j) L = some (.bl (i == j), L) := rfl
@[simp] theorem semIx_tup (l : List U) (i : Int) (L : UH) : semIx (.tup l) (.int i) L = (L2.atI l i).map fun z => (z, L) := rfl
@[simp] theorem semIx_ref (n : Nat) (i : Int) (L : UH) : semIx (.ref n) (.int i) L = (seqAt L n).bind fun l => (L2.atI l i).map fun z => (z, L) := rfl
@[simp] theorem truU_bl (b : Bool) (L : UH) : truU (.bl b) L = some b := rfl
theorem seqAt_lst {L : UH} {n : Nat} {us : List U} (h : L[n]? = some (.lst us)) : seqAt L n = some us := by unfold seqAt; rw [h]
theorem lstAt_lst {L : UH} {n : Nat} {us : List U} (h : L[n]? = some (.lst us)) : lstAt L n = some us := by unfold lstAt; rw [h]
theorem small_of {n : Nat} (h : n ≤ 16777216) : small n = true := by unfold small sizeLine; exact decide_eq_true (by omega)
theorem atI_of {β : Type} {l : List β} {i : Int} (h0 : 0 ≤ i) (h : i < l.length) : L2.atI l i = l[i.toNat]? := by
  unfold L2.atI ixN
  rw [if_pos h0, if_pos h]; rfl
theorem ixN_of {n : Nat} {i : Int} (h0 : 0 ≤ i) (h : i < n) : ixN n i = some i.toNat := by
  unfold ixN
  rw [if_pos h0, if_pos h]
theorem mulOk_l {i j : Int} (h1 : -1000000000000000000 ≤ i) (h2 : i ≤ 1000000000000000000) : mulOk i j = true := by
  unfold mulOk; simp only [Bool.or_eq_true, Bool.and_eq_true, decide_eq_true_eq]; left; constructor <;> omega
theorem mulOk_r {i j : Int} (h1 : -1000000000000000000 ≤ j) (h2 : j ≤ 1000000000000000000) : mulOk i j = true := by
  unfold mulOk; simp only [Bool.or_eq_true, Bool.and_eq_true, decide_eq_true_eq]; right; constructor <;> omega
theorem divOk_of {i j : Int} (h1 : 0 < j) (h2 : j < 1152921504606846976) : divOk i j = true := by
  unfold divOk; simp only [Bool.and_eq_true, decide_eq_true_eq]; exact ⟨h1, h2⟩
end MR

set_option Elab.async false
set_option linter.all false
set_option maxRecDepth 100000
set_option maxHeartbeats 1000000
namespace MR
open PySem L2
/-- one turn goes on -/
def GoesOn (g : FG) (body : FS) (u : U) (δ : UE) (L : UH) (R : UE → UH → Prop) : Prop := ∃ δ1 L1, g u δ L = some (δ1, L1) ∧ ∃ δ2 L2, (body δ1 L1 = some (.nx δ2, L2) ∨ body δ1 L1 = some (.ct δ2, L2)) ∧ R δ2 L2
theorem loop_any {it : IU} {g : FG} {body : FS} {us : List U} (P : Nat → UE → UH → Prop) (hat : ∀ k δ L, k ≤ us.length → P k δ L → it.at k L = some us[k]?)
    (step : ∀ k u δ L, us[k]? = some u → P k δ L → GoesOn g body u δ L (P (k + 1))) :
    ∀ (m k : Nat) (δ : UE) (L : UH), us.length < m + k → k ≤ us.length → P k δ L → ∃ δ' L', loopU it g body m k δ L = some (.nx δ', L') ∧ P us.length δ' L'
  | 0, k, δ, L, h1, h2, _ => by omega
  | m + 1, k, δ, L, h1, h2, hP => by
    have hk := hat k δ L h2 hP
    unfold loopU
    rw [hk]
    cases hu : us[k]? with
    | none =>
      have : k = us.length := by have := List.getElem?_eq_none_iff.mp hu; omega
      subst this
      exact ⟨δ, L, rfl, hP⟩
    | some u =>
      have hlt : k < us.length := (List.getElem?_eq_some_iff.mp hu).1
      obtain ⟨δ1, L1, e1, δ2, L2, e2, hP2⟩ := step k u δ L hu hP
      obtain ⟨δ', L', e3, hP3⟩ := loop_any P hat step m (k + 1) δ2 L2 (by omega) (by omega) hP2
      refine ⟨δ', L', ?_, hP3⟩
      rcases e2 with e2 | e2
      · simp only [e1, Option.bind_some, e2, e3]
      · simp only [e1, Option.bind_some, e2, e3]
theorem for_seq {fi : FI} {g : FG} {body : FS} {us : List U} {δ : UE} {L L0 : UH} (P : Nat → UE → UH → Prop) (hi : fi δ L = some (.seq us, L0)) (h0 : P 0 δ L0) (step : ∀ k u δ L, us[k]? = some u → P k δ L → GoesOn g body u δ L (P (k + 1))) :
    ∃ δ' L', fFor fi g body δ L = some (.nx δ', L') ∧ P us.length δ' L' := by
  obtain ⟨δ', L', e, h⟩ := loop_any (it := .seq us) (g := g) (body := body) (us := us) P (fun _ _ _ _ _ => rfl) step (us.length + 1) 0 δ L0 (by omega) (by omega) h0
  exact ⟨δ', L', by rw [fFor_eq, hi]; exact e, h⟩
theorem for_ref {fi : FI} {g : FG} {body : FS} {us : List U} {n : Nat} {δ : UE} {L L0 : UH} (P : Nat → UE → UH → Prop) (hi : fi δ L = some (.ref n, L0)) (h0 : P 0 δ L0) (hl : ∀ k δ L, P k δ L → seqAt L n = some us) (step : ∀ k u δ L, us[k]? = some u → P k δ L → GoesOn g body u δ L (P (k + 1))) :
    ∃ δ' L', fFor fi g body δ L = some (.nx δ', L') ∧ P us.length δ' L' := by
  have hat : ∀ k δ L, k ≤ us.length → P k δ L → (IU.ref n).at k L = some us[k]? := fun k δ L _ hp => by
    have := hl k δ L hp
    unfold seqAt at this
    unfold IU.at
    simp only
    split at this
    · rename_i e; cases this; first | rw [e] | rfl
    · rename_i e; cases this; first | rw [e] | rfl
    · cases this
  have hsz : (IU.ref n).size L0 = us.length := by
    have := hl 0 δ L0 h0
    unfold seqAt at this
    unfold IU.size
    simp only
    split at this
    · rename_i e; cases this; first | rw [e] | rfl
    · rename_i e; cases this; first | rw [e] | rfl
    · cases this
  obtain ⟨δ', L', e, h⟩ := loop_any (it := .ref n) (g := g) (body := body) (us := us) P hat step (us.length + 1) 0 δ L0 (by omega) (by omega) h0
  exact ⟨δ', L', by rw [fFor_eq, hi]; simp only [Option.bind_some, hsz]; exact e, h⟩
theorem iSeqU_ref {L : UH} {n : Nat} {us : List U} (h : seqAt L n = some us) : iSeqU (.ref n) L = some (.ref n) := by
  unfold seqAt at h
  unfold iSeqU
  simp only
  split at h
  · rename_i e; first | rw [e] | rfl
  · rename_i e; first | rw [e] | rfl
  · cases h
theorem rangeU_get {lo : Int} {n k : Nat} {u : U} (h : (rangeU lo n)[k]? = some u) : k < n ∧ u = .int (lo + k) := by
  unfold rangeU at h
  rw [List.getElem?_map] at h
  by_cases hk : k < n
  · rw [List.getElem?_range hk] at h
    simp at h
    exact ⟨hk, h.symm⟩
  · rw [List.getElem?_eq_none (by simpa using hk)] at h
    simp at h
theorem rangeU_len {lo : Int} {n : Nat} : (rangeU lo n).length = n := by simp [rangeU]
end MR

set_option Elab.async false
set_option linter.all false
set_option maxRecDepth 100000
set_option maxHeartbeats 1000000
namespace MR
open PySem L2
@[simp] theorem fEnum_eq (g : FA) (δ : UE) (L : UH) : fEnum g δ L = (g δ L).bind fun p => match p.1 with
  | [.ref n] => (seqAt p.2 n).map fun _ => (.enm n, p.2)
  | _ => none := rfl
@[simp] theorem fZip_eq (g : FA) (δ : UE) (L : UH) : fZip g δ L = (g δ L).bind fun p => match p.1 with
  | [.ref n, .ref m] => (seqAt p.2 n).bind fun _ => (seqAt p.2 m).map fun _ => (.zip2 n m, p.2)
  | _ => none := rfl
@[simp] theorem fRev_eq (f : FE) (δ : UE) (L : UH) : fRev f δ L = (f δ L).bind fun p => match p.1 with | .ref n => (seqAt p.2 n).map fun l => (.ref p.2.length, p.2 ++ [.lst l.reverse]) | .tup l => some (.tup l.reverse, p.2) | _ => none := rfl
@[simp] theorem fRng2_eq (g : FA) (δ : UE) (L : UH) : fRng2 g δ L = (g δ L).bind fun p => match p.1 with
  | [.int i, .int j] => if (-(2 ^ 62) ≤ i ∧ i < 2 ^ 62) ∧ (-(2 ^ 62) ≤ j ∧ j < 2 ^ 62) then some (.seq (rangeU i (j - i).toNat), p.2) else none
  | _ => none := by first | rfl | (unfold fRng2; rfl)
theorem comp_any {it : IU} {g : FG} {tt : Option FT} {fe : FE} {us : List U} (P : Nat → List U → UE → UH → Prop) (hat : ∀ k acc δ L, k ≤ us.length → P k acc δ L → it.at k L = some us[k]?)
    (step : ∀ k u acc δ L, us[k]? = some u → P k acc δ L → ∃ δ1 L1, g u δ L = some (δ1, L1) ∧ ∃ b L2, testU tt δ1 L1 = some (b, L2) ∧ (b = true → ∃ r L3, fe δ1 L2 = some (r, L3) ∧ acc.length < 16777216 ∧ P (k + 1) (acc ++ [r]) δ1 L3) ∧ (b = false → P (k + 1) acc δ1 L2)) :
    ∀ (m k : Nat) (acc : List U) (δ : UE) (L : UH), us.length < m + k → k ≤ us.length → P k acc δ L → ∃ ys δ' L', compU it g tt fe m k acc δ L = some (ys, L') ∧ P us.length ys δ' L'
  | 0, k, acc, δ, L, h1, h2, _ => by omega
  | m + 1, k, acc, δ, L, h1, h2, hP => by
    have hk := hat k acc δ L h2 hP
    unfold compU
    rw [hk]
    cases hu : us[k]? with
    | none =>
      have : k = us.length := by have := List.getElem?_eq_none_iff.mp hu; omega
      subst this
      exact ⟨acc, δ, L, rfl, hP⟩
    | some u =>
      have hlt : k < us.length := (List.getElem?_eq_some_iff.mp hu).1
      obtain ⟨δ1, L1, e1, b, L2, e2, h3, h4⟩ := step k u acc δ L hu hP
      cases b with
      | true =>
        obtain ⟨r, L3, e3, hl, hP2⟩ := h3 rfl
        obtain ⟨ys, δ', L', e4, hP3⟩ := comp_any P hat step m (k + 1) (acc ++ [r]) δ1 L3 (by omega) (by omega) hP2
        refine ⟨ys, δ', L', ?_, hP3⟩
        have hz : decide (acc.length < sizeLine) = true := decide_eq_true (by unfold sizeLine; omega)
        simp only [e1, Option.bind_some, e2, e3, if_true, hz, e4]
      | false =>
        obtain ⟨ys, δ', L', e4, hP3⟩ := comp_any P hat step m (k + 1) acc δ1 L2 (by omega) (by omega) (h4 rfl)
        refine ⟨ys, δ', L', ?_, hP3⟩
        simp only [e1, Option.bind_some, e2, e4, Bool.false_eq_true, if_false]
theorem fcomp {ix : List (Option Nat)} {fi : FI} {it : IU} {g : FG} {tt : Option FT} {fe : FE} {us : List U} {δ : UE} {L L0 : UH} (P : Nat → List U → UE → UH → Prop) (hi : fi δ L = some (it, L0)) (hsz : us.length ≤ it.size L0) (h0 : P 0 [] (innerU ix δ) L0)
    (hat : ∀ k acc δ L, k ≤ us.length → P k acc δ L → it.at k L = some us[k]?)
    (step : ∀ k u acc δ L, us[k]? = some u → P k acc δ L → ∃ δ1 L1, g u δ L = some (δ1, L1) ∧ ∃ b L2, testU tt δ1 L1 = some (b, L2) ∧ (b = true → ∃ r L3, fe δ1 L2 = some (r, L3) ∧ acc.length < 16777216 ∧ P (k + 1) (acc ++ [r]) δ1 L3) ∧ (b = false → P (k + 1) acc δ1 L2)) :
    ∃ ys δ' L', fComp ix fi g tt fe δ L = some (.ref L'.length, L' ++ [.lst ys]) ∧ P us.length ys δ' L' := by
  obtain ⟨ys, δ', L', e, h⟩ := comp_any P hat step (it.size L0 + 1) 0 [] (innerU ix δ) L0 (by omega) (by omega) h0
  refine ⟨ys, δ', L', ?_, h⟩
  unfold fComp
  simp only [hi, Option.bind_some, e, Option.map_some]
def enU (us : List U) : List U := us.mapIdx fun k u => .tup [.int k, u]
theorem at_enm {n k : Nat} {L : UH} {us : List U} (h : seqAt L n = some us) : (IU.enm n).at k L = some (enU us)[k]? := by
  show (seqAt L n).map _ = _
  rw [h]
  simp [enU]
theorem size_enm {n : Nat} {L : UH} {us : List U} (h : seqAt L n = some us) : (IU.enm n).size L = (enU us).length := by
  show (match seqAt L n with | some us => us.length | none => 0) = _
  rw [h]; simp [enU]
def zipU (us ws : List U) : List U := (us.zip ws).map fun p => .tup [p.1, p.2]
theorem at_zip {n m k : Nat} {L : UH} {us ws : List U} (h : seqAt L n = some us) (h2 : seqAt L m = some ws) : (IU.zip2 n m).at k L = some (zipU us ws)[k]? := by
  show (seqAt L n).bind _ = _
  rw [h]
  show (seqAt L m).map _ = _
  rw [h2]
  simp only [Option.map_some, zipU, List.getElem?_map, List.getElem?_zip_eq_some]
  congr 1
  rw [List.zip, List.getElem?_zipWith]
  cases us[k]? <;> cases ws[k]? <;> rfl
theorem size_zip {n m : Nat} {L : UH} {us ws : List U} (h : seqAt L n = some us) (h2 : seqAt L m = some ws) : (IU.zip2 n m).size L = (zipU us ws).length := by
  show (match seqAt L n, seqAt L m with | some us, some ws => min us.length ws.length | _, _ => 0) = _
  rw [h, h2]; simp [zipU]
/-- a comprehension whose test and element only lay new things -/
theorem comp_grow {β : Type} {ix : List (Option Nat)} {fi : FI} {it : IU} {g : FG} {tt : Option FT} {fe : FE} {δ : UE} {L L0 : UH} (as : List β) (rep : β → U) (f : β → Bool) (e : β → U) (E : UE → Prop) (hi : fi δ L = some (it, L0)) (hsz : as.length ≤ it.size L0) (hl : as.length < 16777216) (h0 : E (innerU ix δ))
    (hat : ∀ k x, it.at k (L0 ++ x) = some (as.map rep)[k]?)
    (step : ∀ (a : β) δ x, a ∈ as → E δ → ∃ δ1, g (rep a) δ (L0 ++ x) = some (δ1, L0 ++ x) ∧ E δ1 ∧ ∃ y, testU tt δ1 (L0 ++ x) = some (f a, L0 ++ x ++ y) ∧ (f a = true → ∃ z, fe δ1 (L0 ++ x ++ y) = some (e a, L0 ++ x ++ y ++ z))) :
    ∃ x, fComp ix fi g tt fe δ L = some (.ref (L0 ++ x).length, L0 ++ x ++ [.lst ((as.filter f).map e)]) := by
  obtain ⟨ys, δ', L', e1, ⟨h1, h2, x, rfl⟩, h3⟩ := fcomp (us := as.map rep) (ix := ix) (tt := tt) (g := g) (fe := fe) (δ := δ) (fun k acc δ L => (acc = ((as.take k).filter f).map e ∧ E δ ∧ ∃ x, L = L0 ++ x) ∧ acc.length ≤ k) hi (by simpa using hsz) ⟨⟨rfl, h0, [], by simp⟩, by simp⟩
    (fun k acc δ L _ ⟨⟨_, _, x, hx⟩, _⟩ => by rw [hx]; exact hat k x)
    (fun k u acc δ L hu ⟨⟨ha, hE, x, hx⟩, hlen⟩ => by
      subst hx
      rw [List.getElem?_map] at hu
      obtain ⟨a, hk, rfl⟩ := Option.map_eq_some_iff.mp hu
      have hk' := (List.getElem?_eq_some_iff.mp hk).1
      obtain ⟨δ1, g1, E1, y, t1, r1⟩ := step a δ x (List.mem_of_getElem? hk) hE
      have ht : as.take (k + 1) = as.take k ++ [a] := by
        rw [List.take_add_one, hk]; rfl
      refine ⟨δ1, _, g1, f a, _, t1, fun hf => ?_, fun hf => ?_⟩
      · obtain ⟨z, q⟩ := r1 hf
        refine ⟨_, _, q, by omega, ⟨?_, E1, x ++ y ++ z, by simp⟩, by simp; omega⟩
        rw [ha, ht]; simp [hf]
      · refine ⟨⟨?_, E1, x ++ y, by simp⟩, by omega⟩
        rw [ha, ht]; simp [hf])
  refine ⟨x, ?_⟩
  rw [e1, h1]
  simp
theorem seqAt_app {L x : UH} {n : Nat} {us : List U} (h : seqAt L n = some us) : seqAt (L ++ x) n = some us := by
  unfold seqAt at h ⊢
  cases hn : L[n]? with
  | none => rw [hn] at h; cases h
  | some o => rw [List.getElem?_append_left (List.getElem?_eq_some_iff.mp hn).1, hn]; rw [hn] at h; exact h
end MR

set_option Elab.async false
set_option linter.all false
set_option maxRecDepth 100000
set_option maxHeartbeats 1000000
namespace MR
open PySem L2
def Pl : Nat → U → Prop
  | _, .non => True
  | _, .int _ => True
  | _, .str x => PyData.strOk x = true
  | n + 1, .tup l => ∀ u ∈ l, Pl n u
  | _, _ => False
mutual
def pd : U → PyData
  | .non => .none
  | .bl b => .bool b
  | .int i => .int i
  | .str x => .str x
  | .tup l => .tuple (pds l)
  | .ref _ => .none
def pds : List U → List PyData
  | [] => []
  | u :: r => pd u :: pds r
end
theorem pl_tup {n : Nat} {l : List U} : Pl (n + 1) (.tup l) ↔ ∀ u ∈ l, Pl n u := by rw [Pl]
theorem toP_pls {L : UH} {n m : Nat} (ih : ∀ u, Pl n u → toP L m u = some (pd u)) : ∀ l : List U, (∀ u ∈ l, Pl n u) → mapO (toP L m) l = some (pds l)
  | [], _ => rfl
  | u :: r, h => by
    simp only [mapO, ih u (h u (List.mem_cons_self ..)), toP_pls ih r (fun x hx => h x (List.mem_cons_of_mem _ hx)), Option.bind_some, Option.map_some, pds]
theorem toP_pl (L : UH) : ∀ (n m : Nat) (u : U), n < m → Pl n u → toP L m u = some (pd u)
  | n, 0, u, h, _ => by omega
  | n, m + 1, .non, _, _ => rfl
  | n, m + 1, .int _, _, _ => rfl
  | n, m + 1, .str _, _, _ => rfl
  | n, m + 1, .bl _, _, h => by cases n <;> exact absurd h (by simp [Pl])
  | n, m + 1, .ref _, _, h => by cases n <;> exact absurd h (by simp [Pl])
  | 0, m + 1, .tup l, _, h => absurd h (by simp [Pl])
  | n + 1, m + 1, .tup l, hm, h => by
    have := toP_pls (L := L) (n := n) (m := m) (fun u hu => toP_pl L n m u (by omega) hu) l (pl_tup.mp h)
    show (mapO (toP L m) l).map PyData.tuple = _
    rw [this]
    rfl
theorem pds_lay {n : Nat} (ih : ∀ u, Pl n u → PyData.canLay0 (pd u) = true ∧ PyData.depth (pd u) ≤ n) : ∀ l : List U, (∀ u ∈ l, Pl n u) → PyData.canLayAll0 (pds l) = true ∧ PyData.depthAll (pds l) ≤ n
  | [], _ => ⟨rfl, Nat.zero_le _⟩
  | u :: r, h => by
    obtain ⟨a1, a2⟩ := ih u (h u (List.mem_cons_self ..))
    obtain ⟨b1, b2⟩ := pds_lay ih r (fun x hx => h x (List.mem_cons_of_mem _ hx))
    refine ⟨by simp [pds, PyData.canLayAll0, a1, b1], ?_⟩
    simp only [pds, PyData.depthAll]
    omega
theorem pd_lay : ∀ (n : Nat) (u : U), Pl n u → PyData.canLay0 (pd u) = true ∧ PyData.depth (pd u) ≤ n
  | n, .non, _ => by simp [pd, PyData.canLay0, PyData.depth]
  | n, .int _, _ => by simp [pd, PyData.canLay0, PyData.depth]
  | n, .str x, h => by
    have h' : PyData.strOk x = true := by cases n <;> simpa [Pl] using h
    simp [pd, PyData.canLay0, PyData.depth, h']
  | n, .bl _, h => by cases n <;> exact absurd h (by simp [Pl])
  | n, .ref _, h => by cases n <;> exact absurd h (by simp [Pl])
  | 0, .tup l, h => absurd h (by simp [Pl])
  | n + 1, .tup l, h => by
    obtain ⟨a, b⟩ := pds_lay (fun u hu => pd_lay n u hu) l (pl_tup.mp h)
    simp only [pd, PyData.canLay0, PyData.depth]
    exact ⟨a, by omega⟩
theorem eqvAll_iff {n : Nat} (ih : ∀ u w, Pl n u → Pl n w → (PyData.eqv (pd u) (pd w) = true ↔ u = w)) : ∀ l m : List U, (∀ u ∈ l, Pl n u) → (∀ u ∈ m, Pl n u) → (PyData.eqvAll (pds l) (pds m) = true ↔ l = m)
  | [], [], _, _ => by simp [pds, PyData.eqvAll]
  | [], _ :: _, _, _ => by simp [pds, PyData.eqvAll]
  | _ :: _, [], _, _ => by simp [pds, PyData.eqvAll]
  | u :: l, w :: m, h1, h2 => by
    simp only [pds, PyData.eqvAll, Bool.and_eq_true, ih u w (h1 u (List.mem_cons_self ..)) (h2 w (List.mem_cons_self ..)), eqvAll_iff ih l m (fun x hx => h1 x (List.mem_cons_of_mem _ hx)) (fun x hx => h2 x (List.mem_cons_of_mem _ hx)), List.cons.injEq]
theorem eqv_iff : ∀ (n : Nat) (u w : U), Pl n u → Pl n w → (PyData.eqv (pd u) (pd w) = true ↔ u = w)
  | n, .bl _, _, h, _ => by cases n <;> exact absurd h (by simp [Pl])
  | n, .ref _, _, h, _ => by cases n <;> exact absurd h (by simp [Pl])
  | n, _, .bl _, _, h => by cases n <;> exact absurd h (by simp [Pl])
  | n, _, .ref _, _, h => by cases n <;> exact absurd h (by simp [Pl])
  | 0, .tup _, _, h, _ => absurd h (by simp [Pl])
  | 0, _, .tup _, _, h => absurd h (by simp [Pl])
  | n + 1, .tup l, .tup m, h1, h2 => by
    simp only [pd, PyData.eqv, U.tup.injEq]
    exact eqvAll_iff (fun u w => eqv_iff n u w) l m (pl_tup.mp h1) (pl_tup.mp h2)
  | n, .non, .non, _, _ => by simp [pd, PyData.eqv]
  | n, .non, .int _, _, _ => by simp [pd, PyData.eqv]
  | n, .non, .str _, _, _ => by simp [pd, PyData.eqv]
  | n + 1, .non, .tup _, _, _ => by simp [pd, PyData.eqv]
  | n, .int _, .non, _, _ => by simp [pd, PyData.eqv]
  | n, .int _, .int _, _, _ => by simp [pd, PyData.eqv]
  | n, .int _, .str _, _, _ => by simp [pd, PyData.eqv]
  | n + 1, .int _, .tup _, _, _ => by simp [pd, PyData.eqv]
  | n, .str _, .non, _, _ => by simp [pd, PyData.eqv]
  | n, .str _, .int _, _, _ => by simp [pd, PyData.eqv]
  | n, .str _, .str _, _, _ => by simp [pd, PyData.eqv]
  | n + 1, .str _, .tup _, _, _ => by simp [pd, PyData.eqv]
  | n + 1, .tup _, .non, _, _ => by simp [pd, PyData.eqv]
  | n + 1, .tup _, .int _, _, _ => by simp [pd, PyData.eqv]
  | n + 1, .tup _, .str _, _, _ => by simp [pd, PyData.eqv]
def eqB (u w : U) : Bool := PyData.eqv (pd u) (pd w)
theorem eqB_iff {u w : U} (h1 : Pl 6 u) (h2 : Pl 6 w) : eqB u w = true ↔ u = w := eqv_iff 6 u w h1 h2
theorem eqP_pl {u w : U} (L : UH) (h1 : Pl 6 u) (h2 : Pl 6 w) : eqP u w L = some (eqB u w) := by
  obtain ⟨a1, a2⟩ := pd_lay 6 u h1
  obtain ⟨b1, b2⟩ := pd_lay 6 w h2
  have s1 : SeqAt.shaped (pd u) = true := by unfold SeqAt.shaped; rw [a1]; simp; omega
  have s2 : SeqAt.shaped (pd w) = true := by unfold SeqAt.shaped; rw [b1]; simp; omega
  unfold eqP
  simp only [toP_pl L 6 8 u (by decide) h1, toP_pl L 6 8 w (by decide) h2, Option.bind_some, s1, s2, and_self, if_true, eqB]
theorem semEq_pl {u w : U} (L : UH) (h1 : Pl 6 u) (h2 : Pl 6 w) : semEq u w L = some (.bl (eqB u w), L) := by unfold semEq; rw [eqP_pl L h1 h2]; rfl
theorem semNe_pl {u w : U} (L : UH) (h1 : Pl 6 u) (h2 : Pl 6 w) : semNe u w L = some (.bl (!eqB u w), L) := by unfold semNe; rw [eqP_pl L h1 h2]; rfl
def eqBs (us ws : List U) : Bool := PyData.eqvAll (pds us) (pds ws)
theorem eqP_lst {n m : Nat} {us ws : List U} {L : UH} (e1 : seqAt L n = some us) (e2 : seqAt L m = some ws) (h1 : ∀ u ∈ us, Pl 6 u) (h2 : ∀ u ∈ ws, Pl 6 u) : eqP (.ref n) (.ref m) L = some (eqBs us ws) := by
  obtain ⟨a1, a2⟩ := pds_lay (pd_lay 6) us h1
  obtain ⟨b1, b2⟩ := pds_lay (pd_lay 6) ws h2
  have s1 : SeqAt.shaped (.list (pds us)) = true := by unfold SeqAt.shaped; simp [PyData.canLay0, PyData.depth, a1]; omega
  have s2 : SeqAt.shaped (.list (pds ws)) = true := by unfold SeqAt.shaped; simp [PyData.canLay0, PyData.depth, b1]; omega
  have t1 : toP L 8 (.ref n) = some (.list (pds us)) := by
    show (seqAt L n).bind (fun l => (mapO (toP L 7) l).map PyData.list) = _
    rw [e1]
    simp only [Option.bind_some, toP_pls (fun u hu => toP_pl L 6 7 u (by decide) hu) us h1, Option.map_some]
  have t2 : toP L 8 (.ref m) = some (.list (pds ws)) := by
    show (seqAt L m).bind (fun l => (mapO (toP L 7) l).map PyData.list) = _
    rw [e2]
    simp only [Option.bind_some, toP_pls (fun u hu => toP_pl L 6 7 u (by decide) hu) ws h2, Option.map_some]
  unfold eqP
  simp only [t1, t2, Option.bind_some, s1, s2, and_self, if_true, PyData.eqv, eqBs]
theorem semNe_lst {n m : Nat} {us ws : List U} {L : UH} (e1 : seqAt L n = some us) (e2 : seqAt L m = some ws) (h1 : ∀ u ∈ us, Pl 6 u) (h2 : ∀ u ∈ ws, Pl 6 u) : semNe (.ref n) (.ref m) L = some (.bl (!eqBs us ws), L) := by unfold semNe; rw [eqP_lst e1 e2 h1 h2]; rfl
theorem Pl.int (n : Nat) (i : Int) : Pl n (.int i) := by cases n <;> exact trivial
theorem rng1_ok {g : FA} {δ : UE} {L L' : UH} {j : Int} (hg : g δ L = some ([.int j], L')) (h0 : 0 ≤ j) (h1 : j < 1000000) : fRng1 g δ L = some (.seq (rangeU 0 j.toNat), L') := by
  rw [fRng1_eq, hg]
  simp only [Option.bind_some]
  rw [if_pos ⟨by omega, by omega⟩]
theorem rng1_nat {g : FA} {δ : UE} {L L' : UH} {n : Nat} (hg : g δ L = some ([.int n], L')) (h1 : n < 1000000) : fRng1 g δ L = some (.seq (rangeU 0 n), L') := by
  have := rng1_ok hg (by omega) (by omega)
  rwa [Int.toNat_natCast] at this
end MR

set_option Elab.async false
set_option linter.all false
set_option maxRecDepth 100000
set_option maxHeartbeats 1000000
namespace Lw
open PySem L2 MR
end Lw

set_option Elab.async false
set_option linter.all false
set_option maxRecDepth 100000
set_option maxHeartbeats 1000000
namespace MR
open PySem PyProof.Rows L2
end MR

set_option Elab.async false
set_option linter.all false
set_option maxRecDepth 100000
set_option maxHeartbeats 1000000
namespace Lw
open PySem L2 MR
theorem str_ext {a b : Str} (h : a.cps.toList = b.cps.toList) : a = b := by
  cases a; cases b
  simp only [Str.mk.injEq]
  exact Array.toList_inj.mp h
theorem app_cps (a b : Str) : (a ++ b).cps.toList = a.cps.toList ++ b.cps.toList := by
  show (a.cps ++ b.cps).toList = _
  simp
theorem join_cons (c : Nat) (a b : Str) (r : List Str) : (Str.join ⟨#[c]⟩ (a :: b :: r)).cps.toList = a.cps.toList ++ c :: (Str.join ⟨#[c]⟩ (b :: r)).cps.toList := by
  show (a ++ ⟨#[c]⟩ ++ Str.join ⟨#[c]⟩ (b :: r)).cps.toList = _
  rw [app_cps, app_cps]
  simp
theorem cut_at {c : Nat} : ∀ {a a' r r' : List Nat}, c ∉ a → c ∉ a' → a ++ c :: r = a' ++ c :: r' → a = a' ∧ r = r'
  | [], [], r, r', _, _, h => by simp at h; exact ⟨rfl, h⟩
  | [], x :: a', r, r', _, h2, h => by
    simp at h
    exact absurd (by rw [← h.1]; exact List.mem_cons_self ..) h2
  | x :: a, [], r, r', h1, _, h => by
    simp at h
    exact absurd (by rw [h.1]; exact List.mem_cons_self ..) h1
  | x :: a, y :: a', r, r', h1, h2, h => by
    simp only [List.cons_append, List.cons.injEq] at h
    obtain ⟨e1, e2⟩ := cut_at (fun q => h1 (List.mem_cons_of_mem _ q)) (fun q => h2 (List.mem_cons_of_mem _ q)) h.2
    exact ⟨by rw [h.1, e1], e2⟩
theorem join_inj (c : Nat) : ∀ (l l' : List Str), l ≠ [] → l' ≠ [] → (∀ p ∈ l, c ∉ p.cps.toList) → (∀ p ∈ l', c ∉ p.cps.toList) → (Str.join ⟨#[c]⟩ l).cps.toList = (Str.join ⟨#[c]⟩ l').cps.toList → l = l'
  | [], _, h, _, _, _, _ => absurd rfl h
  | _, [], _, h, _, _, _ => absurd rfl h
  | [a], [b], _, _, _, _, h => by
    have : a = b := str_ext h
    rw [this]
  | [a], b :: b' :: r, _, _, h1, _, h => by
    rw [join_cons] at h
    have h' : a.cps.toList = b.cps.toList ++ c :: (Str.join ⟨#[c]⟩ (b' :: r)).cps.toList := h
    exact absurd (by rw [h']; simp) (h1 a (List.mem_cons_self ..))
  | a :: a' :: r, [b], _, _, _, h2, h => by
    rw [join_cons] at h
    have h' : a.cps.toList ++ c :: (Str.join ⟨#[c]⟩ (a' :: r)).cps.toList = b.cps.toList := h
    exact absurd (by rw [← h']; simp) (h2 b (List.mem_cons_self ..))
  | a :: a' :: r, b :: b' :: r', _, _, h1, h2, h => by
    rw [join_cons, join_cons] at h
    obtain ⟨e1, e2⟩ := cut_at (h1 a (List.mem_cons_self ..)) (h2 b (List.mem_cons_self ..)) h
    have ih := join_inj c (a' :: r) (b' :: r') (by simp) (by simp) (fun p hp => h1 p (List.mem_cons_of_mem _ hp)) (fun p hp => h2 p (List.mem_cons_of_mem _ hp)) e2
    rw [str_ext e1, ih]
theorem split_ne (x y : Str) : Txt.split x y ≠ [] := by
  unfold Txt.split
  split
  · simp
  · split
    · simp
    · rw [StrLaws.partsBetween_eq]
      obtain ⟨p, r, e⟩ := StrLaws.partsFrom_ne x y.length 0 (Builtin.Str.occurrences x y 0 x.length (x.length + 1))
      rw [e]; simp
theorem split_join {c : Nat} {l : List Str} (hne : l ≠ []) (hf : ∀ p ∈ l, c ∉ p.cps.toList) : Txt.split (Str.join ⟨#[c]⟩ l) ⟨#[c]⟩ = l :=
  join_inj c _ l (split_ne _ _) hne (fun p hp => StrLaws.split_free _ c p hp) hf (by rw [StrLaws.join_split])
def dig (n : Nat) : List Nat := if h : n < 10 then [48 + n] else dig (n / 10) ++ [48 + n % 10]
termination_by n
decreasing_by omega
theorem dig_lt {n : Nat} (h : n < 10) : dig n = [48 + n] := by rw [dig, dif_pos h]
theorem dig_ge {n : Nat} (h : ¬ n < 10) : dig n = dig (n / 10) ++ [48 + n % 10] := by rw [dig, dif_neg h]
theorem dig_facts : ∀ n : Nat, NumText.AllDigits (dig n) ∧ dig n ≠ [] ∧ NumText.digitsVal (dig n) = n ∧ (n ≠ 0 → ∃ c r, dig n = c :: r ∧ c ≠ 48) := by
  intro n
  induction n using Nat.strongRecOn with
  | _ n ih =>
    by_cases h : n < 10
    · rw [dig_lt h]
      refine ⟨fun c hc => ?_, by simp, ?_, fun h0 => ⟨48 + n, [], rfl, by omega⟩⟩
      · have : c = 48 + n := by simpa using hc
        omega
      · show 0 * 10 + (48 + n - 48) = n
        omega
    · obtain ⟨h1, h2, h3, h4⟩ := ih (n / 10) (by omega)
      rw [dig_ge h]
      refine ⟨fun c hc => ?_, by simp, ?_, fun _ => ?_⟩
      · rcases List.mem_append.mp hc with q | q
        · exact h1 c q
        · have : c = 48 + n % 10 := by simpa using q
          omega
      · rw [NumText.digitsVal_snoc, h3]; omega
      · obtain ⟨c, r, e, hc⟩ := h4 (by omega)
        exact ⟨c, r ++ [48 + n % 10], by rw [e]; rfl, hc⟩
theorem dig_len : ∀ (k n : Nat), n < 10 ^ (k + 1) → (dig n).length ≤ k + 1
  | 0, n, h => by rw [dig_lt (by simpa using h)]; simp
  | k + 1, n, h => by
    by_cases hn : n < 10
    · rw [dig_lt hn]; simp
    · rw [dig_ge hn, List.length_append]
      have := dig_len k (n / 10) (by
        rw [Nat.pow_succ] at h
        exact Nat.div_lt_of_lt_mul (by rw [Nat.mul_comm]; exact h))
      simp; omega
def fig (n : Int) : Str := ⟨((if n < 0 then [45] else []) ++ dig n.natAbs).toArray⟩
theorem fig_cps (n : Int) : (fig n).cps.toList = (if n < 0 then [45] else []) ++ dig n.natAbs := by unfold fig; simp
theorem fig_len {n : Int} (h : -9999999999 ≤ n ∧ n ≤ 9999999999) : (fig n).length ≤ 11 := by
  have e : (fig n).length = (fig n).cps.toList.length := by simp [Str.length]
  rw [e, fig_cps, List.length_append]
  have := dig_len 9 n.natAbs (by omega)
  split <;> simp <;> omega
theorem fig_int {n : Int} (h : -9999999999 ≤ n ∧ n ≤ 9999999999) : PySem.intText? (fig n) = some n := by
  have hl := fig_len h
  have en : n < 0 → -((n.natAbs : Nat) : Int) = n := fun q => by omega
  have ep : ¬ n < 0 → ((n.natAbs : Nat) : Int) = n := fun q => by omega
  obtain ⟨h1, h2, h3, _⟩ := dig_facts n.natAbs
  by_cases h0 : n < 0
  · have hx : (fig n).cps.toList = 45 :: dig n.natAbs := by rw [fig_cps, if_pos h0]; rfl
    rw [PySem.intText_neg hx h1 h2 (by omega), h3, en h0]
  · have hx : (fig n).cps.toList = dig n.natAbs := by rw [fig_cps, if_neg h0]; rfl
    rw [PySem.intText_digits (by rw [hx]; exact h1) (by rw [hx]; exact h2) (by omega), hx, h3, ep h0]
theorem fig_free {n : Int} {c : Nat} (hc : c < 45) : c ∉ (fig n).cps.toList := fun h => by
  rw [fig_cps] at h
  rcases List.mem_append.mp h with q | q
  · split at q
    · have : c = 45 := by simpa using q
      omega
    · simp at q
  · have := (dig_facts n.natAbs).1 c q
    omega

end Lw

set_option Elab.async false
set_option linter.all false
set_option maxRecDepth 100000
set_option maxHeartbeats 1000000
namespace Lw
open PySem L2 MR
def b_l_deck : FS := (fRet (fLst (fCons (fSl semSl (fVar 0) fNoPart (fPart (fC (.int 63)))) (fCons (fC (.int 0)) (fCons (fC (.int 0)) (fCons (fC (.int 0)) (fCons (fCall semSum (fCons (fSl semSl (fVar 0) fNoPart (fPart (fC (.int 63)))) fNil)) fNil)))))))
def m_l_deck : FN := fnU 1 1 b_l_deck
def b_l_mix : FS := (fSeq (fAsg (f2 semAdd (f2 semMod (fVar 0) (fC (.int 2147483629))) (f2 semMul (f2 semMul (fC (.int 1000003)) (fVar 1)) (fVar 1))) (gN 2)) (fSeq (fAsg (f2 semMod (f2 semAdd (fVar 2) (f2 semMul (fC (.int 7919)) (fVar 1))) (fC (.int 2147483629))) (gN 2)) (fSeq (fAsg (f2 semMod (f2 semMul (fVar 2) (fVar 2)) (fC (.int 2147483587))) (gN 2)) (fRet (f2 semDiv (f2 semMod (f2 semMul (fVar 2) (f2 semAdd (fVar 2) (fC (.int 40961)))) (fC (.int 2147483563))) (fC (.int 4)))))))
def m_l_mix : FN := fnU 3 2 b_l_mix
def b_l_next : FS := (fSeq (fIfS (fAnd (fTest (f2 semEq (f2 semIx (fVar 0) (fC (.int 2))) (fC (.int 0)))) (fTest (f2 semLt (f2 semIx (fVar 0) (fC (.int 1))) (fCall semLen (fCons (f2 semIx (fVar 0) (fC (.int 0))) fNil))))) (fSeq (fAsg (f2 semIx (f2 semIx (fVar 0) (fC (.int 0))) (f2 semIx (fVar 0) (fC (.int 1)))) (gN 2)) (fSeq (fAsg (f2 semAdd (f2 semIx (fVar 0) (fC (.int 1))) (fC (.int 1))) (MR.gSub (fVar 0) (fC (.int 1)))) (fSeq (fIfS (fTest (f2 semLt (fVar 2) (f2 semPow (fC (.int 10)) (fC (.int 18))))) (fRet (f2 semMod (fOwn 2 m_l_mix (fCons (fVar 2) (fCons (f2 semIx (fVar 0) (fC (.int 1))) fNil))) (fVar 1))) fNext) (fAsg (fVar 2) (MR.gSub (fVar 0) (fC (.int 2))))))) fNext) (fSeq (fIfS (fTest (f2 semGt (f2 semIx (fVar 0) (fC (.int 2))) (fC (.int 0)))) (fSeq (fAsg (f2 semMod (f2 semIx (fVar 0) (fC (.int 2))) (fVar 1)) (gN 3)) (fSeq (fAsg (f2 semDiv (f2 semIx (fVar 0) (fC (.int 2))) (fVar 1)) (MR.gSub (fVar 0) (fC (.int 2)))) (fRet (fVar 3)))) fNext) (fSeq (fAsg (f2 semAdd (f2 semIx (fVar 0) (fC (.int 3))) (fC (.int 1))) (MR.gSub (fVar 0) (fC (.int 3)))) (fRet (f2 semMod (fOwn 2 m_l_mix (fCons (f2 semIx (fVar 0) (fC (.int 4))) (fCons (f2 semAdd (f2 semIx (fVar 0) (fC (.int 3))) (fC (.int 683))) fNil))) (fVar 1))))))
def m_l_next : FN := fnU 4 2 b_l_next
def b_l_number : FS := (fSeq (fIfS (fTest (f2 semEq (fVar 1) (fC (.int 2)))) (fSeq (fAsg (f2 semAdd (f2 semMul (fOwn 2 m_l_next (fCons (fVar 0) (fCons (f2 semMul (fC (.int 2)) (f2 semPow (fC (.int 10)) (fC (.int 5)))) fNil))) (f2 semPow (fC (.int 10)) (fC (.int 5)))) (fOwn 2 m_l_next (fCons (fVar 0) (fCons (f2 semPow (fC (.int 10)) (fC (.int 5))) fNil)))) (gN 2)) (fSeq (fAsg (f2 semAdd (f2 semSub (f2 semMod (fVar 2) (f2 semSub (f2 semMul (fC (.int 2)) (f2 semPow (fC (.int 10)) (fC (.int 10)))) (fC (.int 1)))) (f2 semPow (fC (.int 10)) (fC (.int 10)))) (fC (.int 1))) (gN 2)) (fRet (f2 semIx (fLst (fCons (fVar 2) (fCons (f2 semSub (f2 semPow (fC (.int 10)) (fC (.int 10))) (fC (.int 1))) (fCons (f2 semSub (fC (.int 1)) (f2 semPow (fC (.int 10)) (fC (.int 10)))) fNil)))) (fCall semMax (fCons (fC (.int 0)) (fCons (f2 semSub (fOwn 2 m_l_next (fCons (fVar 0) (fCons (fC (.int 9)) fNil))) (fC (.int 6))) fNil))))))) fNext) (fRet (f2 semSub (fOwn 2 m_l_next (fCons (fVar 0) (fCons (f2 semIx (fLst (fCons (fC (.int 4)) (fCons (fC (.int 99)) fNil))) (fVar 1)) fNil))) (f2 semIx (fLst (fCons (fC (.int 1)) (fCons (fC (.int 50)) fNil))) (fVar 1)))))
def m_l_number : FN := fnU 3 2 b_l_number/-! ### the deck of numbers -/
structure Ex (d : Nat) (L L' : UH) : Prop where
  le : L.length ≤ L'.length
  at_ : ∀ i, i < L.length → i ≠ d → L'[i]? = L[i]?
theorem Ex.refl (d : Nat) (L : UH) : Ex d L L := ⟨Nat.le_refl _, fun _ _ _ => rfl⟩
theorem Ex.trans {d : Nat} {L L1 L2 : UH} (a : Ex d L L1) (b : Ex d L1 L2) : Ex d L L2 :=
  ⟨Nat.le_trans a.le b.le, fun i h1 h2 => by rw [b.at_ i (Nat.lt_of_lt_of_le h1 a.le) h2, a.at_ i h1 h2]⟩
theorem Ex.new (d : Nat) (L : UH) (x : List HU) : Ex d L (L ++ x) := ⟨by simp, fun i h _ => by rw [List.getElem?_append_left h]⟩
theorem Ex.put (d : Nat) (L : UH) (o : HU) : Ex d L (L.set d o) := ⟨by simp, fun i _ h => by rw [List.getElem?_set_ne (Ne.symm h)]⟩
structure Deck (L : UH) (d : Nat) (B : Int) : Prop where
  ex : ∃ (sn : Nat) (cells : List Int) (a b c e : Int), L[d]? = some (.lst [.ref sn, .int a, .int b, .int c, .int e]) ∧ L[sn]? = some (.lst (cells.map U.int)) ∧ sn < d ∧ cells.length ≤ 63 ∧ 0 ≤ a ∧ a ≤ cells.length ∧ 0 ≤ b ∧ 0 ≤ c ∧ c ≤ B
theorem Deck.lt {L : UH} {d : Nat} {B : Int} (h : Deck L d B) : d < L.length := by
  obtain ⟨sn, cells, a, b, c, e, h1, _⟩ := h.ex
  exact (List.getElem?_eq_some_iff.mp h1).1
theorem Deck.mono {L : UH} {d : Nat} {B B' : Int} (h : Deck L d B) (hb : B ≤ B') : Deck L d B' := by
  obtain ⟨sn, cells, a, b, c, e, h1, h2, h3, h4, h5, h6, h7, h8, h9⟩ := h.ex
  exact ⟨sn, cells, a, b, c, e, h1, h2, h3, h4, h5, h6, h7, h8, by omega⟩
theorem Deck.new {L : UH} {d : Nat} {B : Int} (h : Deck L d B) (x : List HU) : Deck (L ++ x) d B := by
  obtain ⟨sn, cells, a, b, c, e, h1, h2, h3⟩ := h.ex
  exact ⟨sn, cells, a, b, c, e, by rw [List.getElem?_append_left (List.getElem?_eq_some_iff.mp h1).1]; exact h1, by rw [List.getElem?_append_left (List.getElem?_eq_some_iff.mp h2).1]; exact h2, h3⟩
theorem Deck.set {L : UH} {d : Nat} {B : Int} (h : Deck L d B) {n : Nat} (hn : d < n) (o : HU) : Deck (L.set n o) d B := by
  obtain ⟨sn, cells, a, b, c, e, h1, h2, h3, h4⟩ := h.ex
  exact ⟨sn, cells, a, b, c, e, by rw [List.getElem?_set_ne (by omega)]; exact h1, by rw [List.getElem?_set_ne (by omega)]; exact h2, h3, h4⟩
theorem Ex.set {d : Nat} {L L' : UH} (h : Ex d L L') {n : Nat} (hn : L.length ≤ n) (o : HU) : Ex d L (L'.set n o) :=
  ⟨by rw [List.length_set]; exact h.le, fun i h1 h2 => by rw [List.getElem?_set_ne (by omega)]; exact h.at_ i h1 h2⟩
theorem Ex.get {d : Nat} {L L' : UH} {i : Nat} {o : HU} (h : Ex d L L') (e : L[i]? = some o) (hi : i ≠ d) : L'[i]? = some o := by
  rw [h.at_ i (List.getElem?_eq_some_iff.mp e).1 hi]; exact e
theorem mix_ok (c k : Int) (L : UH) (h0 : 0 ≤ k) (h1 : k ≤ 1000000000000000000) : ∃ r, m_l_mix [.int c, .int k] L = some (.int r, L) ∧ 0 ≤ r := by
  have e1 : ∀ x : Int, 0 ≤ x % 2147483629 ∧ x % 2147483629 < 2147483629 := fun x => ⟨Int.emod_nonneg _ (by decide), Int.emod_lt_of_pos _ (by decide)⟩
  have e2 : ∀ x : Int, 0 ≤ x % 2147483587 ∧ x % 2147483587 < 2147483587 := fun x => ⟨Int.emod_nonneg _ (by decide), Int.emod_lt_of_pos _ (by decide)⟩
  have e3 : ∀ x : Int, 0 ≤ x % 2147483563 ∧ x % 2147483563 < 2147483563 := fun x => ⟨Int.emod_nonneg _ (by decide), Int.emod_lt_of_pos _ (by decide)⟩
  generalize hA : (c % 2147483629 + 1000003 * k * k + 7919 * k) % 2147483629 = A
  have hA' := e1 (c % 2147483629 + 1000003 * k * k + 7919 * k)
  rw [hA] at hA'
  generalize hB : A * A % 2147483587 = Bn
  have hB' := e2 (A * A)
  rw [hB] at hB'
  refine ⟨(Bn * (Bn + 40961) % 2147483563) / 4, ?_, Int.ediv_nonneg (e3 _).1 (by decide)⟩
  have m1 : mulOk 1000003 k = true := mulOk_l (by decide) (by decide)
  have m2 : mulOk (1000003 * k) k = true := mulOk_r (by omega) (by omega)
  have m3 : mulOk 7919 k = true := mulOk_l (by decide) (by decide)
  have m4 : mulOk A A = true := mulOk_l (by omega) (by omega)
  have m5 : mulOk Bn (Bn + 40961) = true := mulOk_l (by omega) (by omega)
  have d1 : ∀ x : Int, divOk x 4 = true := fun x => divOk_of (by decide) (by decide)
  simp [m_l_mix, fnU, b_l_mix, m1, m2, m3, hA, m4, hB, m5, d1]
theorem next_ok {L : UH} {d : Nat} {B many : Int} (D : Deck L d B) (hB : B ≤ 100000000000000000) (h0 : 0 < many) (h1 : many < 1073741824) :
    ∃ r L', m_l_next [.ref d, .int many] L = some (.int r, L') ∧ 0 ≤ r ∧ r < many ∧ Deck L' d (B + 1) ∧ Ex d L L' := by
  obtain ⟨sn, cells, a, b, c, e, hd, hs, hlt0, hl, ha0, ha1, hb0, hc0, hc1⟩ := D.ex
  have hne : sn ≠ d := Nat.ne_of_lt hlt0
  have hdl : d < L.length := (List.getElem?_eq_some_iff.mp hd).1
  have q1 := seqAt_lst hd
  have q2 := lstAt_lst hd
  have q3 := seqAt_lst hs
  have md : ∀ x : Int, 0 ≤ x % many ∧ x % many < many := fun x => ⟨Int.emod_nonneg _ (by omega), Int.emod_lt_of_pos _ h0⟩
  have i0 : ∀ (x0 x1 x2 x3 x4 : U), L2.atI [x0, x1, x2, x3, x4] 0 = some x0 := fun _ _ _ _ _ => rfl
  have i1 : ∀ (x0 x1 x2 x3 x4 : U), L2.atI [x0, x1, x2, x3, x4] 1 = some x1 := fun _ _ _ _ _ => rfl
  have i2 : ∀ (x0 x1 x2 x3 x4 : U), L2.atI [x0, x1, x2, x3, x4] 2 = some x2 := fun _ _ _ _ _ => rfl
  have i3 : ∀ (x0 x1 x2 x3 x4 : U), L2.atI [x0, x1, x2, x3, x4] 3 = some x3 := fun _ _ _ _ _ => rfl
  have i4 : ∀ (x0 x1 x2 x3 x4 : U), L2.atI [x0, x1, x2, x3, x4] 4 = some x4 := fun _ _ _ _ _ => rfl
  have j1 : ixN 5 1 = some 1 := rfl
  have j2 : ixN 5 2 = some 2 := rfl
  have j3 : ixN 5 3 = some 3 := rfl
  have set1 : ∀ (o : HU) (us : List U), o = .lst us → seqAt (L.set d o) d = some us ∧ lstAt (L.set d o) d = some us := fun o us ho => by
    have : (L.set d o)[d]? = some (.lst us) := by rw [List.getElem?_set_self hdl, ho]
    exact ⟨seqAt_lst this, lstAt_lst this⟩
  have keep : ∀ (x1 x2 x3 : Int) (o : HU), o = .lst [.ref sn, .int x1, .int x2, .int x3, .int e] → 0 ≤ x1 → x1 ≤ cells.length → 0 ≤ x2 → 0 ≤ x3 → x3 ≤ B + 1 → Deck (L.set d o) d (B + 1) ∧ Ex d L (L.set d o) := fun x1 x2 x3 o ho g1 g2 g3 g4 g5 =>
    ⟨⟨sn, cells, x1, x2, x3, e, by rw [List.getElem?_set_self hdl, ho], by rw [List.getElem?_set_ne (Ne.symm hne)]; exact hs, hlt0, hl, g1, g2, g3, g4, g5⟩, Ex.put d L o⟩
  have seto : ∀ (o : HU) (i : Nat), i ≠ d → seqAt (L.set d o) i = seqAt L i := fun o i hi => by
    unfold seqAt; rw [List.getElem?_set_ne (Ne.symm hi)]
  have lens : semLen [.ref sn] L = some (.int cells.length, L) := by simp [semLen, lenU, q3]
  by_cases hb : b = 0
  · subst hb
    by_cases hal : a < cells.length
    · have hat : L2.atI (cells.map U.int) a = some (.int (cells[a.toNat]'(by omega))) := by
        rw [atI_of ha0 (by simpa using hal), List.getElem?_map, List.getElem?_eq_getElem (by omega)]; rfl
      generalize hcell : cells[a.toNat]'(by omega) = cell at hat
      have s1 := set1 (.lst [.ref sn, .int (a + 1), .int 0, .int c, .int e]) _ rfl
      by_cases hc : cell < 1000000000000000000
      · obtain ⟨r, er, hr⟩ := mix_ok cell (a + 1) (L.set d (.lst [.ref sn, .int (a + 1), .int 0, .int c, .int e])) (by omega) (by omega)
        have hk := keep (a + 1) 0 c _ rfl (by omega) (by omega) (by omega) hc0 (by omega)
        refine ⟨r % many, _, ?_, (md r).1, (md r).2, hk.1, hk.2⟩
        simp [m_l_next, fnU, b_l_next, q1, q2, i0, i1, i2, i3, i4, lens, hal, q3, hat, j1, s1, hc, er, h0, show powOk 10 18 = true from rfl]
      · have s2 := set1 (.lst [.ref sn, .int (a + 1), .int cell, .int c, .int e]) _ rfl
        have hcp : 0 < cell := by omega
        have hk := keep (a + 1) (cell / many) c _ rfl (by omega) (by omega) (Int.ediv_nonneg (by omega) (by omega)) hc0 (by omega)
        refine ⟨cell % many, _, ?_, (md cell).1, (md cell).2, hk.1, hk.2⟩
        simp [m_l_next, fnU, b_l_next, q1, q2, i0, i1, i2, i3, i4, lens, hal, q3, hat, j1, j2, s1, hc, h0, show powOk 10 18 = true from rfl, s2, hcp, divOk_of h0 (Int.lt_trans h1 (by decide))]
    · have hk := keep a 0 (c + 1) _ rfl ha0 ha1 (by omega) (by omega) (by omega)
      have s1 := set1 (.lst [.ref sn, .int a, .int 0, .int (c + 1), .int e]) _ rfl
      obtain ⟨r, er, hr⟩ := mix_ok e (c + 1 + 683) (L.set d (.lst [.ref sn, .int a, .int 0, .int (c + 1), .int e])) (by omega) (by omega)
      refine ⟨r % many, _, ?_, (md r).1, (md r).2, hk.1, hk.2⟩
      simp [m_l_next, fnU, b_l_next, q1, q2, i0, i1, i2, i3, i4, lens, hal, q3, j3, s1, h0, er]
  · have hb' : 0 < b := by omega
    have hk := keep a (b / many) c _ rfl ha0 ha1 (Int.ediv_nonneg (by omega) (by omega)) hc0 (by omega)
    refine ⟨b % many, _, ?_, (md b).1, (md b).2, hk.1, hk.2⟩
    simp [m_l_next, fnU, b_l_next, q1, q2, i0, i1, i2, i3, i4, hb, hb', j2, h0, divOk_of h0 (Int.lt_trans h1 (by decide))]
theorem Deck.start (ns : List Int) (L : UH) (n : Nat) (hn : L[n]? = some (.ro (ns.map U.int))) (hl : ns.length ≤ 63) : ∃ d L', m_l_deck [.ref n] L = some (.ref d, L') ∧ Deck L' d 0 ∧ L.length ≤ d ∧ (∀ i, i < L.length → L'[i]? = L[i]?) := by
  have hq : seqAt L n = some (ns.map U.int) := by unfold seqAt; rw [hn]
  have hcut : cutU (ns.map U.int) none (some 63) = ns.map U.int := by
    unfold cutU HT.sIx
    simp only [List.length_map, List.drop_zero]
    rw [if_neg (by decide)]
    exact List.take_of_length_le (by simp; omega)
  have hI : ∀ l : List Int, mapO toI (l.map U.int) = some l := by
    intro l
    induction l with
    | nil => rfl
    | cons a r ih => simp [mapO, toI, ih]
  have hlt : n < L.length := (List.getElem?_eq_some_iff.mp hn).1
  refine ⟨L.length + 2, L ++ [.lst (ns.map U.int)] ++ [.lst (ns.map U.int)] ++ [.lst [.ref L.length, .int 0, .int 0, .int 0, .int ns.sum]], ?_, ⟨L.length, ns, 0, 0, 0, ns.sum, by simp, by simp [List.getElem?_append], by omega, hl, by omega, by omega, by omega, by omega, by omega⟩, by omega, fun i hi => by rw [List.append_assoc, List.append_assoc, List.getElem?_append_left hi]⟩
  have hq2 : seqAt (L ++ [HU.lst (ns.map U.int)]) n = some (ns.map U.int) := by unfold seqAt; rw [List.getElem?_append_left hlt, hn]
  have hq3 : seqAt (L ++ [HU.lst (ns.map U.int), HU.lst (ns.map U.int)]) (L.length + 1) = some (ns.map U.int) := by unfold seqAt; rw [List.getElem?_append_right (by omega)]; simp
  simp [m_l_deck, fnU, b_l_deck, semSl, hq, hcut, hq2, semSum, hq3, hI, small_of]

end Lw

set_option Elab.async false
set_option linter.all false
set_option maxRecDepth 100000
set_option maxHeartbeats 1000000
namespace Lw
open PySem L2 MR
theorem number_ok {L : UH} {d : Nat} {B kind : Int} (D : Deck L d B) (hB : B ≤ 10000000000000000) (hk : kind = 0 ∨ kind = 1 ∨ kind = 2) :
    ∃ r L', m_l_number [.ref d, .int kind] L = some (.int r, L') ∧ -9999999999 ≤ r ∧ r ≤ 9999999999 ∧ Deck L' d (B + 3) ∧ Ex d L L' := by
  have small2 : kind = 0 ∨ kind = 1 → ∃ r L', m_l_number [.ref d, .int kind] L = some (.int r, L') ∧ -9999999999 ≤ r ∧ r ≤ 9999999999 ∧ Deck L' d (B + 3) ∧ Ex d L L' := by
    intro hk
    have q1 : seqAt (L ++ [HU.lst [.int 4, .int 99]]) L.length = some [.int 4, .int 99] := seqAt_lst (by simp)
    have fin : ∀ (w lo : Int), 0 < w → w < 100 → 0 ≤ lo → lo ≤ 50 → (L2.atI [U.int 4, U.int 99] kind = some (.int w)) → (L2.atI [U.int 1, U.int 50] kind = some (.int lo)) → ¬ kind = 2 →
        ∃ r L', m_l_number [.ref d, .int kind] L = some (.int r, L') ∧ -9999999999 ≤ r ∧ r ≤ 9999999999 ∧ Deck L' d (B + 3) ∧ Ex d L L' := fun w lo w0 w1 l0 l1 a1 a2 hk2 => by
      obtain ⟨r, L1, e1, r0, r1, D1, x1⟩ := next_ok (many := w) (D.new [HU.lst [.int 4, .int 99]]) (by omega) w0 (by omega)
      have q2 : seqAt (L1 ++ [HU.lst [.int 1, .int 50]]) L1.length = some [.int 1, .int 50] := seqAt_lst (by simp)
      refine ⟨r - lo, L1 ++ [HU.lst [.int 1, .int 50]], ?_, by omega, by omega, (D1.new _).mono (by omega), (Ex.new d L _).trans (x1.trans (Ex.new d L1 _))⟩
      simp [m_l_number, fnU, b_l_number, hk2, small_of, q1, a1, e1, q2, a2]
    rcases hk with rfl | rfl
    · exact fin 4 1 (by decide) (by decide) (by decide) (by decide) rfl rfl (by decide)
    · exact fin 99 50 (by decide) (by decide) (by decide) (by decide) rfl rfl (by decide)
  rcases hk with hk | hk | rfl
  · exact small2 (.inl hk)
  · exact small2 (.inr hk)
  obtain ⟨r1, L1, e1, a1, b1, D1, x1⟩ := next_ok (many := 200000) D (by omega) (by decide) (by decide)
  obtain ⟨r2, M2, e2, a2, b2, D2, x2⟩ := next_ok (many := 100000) D1 (by omega) (by decide) (by decide)
  have g0 : 0 ≤ (r1 * 100000 + r2) % 19999999999 := Int.emod_nonneg _ (by decide)
  have g1 : (r1 * 100000 + r2) % 19999999999 < 19999999999 := Int.emod_lt_of_pos _ (by decide)
  generalize hg : (r1 * 100000 + r2) % 19999999999 - 10000000000 + 1 = great
  obtain ⟨r3, L3, e3, a3, b3, D3, x3⟩ := next_ok (many := 9) (D2.new [HU.lst [.int great, .int 9999999999, .int (-9999999999)]]) (by omega) (by decide) (by decide)
  have q1 : seqAt L3 M2.length = some [.int great, .int 9999999999, .int (-9999999999)] := by
    have : L3[M2.length]? = some (HU.lst [.int great, .int 9999999999, .int (-9999999999)]) := by
      rw [x3.at_ M2.length (by simp) (by have := D2.lt; omega)]; simp
    exact seqAt_lst this
  have hm : mulOk r1 100000 = true := mulOk_l (by omega) (by omega)
  have p5 : powOk 10 5 = true := rfl
  have p10 : powOk 10 10 = true := rfl
  have m1 : mulOk 2 100000 = true := rfl
  have m2 : mulOk 2 10000000000 = true := rfl
  have fin : ∀ ix z : Int, (if r3 - 6 > 0 then r3 - 6 else 0) = ix → L2.atI [U.int great, U.int 9999999999, U.int (-9999999999)] ix = some (.int z) → -9999999999 ≤ z → z ≤ 9999999999 →
      ∃ r L', m_l_number [.ref d, .int 2] L = some (.int r, L') ∧ -9999999999 ≤ r ∧ r ≤ 9999999999 ∧ Deck L' d (B + 3) ∧ Ex d L L' := fun ix z hix hz z0 z1 => by
    refine ⟨z, L3, ?_, z0, z1, D3.mono (by omega), x1.trans (x2.trans ((Ex.new d M2 _).trans x3))⟩
    have hsem : semMax [.int 0, .int (r3 - 6)] L3 = some (.int ix, L3) := by rw [← hix]; rfl
    simp [m_l_number, fnU, b_l_number, p5, p10, m1, m2, e1, hm, e2, hg, small_of, e3, hsem, q1, hz]
  by_cases h6 : r3 - 6 > 0
  · have : r3 = 7 ∨ r3 = 8 := by omega
    rcases this with rfl | rfl
    · exact fin 1 9999999999 rfl rfl (by decide) (by decide)
    · exact fin 2 (-9999999999) rfl rfl (by decide) (by decide)
  · exact fin 0 great (if_neg h6) rfl (by omega) (by omega)

end Lw

set_option Elab.async false
set_option linter.all false
set_option maxRecDepth 100000
set_option maxHeartbeats 1000000
namespace Lw
open PySem L2 MR
def b_l_names_1e : FE := (fVar 1)
def b_l_names_1t : FT := (fTest (f2 (semIn true) (fVar 1) (fSl semSl (fVar 2) fNoPart (fPart (fVar 0)))))
def b_l_names_2e : FE := (fMeth "list" semPop (fVar 1) (fCons (fOwn 2 m_l_next (fCons (fVar 2) (fCons (fCall semLen (fCons (fVar 1) fNil)) fNil))) fNil))
def b_l_names_3 : FS := (fSeq (fAsg (f2 semAdd (fVar 4) (f2 semMul (fC (.int 7)) (fVar 7))) (gN 8)) (fSeq (fAsg (f2 semAdd (f2 semIx (fVar 2) (f2 semMod (fVar 8) (fC (.int 26)))) (f2 semIx (fVar 2) (f2 semMod (f2 semDiv (fVar 8) (fC (.int 26))) (fC (.int 26))))) (gN 9)) (fSeq (fAsg (f2 semAdd (fVar 9) (f2 semIx (fVar 2) (f2 semDiv (fVar 8) (fC (.int 676))))) (gN 9)) (fSeq (fIfS (fTest (f2 semEq (fVar 5) (fC (.int 1)))) (fAsg (f2 semAdd (f2 semMul (fVar 3) (f2 semMod (fVar 7) (fC (.int 6)))) (fVar 9)) (gN 9)) fNext) (fSeq (fIfS (fTest (f2 semEq (fVar 5) (fC (.int 2)))) (fAsg (f2 semAdd (fVar 9) (f2 semMul (fVar 3) (f2 semMod (fVar 7) (fC (.int 6))))) (gN 9)) fNext) (fSeq (fIfS (fTest (f2 semEq (fVar 5) (fC (.int 3)))) (fAsg (f2 semIx (fLst (fCons (f2 semIx (fVar 2) (f2 semMod (fVar 7) (fC (.int 26)))) (fCons (f2 semAdd (f2 semIx (fVar 2) (f2 semMod (fVar 7) (fC (.int 26)))) (fC (.str "x"))) (fCons (f2 semAdd (f2 semIx (fVar 2) (f2 semMod (fVar 7) (fC (.int 26)))) (fC (.str "xy"))) fNil)))) (f2 semDiv (fVar 7) (fC (.int 26)))) (gN 9)) fNext) (fDrop (fMeth "list" semAppend (fVar 6) (fCons (fVar 9) fNil)))))))))
def b_l_names : FS := (fSeq (fAsg (fC (.str "abcdefghijklmnopqrstuvwxyz")) (gN 2)) (fSeq (fAsg (f2 semIx (fVar 2) (fOwn 2 m_l_next (fCons (fVar 0) (fCons (fC (.int 26)) fNil)))) (gN 3)) (fSeq (fAsg (fOwn 2 m_l_next (fCons (fVar 0) (fCons (fC (.int 600)) fNil))) (gN 4)) (fSeq (fAsg (fOwn 2 m_l_next (fCons (fVar 0) (fCons (fC (.int 4)) fNil))) (gN 5)) (fSeq (fAsg (fLst fNil) (gN 6)) (fSeq (fFor (fRng1 (fCons (fVar 1) fNil)) (gN 7) b_l_names_3) (fSeq (fAsg (fCall semList (fCons (fVar 6) fNil)) (gN 10)) (fSeq (fAsg (fComp [none, some 10, some 0] (fRng1 (fCons (fVar 1) fNil)) (gN 0) none b_l_names_2e) (gN 11)) (fRet (fComp [none, none, some 11] (fEnum (fCons (fVar 11) fNil)) (MR.gTup 2 (MR.gCons (gN 0) (MR.gCons (gN 1) MR.gNil))) (some b_l_names_1t) b_l_names_1e))))))))))
def m_l_names : FN := fnU 12 2 b_l_names
def b_l_places_1 : FS := (fSeq (fAsg (fTup (fCons (fOwn 2 m_l_number (fCons (fVar 0) (fCons (fVar 3) fNil))) (fCons (fOwn 2 m_l_number (fCons (fVar 0) (fCons (fVar 3) fNil))) fNil))) (gN 8)) (fSeq (fIfS (fTest (f2 semEq (fVar 4) (fC (.int 1)))) (fAsg (fTup (fCons (f2 semDiv (fVar 7) (fC (.int 2))) (fCons (f2 semSub (fVar 7) (f2 semDiv (fVar 7) (fC (.int 3)))) fNil))) (gN 8)) fNext) (fSeq (fIfS (fTest (f2 semEq (fVar 4) (fC (.int 2)))) (fAsg (fTup (fCons (f2 semDiv (fVar 7) (fC (.int 2))) (fCons (f2 semSub (fC (.int 0)) (fVar 7)) fNil))) (gN 8)) fNext) (fSeq (fIfS (fTest (f2 semEq (fVar 4) (fC (.int 3)))) (fAsg (fTup (fCons (f2 semIx (fVar 8) (fC (.int 0))) (fCons (f2 semIx (f2 semIx (fVar 5) (fC (.int 0))) (fC (.int 1))) fNil))) (gN 8)) fNext) (fSeq (fIfS (fTest (f2 semEq (fVar 4) (fC (.int 4)))) (fAsg (f2 semIx (fVar 5) (fOwn 2 m_l_next (fCons (fVar 0) (fCons (fC (.int 2)) fNil)))) (gN 8)) fNext) (fSeq (fIfS (fAnd (fTest (f2 semEq (fOwn 2 m_l_next (fCons (fVar 0) (fCons (fC (.int 6)) fNil))) (fC (.int 0)))) (fTest (f2 semNe (fVar 6) (fLst fNil)))) (fAsg (f2 semIx (fVar 6) (fOwn 2 m_l_next (fCons (fVar 0) (fCons (fCall semLen (fCons (fVar 6) fNil)) fNil)))) (gN 8)) fNext) (fDrop (fMeth "list" semAppend (fVar 6) (fCons (fVar 8) fNil)))))))))
def b_l_places_2e : FE := (fTup (fCons (fOwn 2 m_l_number (fCons (fVar 1) (fCons (fVar 2) fNil))) (fCons (fOwn 2 m_l_number (fCons (fVar 1) (fCons (fVar 2) fNil))) fNil)))
def b_l_places : FS := (fSeq (fAsg (f2 semIx (fLst (fCons (fOwn 2 m_l_next (fCons (fVar 0) (fCons (f2 semAdd (fVar 1) (fC (.int 1))) fNil))) (fCons (fOwn 2 m_l_next (fCons (fVar 0) (fCons (fC (.int 7)) fNil))) (fCons (fVar 1) fNil)))) (fOwn 2 m_l_next (fCons (fVar 0) (fCons (fC (.int 3)) fNil)))) (gN 2)) (fSeq (fAsg (fOwn 2 m_l_next (fCons (fVar 0) (fCons (fC (.int 3)) fNil))) (gN 3)) (fSeq (fAsg (fOwn 2 m_l_next (fCons (fVar 0) (fCons (fC (.int 6)) fNil))) (gN 4)) (fSeq (fAsg (fComp [none, some 0, some 3] (fRng1 (fCons (fC (.int 2)) fNil)) (gN 0) none b_l_places_2e) (gN 5)) (fSeq (fAsg (fLst fNil) (gN 6)) (fSeq (fFor (fRng1 (fCons (fVar 2) fNil)) (gN 7) b_l_places_1) (fRet (fVar 6))))))))
def m_l_places : FN := fnU 9 2 b_l_places
def b_l_points_1e : FE := (fTup (fCons (fVar 0) (fCons (f2 semIx (fVar 1) (fC (.int 0))) (fCons (f2 semIx (fVar 1) (fC (.int 1))) fNil))))
def b_l_points_2e : FE := (fMeth "list" semPop (fVar 1) (fCons (fOwn 2 m_l_next (fCons (fVar 2) (fCons (fCall semLen (fCons (fVar 1) fNil)) fNil))) fNil))
def b_l_points : FS := (fSeq (fAsg (fOwn 2 m_l_places (fCons (fVar 0) (fCons (fVar 1) fNil))) (gN 2)) (fSeq (fIfS (fTest (f2 semEq (fOwn 2 m_l_next (fCons (fVar 0) (fCons (fC (.int 2)) fNil))) (fC (.int 0)))) (fAsg (fComp [none, some 2, some 0] (fRng1 (fCons (fCall semLen (fCons (fVar 2) fNil)) fNil)) (gN 0) none b_l_points_2e) (gN 2)) fNext) (fSeq (fAsg (fOwn 2 m_l_names (fCons (fVar 0) (fCons (fCall semLen (fCons (fVar 2) fNil)) fNil))) (gN 3)) (fRet (fCall semTuple (fCons (fComp [none, none] (fZip (fCons (fVar 3) (fCons (fVar 2) fNil))) (MR.gTup 2 (MR.gCons (gN 0) (MR.gCons (gN 1) MR.gNil))) none b_l_points_1e) fNil))))))
def m_l_points : FN := fnU 4 2 b_l_points
theorem semIx_str (x : Str) (i : Int) (L : UH) : semIx (.str x) (.int i) L = if small x.length = true then (L2.atI x.cps.toList i).map fun c => (.str ⟨#[c]⟩, L) else none := rfl
theorem letters_len : ("abcdefghijklmnopqrstuvwxyz" : Str).cps.toList.length = 26 := by decide +kernel
theorem letters_small : small ("abcdefghijklmnopqrstuvwxyz" : Str).length = true := by decide +kernel
def Low (s : Str) : Prop := ∀ c ∈ s.cps.toList, 97 ≤ c ∧ c ≤ 122
theorem letters_low : Low "abcdefghijklmnopqrstuvwxyz" := by unfold Low; decide +kernel
theorem letters_ix (i : Int) (h0 : 0 ≤ i) (h1 : i < 26) : ∃ c, (97 ≤ c ∧ c ≤ 122) ∧ ∀ L, semIx (.str "abcdefghijklmnopqrstuvwxyz") (.int i) L = some (.str ⟨#[c]⟩, L) := by
  have hl := letters_len
  have hlt : i.toNat < ("abcdefghijklmnopqrstuvwxyz" : Str).cps.toList.length := by rw [hl]; omega
  refine ⟨("abcdefghijklmnopqrstuvwxyz" : Str).cps.toList[i.toNat]'hlt, letters_low _ (List.getElem_mem hlt), fun L => ?_⟩
  rw [semIx_str, if_pos letters_small, atI_of h0 (by rw [hl]; omega), List.getElem?_eq_getElem hlt]
  rfl
theorem semAdd_str (a b : Str) (L : UH) (h : a.length + b.length ≤ 1000) : semAdd (.str a) (.str b) L = some (.str (a ++ b), L) := by
  show (if small (a.length + b.length) = true then _ else _) = _
  rw [if_pos (small_of (by omega))]
theorem one_len (c : Nat) : (⟨#[c]⟩ : Str).length = 1 := rfl
theorem mul_len (c : Nat) (j : Int) (h0 : 0 ≤ j) (h1 : j < 6) : (Txt.mul ⟨#[c]⟩ j).length ≤ 5 := by
  have : j = 0 ∨ j = 1 ∨ j = 2 ∨ j = 3 ∨ j = 4 ∨ j = 5 := by omega
  rcases this with rfl | rfl | rfl | rfl | rfl | rfl <;> simp [Txt.mul, Str.length, Str.empty, List.replicate]
theorem Low.app {a b : Str} (ha : Low a) (hb : Low b) : Low (a ++ b) := by
  intro c hc
  rw [Str.cps_append, Array.toList_append, List.mem_append] at hc
  exact hc.elim (ha c) (hb c)
theorem Low.one {c : Nat} (h : 97 ≤ c ∧ c ≤ 122) : Low ⟨#[c]⟩ := by
  intro x hx
  have : x = c := by simpa using hx
  subst this; exact h
theorem Low.mul {c : Nat} (h : 97 ≤ c ∧ c ≤ 122) (j : Int) (h0 : 0 ≤ j) (h1 : j < 6) : Low (Txt.mul ⟨#[c]⟩ j) := by
  intro x hx
  have : j = 0 ∨ j = 1 ∨ j = 2 ∨ j = 3 ∨ j = 4 ∨ j = 5 := by omega
  have : x = c := by rcases this with rfl | rfl | rfl | rfl | rfl | rfl <;> simp [Txt.mul, Str.length, Str.empty, List.replicate] at hx <;> omega
  subst this; exact h
/-- a name: one to eight small letters -/
def Nm (s : Str) : Prop := 1 ≤ s.length ∧ s.length ≤ 8 ∧ Low s
theorem semMul_str (c : Nat) (j : Int) (L : UH) (h0 : 0 ≤ j) (h1 : j < 6) : semMul (.str ⟨#[c]⟩) (.int j) L = some (.str (Txt.mul ⟨#[c]⟩ j), L) := by
  show (if (⟨#[c]⟩ : Str).length ≤ 1000 ∧ -1000 ≤ j ∧ j ≤ 1000 then _ else _) = _
  rw [if_pos ⟨by rw [one_len]; decide, by omega, by omega⟩]
theorem append_ok {L : UH} {n : Nat} {l : List U} (u : U) (h : L[n]? = some (.lst l)) (hl : l.length < 16777216) : semAppend (.ref n) [u] L = some (.non, L.set n (.lst (l ++ [u]))) := by
  show (lstAt L n).bind _ = _
  rw [lstAt_lst h]
  simp only [Option.bind_some]
  rw [if_pos (decide_eq_true (by unfold sizeLine; omega))]
theorem tyU_lst {L : UH} {n : Nat} {l : List U} (h : L[n]? = some (.lst l)) : tyU "list" (.ref n) L = true := by simp [tyU, h]
theorem names_turn {d f pc : Nat} {l : List U} {b w k n : Int} {x7 x8 x9 x10 x11 : Option U} {L : UH} (hpc : 97 ≤ pc ∧ pc ≤ 122) (hb : 0 ≤ b ∧ b < 600) (hk : 0 ≤ k ∧ k < 61) (hw : 0 ≤ w ∧ w < 4) (hf : L[f]? = some (.lst l)) (hl : l.length ≤ 100) :
    ∃ z x nm, b_l_names_3 [some (.ref d), some (.int n), some (.str "abcdefghijklmnopqrstuvwxyz"), some (.str ⟨#[pc]⟩), some (.int b), some (.int w), some (.ref f), some (.int k), x8, x9, x10, x11] L =
      some (.nx [some (.ref d), some (.int n), some (.str "abcdefghijklmnopqrstuvwxyz"), some (.str ⟨#[pc]⟩), some (.int b), some (.int w), some (.ref f), some (.int k), some z, some (.str nm), x10, x11], (L ++ x).set f (.lst (l ++ [.str nm]))) ∧ Nm nm := by
  obtain ⟨c1, w1, h1⟩ := letters_ix ((b + 7 * k) % 26) (by omega) (by omega)
  obtain ⟨c2, w2, h2⟩ := letters_ix ((b + 7 * k) / 26 % 26) (by omega) (by omega)
  obtain ⟨c3, w3, h3⟩ := letters_ix ((b + 7 * k) / 676) (by omega) (by omega)
  obtain ⟨c4, w4, h4⟩ := letters_ix (k % 26) (by omega) (by omega)
  have m1 : mulOk 7 k = true := mulOk_l (by decide) (by decide)
  have d1 : ∀ x : Int, divOk x 26 = true := fun x => divOk_of (by decide) (by decide)
  have d2 : ∀ x : Int, divOk x 676 = true := fun x => divOk_of (by decide) (by decide)
  have a1 : ∀ L, semAdd (.str ⟨#[c1]⟩) (.str ⟨#[c2]⟩) L = some (.str (⟨#[c1]⟩ ++ ⟨#[c2]⟩), L) := fun L => semAdd_str _ _ _ (by rw [one_len, one_len]; decide)
  have a2 : ∀ L, semAdd (.str (⟨#[c1]⟩ ++ ⟨#[c2]⟩)) (.str ⟨#[c3]⟩) L = some (.str (⟨#[c1]⟩ ++ ⟨#[c2]⟩ ++ ⟨#[c3]⟩), L) := fun L => semAdd_str _ _ _ (by rw [Str.length_append, one_len, one_len, one_len]; decide)
  have mm := mul_len pc (k % 6) (by omega) (by omega)
  have m2 : ∀ L, semMul (.str ⟨#[pc]⟩) (.int (k % 6)) L = some (.str (Txt.mul ⟨#[pc]⟩ (k % 6)), L) := fun L => semMul_str _ _ _ (by omega) (by omega)
  have a3 : ∀ L, semAdd (.str (Txt.mul ⟨#[pc]⟩ (k % 6))) (.str (⟨#[c1]⟩ ++ ⟨#[c2]⟩ ++ ⟨#[c3]⟩)) L = some (.str (Txt.mul ⟨#[pc]⟩ (k % 6) ++ (⟨#[c1]⟩ ++ ⟨#[c2]⟩ ++ ⟨#[c3]⟩)), L) := fun L => semAdd_str _ _ _ (by rw [Str.length_append, Str.length_append, one_len, one_len, one_len]; omega)
  have a4 : ∀ L, semAdd (.str (⟨#[c1]⟩ ++ ⟨#[c2]⟩ ++ ⟨#[c3]⟩)) (.str (Txt.mul ⟨#[pc]⟩ (k % 6))) L = some (.str ((⟨#[c1]⟩ ++ ⟨#[c2]⟩ ++ ⟨#[c3]⟩) ++ Txt.mul ⟨#[pc]⟩ (k % 6)), L) := fun L => semAdd_str _ _ _ (by rw [Str.length_append, Str.length_append, one_len, one_len, one_len]; omega)
  have lx : ("x" : Str).length = 1 := by decide +kernel
  have ly : ("xy" : Str).length = 2 := by decide +kernel
  have a5 : ∀ L, semAdd (.str ⟨#[c4]⟩) (.str "x") L = some (.str (⟨#[c4]⟩ ++ "x"), L) := fun L => semAdd_str _ _ _ (by rw [one_len, lx]; decide)
  have a6 : ∀ L, semAdd (.str ⟨#[c4]⟩) (.str "xy") L = some (.str (⟨#[c4]⟩ ++ "xy"), L) := fun L => semAdd_str _ _ _ (by rw [one_len, ly]; decide)
  have lx' : Low "x" := by unfold Low; decide +kernel
  have ly' : Low "xy" := by unfold Low; decide +kernel
  have lm := Low.mul hpc (k % 6) (by omega) (by omega)
  have l3 := ((Low.one w1).app (Low.one w2)).app (Low.one w3)
  have n3 : ((⟨#[c1]⟩ ++ ⟨#[c2]⟩ ++ ⟨#[c3]⟩ : Str)).length = 3 := by rw [Str.length_append, Str.length_append]; rfl
  have ty := tyU_lst hf
  have ap := fun u => append_ok u hf (by omega)
  have hw' : w = 0 ∨ w = 1 ∨ w = 2 ∨ w = 3 := by omega
  rcases hw' with rfl | rfl | rfl | rfl
  · refine ⟨.int (b + 7 * k), [], ⟨#[c1]⟩ ++ ⟨#[c2]⟩ ++ ⟨#[c3]⟩, ?_, by omega, by omega, l3⟩
    simp [b_l_names_3, m1, d1, d2, h1, h2, h3, a1, a2, ty, ap]
  · refine ⟨.int (b + 7 * k), [], Txt.mul ⟨#[pc]⟩ (k % 6) ++ (⟨#[c1]⟩ ++ ⟨#[c2]⟩ ++ ⟨#[c3]⟩), ?_, by rw [Str.length_append]; omega, by rw [Str.length_append]; omega, lm.app l3⟩
    simp [b_l_names_3, m1, d1, d2, h1, h2, h3, a1, a2, m2, a3, ty, ap]
  · refine ⟨.int (b + 7 * k), [], (⟨#[c1]⟩ ++ ⟨#[c2]⟩ ++ ⟨#[c3]⟩) ++ Txt.mul ⟨#[pc]⟩ (k % 6), ?_, by rw [Str.length_append]; omega, by rw [Str.length_append]; omega, l3.app lm⟩
    simp [b_l_names_3, m1, d1, d2, h1, h2, h3, a1, a2, m2, a4, ty, ap]
  · have hq : ∃ nm : Str, L2.atI [U.str ⟨#[c4]⟩, U.str (⟨#[c4]⟩ ++ "x"), U.str (⟨#[c4]⟩ ++ "xy")] (k / 26) = some (.str nm) ∧ Nm nm := by
      have : k / 26 = 0 ∨ k / 26 = 1 ∨ k / 26 = 2 := by omega
      have e1 := one_len c4
      rcases this with e | e | e <;> rw [e]
      · exact ⟨_, rfl, by omega, by omega, Low.one w4⟩
      · exact ⟨_, rfl, by rw [Str.length_append]; omega, by rw [Str.length_append]; omega, (Low.one w4).app lx'⟩
      · exact ⟨_, rfl, by rw [Str.length_append]; omega, by rw [Str.length_append]; omega, (Low.one w4).app ly'⟩
    obtain ⟨nm, hq, hnm⟩ := hq
    have hf2 : (L ++ [HU.lst [U.str ⟨#[c4]⟩, U.str (⟨#[c4]⟩ ++ "x"), U.str (⟨#[c4]⟩ ++ "xy")]])[f]? = some (.lst l) := by rw [List.getElem?_append_left (List.getElem?_eq_some_iff.mp hf).1]; exact hf
    have ty2 := tyU_lst hf2
    have ap2 := fun u => append_ok u hf2 (by omega)
    have q1 : seqAt (L ++ [HU.lst [U.str ⟨#[c4]⟩, U.str (⟨#[c4]⟩ ++ "x"), U.str (⟨#[c4]⟩ ++ "xy")]]) L.length = some [U.str ⟨#[c4]⟩, U.str (⟨#[c4]⟩ ++ "x"), U.str (⟨#[c4]⟩ ++ "xy")] := seqAt_lst (by simp)
    refine ⟨.int (b + 7 * k), [HU.lst [U.str ⟨#[c4]⟩, U.str (⟨#[c4]⟩ ++ "x"), U.str (⟨#[c4]⟩ ++ "xy")]], nm, ?_, hnm⟩
    simp [b_l_names_3, m1, d1, d2, h1, h2, h3, h4, a1, a2, a5, a6, small_of, q1, hq, ty2, ap2]

end Lw

set_option Elab.async false
set_option linter.all false
set_option maxRecDepth 100000
set_option maxHeartbeats 1000000
namespace Lw
open PySem L2 MR
theorem pop_ok {L : UH} {n : Nat} {l : List U} {i : Int} (h : L[n]? = some (.lst l)) (h0 : 0 ≤ i) (h1 : i < l.length) (hs : l.length < 1000000) : semPop (.ref n) [.int i] L = some (l[i.toNat]'(by omega), L.set n (.lst (l.eraseIdx i.toNat))) := by
  have hk : seqIndex? i l.length = some i.toNat := by unfold seqIndex?; simp; omega
  have hg : l[i.toNat]? = some (l[i.toNat]'(by omega)) := List.getElem?_eq_getElem (by omega)
  simp only [semPop, lstAt_lst h, Option.bind_some, hk, hg, Option.map_some]
  rw [if_pos ⟨by omega, by omega⟩]
theorem len_lst {L : UH} {n : Nat} {l : List U} (h : L[n]? = some (.lst l)) : semLen [.ref n] L = some (.int l.length, L) := by simp [semLen, lenU, seqAt_lst h]
theorem eraseIdx_mapU {β γ : Type} (f : β → γ) (l : List β) (i : Nat) : (l.map f).eraseIdx i = (l.eraseIdx i).map f := by
  rw [List.eraseIdx_eq_take_drop_succ, List.eraseIdx_eq_take_drop_succ, List.map_append, List.map_take, List.map_drop]
/-- `[left.pop(_law_next(deck, len(left))) for k in ..]`, a turn -/
theorem erase_perm {β : Type} : ∀ (l : List β) (i : Nat) (h : i < l.length), (l[i]'h :: l.eraseIdx i).Perm l
  | a :: l, 0, _ => by simp
  | a :: l, i + 1, h => by
    have ih := erase_perm l i (by simpa using h)
    simp only [List.getElem_cons_succ, List.eraseIdx_cons_succ]
    exact (List.Perm.swap _ _ _).trans (ih.cons a)
theorem pop_turnP {β : Type} (rep : β → U) {L : UH} {d n : Nat} {B : Int} {l : List β} (D : Deck L d B) (hB : B ≤ 10000000000000000) (hd : d < n) (h : L[n]? = some (.lst (l.map rep))) (hl : 0 < l.length) (hs : l.length < 1000) (x0 : Option U) :
    ∃ (r : β) (L' : UH) (l' : List β), (fMeth "list" semPop (fVar 1) (fCons (fOwn 2 m_l_next (fCons (fVar 2) (fCons (fCall semLen (fCons (fVar 1) fNil)) fNil))) fNil)) [x0, some (.ref n), some (.ref d)] L = some (rep r, L') ∧ Deck L' d (B + 1) ∧ L'[n]? = some (.lst (l'.map rep)) ∧ l'.length + 1 = l.length ∧ r ∈ l ∧ (∀ y ∈ l', y ∈ l) ∧ (∀ L0, Ex d L0 L → L0.length ≤ n → Ex d L0 L') ∧ (r :: l').Perm l := by
  obtain ⟨i, L1, e1, i0, i1, D1, x1⟩ := next_ok (many := ((l.map rep).length : Nat)) D (by omega) (by simp; omega) (by simp; omega)
  have h' : L1[n]? = some (.lst (l.map rep)) := x1.get h (by omega)
  have hi : i < l.length := by simpa using i1
  have hp := pop_ok h' i0 i1 (by simp; omega)
  refine ⟨l[i.toNat]'(by omega), L1.set n (.lst ((l.map rep).eraseIdx i.toNat)), l.eraseIdx i.toNat, ?_, D1.set hd _, ?_, ?_, List.getElem_mem _, fun y hy => List.mem_of_mem_eraseIdx hy, fun L0 x0 hn => (x0.trans x1).set hn _, erase_perm l i.toNat (by omega)⟩
  · have ty := tyU_lst h
    have e1' := e1
    simp only [List.length_map] at e1'
    simp [ty, len_lst h, e1', hp]
  · rw [List.getElem?_set_self (by have := (List.getElem?_eq_some_iff.mp h').1; exact this)]
    rw [eraseIdx_mapU]
  · rw [List.length_eraseIdx, if_pos (by omega)]; omega
theorem pop_turn {β : Type} (rep : β → U) {L : UH} {d n : Nat} {B : Int} {l : List β} (D : Deck L d B) (hB : B ≤ 10000000000000000) (hd : d < n) (h : L[n]? = some (.lst (l.map rep))) (hl : 0 < l.length) (hs : l.length < 1000) (x0 : Option U) :
    ∃ (r : β) (L' : UH) (l' : List β), (fMeth "list" semPop (fVar 1) (fCons (fOwn 2 m_l_next (fCons (fVar 2) (fCons (fCall semLen (fCons (fVar 1) fNil)) fNil))) fNil)) [x0, some (.ref n), some (.ref d)] L = some (rep r, L') ∧ Deck L' d (B + 1) ∧ L'[n]? = some (.lst (l'.map rep)) ∧ l'.length + 1 = l.length ∧ r ∈ l ∧ (∀ y ∈ l', y ∈ l) ∧ (∀ L0, Ex d L0 L → L0.length ≤ n → Ex d L0 L') := by
  obtain ⟨r, L', l', h1, h2, h3, h4, h5, h6, h7, _⟩ := pop_turnP rep D hB hd h hl hs x0
  exact ⟨r, L', l', h1, h2, h3, h4, h5, h6, h7⟩
theorem toV_strs (l : List Str) : mapO toV (l.map U.str) = some (l.map L2.V.str) := by
  induction l with
  | nil => rfl
  | cons a r ih => simp [mapO, toV, ih]
theorem inV_str (s : Str) (l : List Str) : inV (.str s) (l.map L2.V.str) = decide (s ∈ l) := by
  induction l with
  | nil => rfl
  | cons a r ih =>
    have h1 : inV (.str s) (List.map L2.V.str (a :: r)) = (eqV (.str a) (.str s) || inV (.str s) (r.map L2.V.str)) := rfl
    have h2 : eqV (.str a) (.str s) = (a == s) := rfl
    rw [h1, ih, h2]
    by_cases h : a = s
    · simp [h]
    · have h' : ¬ s = a := fun z => h z.symm
      simp [h, h']
theorem cutU_take (l : List U) (k : Nat) : cutU l none (some (k : Int)) = l.take k := by
  unfold cutU
  rw [HT.sIx_none, HT.sIx_nat, List.drop_zero, Nat.sub_zero]
  by_cases hk : k ≤ l.length
  · rw [Nat.min_eq_left hk]
  · rw [Nat.min_eq_right (by omega), List.take_length, List.take_of_length_le (by omega)]
/-- the drawn names -/
theorem names_ok {L : UH} {d : Nat} {B n : Int} (D : Deck L d B) (hB : B ≤ 1000000000000000) (hn : 0 ≤ n ∧ n ≤ 60) :
    ∃ (r : Nat) (ns : List Str) (L' : UH), m_l_names [.ref d, .int n] L = some (.ref r, L') ∧ L'[r]? = some (.lst (ns.map U.str)) ∧ L.length ≤ r ∧ (∀ s ∈ ns, Nm s) ∧ ns.Nodup ∧ ns.length ≤ n.toNat ∧ Deck L' d (B + 63) ∧ Ex d L L' := by
  obtain ⟨p1, L1, e1, a1, b1, D1, x1⟩ := next_ok (many := 26) D (by omega) (by decide) (by decide)
  obtain ⟨pc, hpc, hpad⟩ := letters_ix p1 a1 b1
  obtain ⟨bg, L2, e2, a2, b2, D2, x2⟩ := next_ok (many := 600) D1 (by omega) (by decide) (by decide)
  obtain ⟨w, L3, e3, a3, b3, D3, x3⟩ := next_ok (many := 4) D2 (by omega) (by decide) (by decide)
  have x13 : Ex d L L3 := x1.trans (x2.trans x3)
  have hdl := D.lt
  have hle := x13.le
  -- the names in their first order
  obtain ⟨δ4, L4, e4, P4⟩ := for_seq (us := rangeU 0 n.toNat) (L0 := L3 ++ [.lst []]) (L := L3 ++ [.lst []]) (δ := [some (.ref d), some (.int n), some (.str "abcdefghijklmnopqrstuvwxyz"), some (.str ⟨#[pc]⟩), some (.int bg), some (.int w), some (.ref L3.length), none, none, none, none, none]) (body := b_l_names_3) (g := gN 7) (fi := fRng1 (fCons (fVar 1) fNil))
    (fun k δ' L' => ∃ y7 y8 y9 fs, δ' = [some (.ref d), some (.int n), some (.str "abcdefghijklmnopqrstuvwxyz"), some (.str ⟨#[pc]⟩), some (.int bg), some (.int w), some (.ref L3.length), y7, y8, y9, none, none] ∧ L'[L3.length]? = some (.lst (fs.map U.str)) ∧ fs.length = k ∧ (∀ s ∈ fs, Nm s) ∧ Deck L' d (B + 3) ∧ Ex d L L')
    (by simp; omega)
    ⟨none, none, none, [], rfl, by simp, rfl, by simp, (D3.new _).mono (by omega), x13.trans (Ex.new d L3 _)⟩
    (fun k u δ L' hu ⟨y7, y8, y9, fs, hδ, hf, hl, hN, DD, xx⟩ => by
      subst hδ
      obtain ⟨hk, rfl⟩ := rangeU_get hu
      obtain ⟨z, x, nm, e, hnm⟩ := names_turn (d := d) (n := n) (x7 := y7) (x8 := y8) (x9 := y9) (x10 := none) (x11 := none) (k := 0 + (k : Int)) (b := bg) (w := w) hpc ⟨a2, b2⟩ ⟨by omega, by omega⟩ ⟨a3, b3⟩ hf (by simp; omega)
      refine ⟨_, _, rfl, _, _, .inl e, _, _, _, fs ++ [nm], rfl, ?_, by simp; omega, ?_, (DD.new x).set (by omega) _, (xx.trans (Ex.new d L' x)).set (by omega) _⟩
      · have : L3.length < (L' ++ x).length := by have := (List.getElem?_eq_some_iff.mp hf).1; simp; omega
        rw [List.getElem?_set_self this]; simp
      · intro s hs
        rcases List.mem_append.mp hs with h | h
        · exact hN s h
        · have : s = nm := by simpa using h
          rw [this]; exact hnm)
  obtain ⟨y7, y8, y9, fs, hδ4, hf4, hl4, hN4, D4, x4⟩ := P4
  rw [rangeU_len] at hl4
  -- mixed
  obtain ⟨ts', δ5, L5, e5, P5⟩ := fcomp (us := rangeU 0 n.toNat) (it := .seq (rangeU 0 n.toNat)) (L0 := L4 ++ [.lst (fs.map U.str)]) (L := L4 ++ [.lst (fs.map U.str)]) (ix := [none, some 10, some 0]) (δ := [some (.ref d), some (.int n), some (.str "abcdefghijklmnopqrstuvwxyz"), some (.str ⟨#[pc]⟩), some (.int bg), some (.int w), some (.ref L3.length), y7, y8, y9, some (.ref L4.length), none]) (fe := b_l_names_2e) (tt := none) (g := gN 0) (fi := fRng1 (fCons (fVar 1) fNil))
    (fun k acc δ' L' => ∃ y0 ts ls, δ' = [y0, some (.ref L4.length), some (.ref d)] ∧ acc = ts.map U.str ∧ ts.length = k ∧ L'[L4.length]? = some (.lst (ls.map U.str)) ∧ ls.length + k = n.toNat ∧ (∀ s ∈ ts, Nm s) ∧ (∀ s ∈ ls, Nm s) ∧ Deck L' d (B + 3 + k) ∧ Ex d L L')
    (by simp; omega) (by simp [IU.size])
    ⟨none, [], fs, rfl, rfl, rfl, by simp, by omega, by simp, hN4, (D4.new _).mono (by omega), x4.trans (Ex.new d L4 _)⟩
    (fun k acc δ L _ _ => rfl)
    (fun k u acc δ L' hu ⟨y0, ts, ls, hδ, hacc, hts, hls, hlen, h1, h2, DD, xx⟩ => by
      subst hδ
      obtain ⟨hk, rfl⟩ := rangeU_get hu
      have hd4 : d < L4.length := by have := D4.lt; omega
      obtain ⟨r, M, ls', e, DM, hM, hl', hr, hsub, hx⟩ := pop_turn U.str DD (by omega) hd4 hls (by omega) (by omega) (some (.int (0 + (k : Int))))
      refine ⟨_, _, rfl, true, L', rfl, fun _ => ⟨_, M, e, ?_, _, ts ++ [r], ls', rfl, ?_, ?_, hM, by omega, ?_, fun s hs => h2 s (hsub s hs), DM.mono (by omega), hx L xx (by have := x4.le; omega)⟩, fun h => by cases h⟩
      · rw [hacc]; simp; omega
      · rw [hacc]; simp
      · simp; omega
      · intro s hs
        rcases List.mem_append.mp hs with h | h
        · exact h1 s h
        · have : s = r := by simpa using h
          rw [this]; exact h2 r hr)
  obtain ⟨y0, ts, ls, hδ5, hts, hlt, _, _, hN5, _, D5, x5⟩ := P5
  rw [rangeU_len] at hlt D5
  subst hts
  -- each once
  have q5 : seqAt (L5 ++ [HU.lst (ts.map U.str)]) L5.length = some (ts.map U.str) := seqAt_lst (by simp)
  obtain ⟨rs', δ6, L6, e6, P6⟩ := fcomp (us := enU (ts.map U.str)) (it := .enm L5.length) (L0 := L5 ++ [.lst (ts.map U.str)]) (L := L5 ++ [.lst (ts.map U.str)]) (ix := [none, none, some 11]) (δ := [some (.ref d), some (.int n), some (.str "abcdefghijklmnopqrstuvwxyz"), some (.str ⟨#[pc]⟩), some (.int bg), some (.int w), some (.ref L3.length), y7, y8, y9, some (.ref L4.length), some (.ref L5.length)]) (fe := b_l_names_1e) (tt := some b_l_names_1t) (g := (MR.gTup 2 (MR.gCons (gN 0) (MR.gCons (gN 1) MR.gNil)))) (fi := fEnum (fCons (fVar 11) fNil))
    (fun k acc δ' L' => ∃ y0 y1 rs x, δ' = [y0, y1, some (.ref L5.length)] ∧ acc = rs.map U.str ∧ rs.length ≤ k ∧ (∀ s ∈ rs, s ∈ ts.take k) ∧ rs.Nodup ∧ L' = L5 ++ [.lst (ts.map U.str)] ++ x)
    (by simp [q5]) (by rw [size_enm q5]; exact Nat.le_refl _)
    ⟨none, none, [], [], rfl, rfl, by simp, by simp, by simp, by simp⟩
    (fun k acc δ L _ ⟨_, _, _, x, _, _, _, _, _, hL⟩ => by rw [hL]; exact at_enm (seqAt_app q5))
    (fun k u acc δ L' hu ⟨y0, y1, rs, x, hδ, hacc, hrl, hsub, hnd, hL⟩ => by
      subst hδ
      unfold enU at hu
      rw [List.getElem?_mapIdx, List.getElem?_map] at hu
      obtain ⟨v, hv, rfl⟩ := Option.map_eq_some_iff.mp hu
      obtain ⟨s, hs, rfl⟩ := Option.map_eq_some_iff.mp hv
      have hklt := (List.getElem?_eq_some_iff.mp hs).1
      have htk : ts.take (k + 1) = ts.take k ++ [s] := by rw [List.take_add_one, hs]; rfl
      have qL : seqAt L' L5.length = some (ts.map U.str) := by rw [hL]; exact seqAt_app q5
      have q7 : seqAt (L' ++ [HU.lst ((ts.take k).map U.str)]) L'.length = some ((ts.take k).map U.str) := seqAt_lst (by simp)
      have hcut : cutU (ts.map U.str) none (some (k : Int)) = (ts.take k).map U.str := by rw [cutU_take, List.map_take]
      have htest : testU (some b_l_names_1t) [some (.int k), some (.str s), some (.ref L5.length)] L' = some (!decide (s ∈ ts.take k), L' ++ [HU.lst ((ts.take k).map U.str)]) := by
        simp [-List.map_take, testU, b_l_names_1t, semSl, qL, hcut, semIn, q7, toV, toV_strs, inV_str]
      refine ⟨_, _, rfl, _, _, htest, fun hb => ?_, fun hb => ?_⟩
      · have hns : s ∉ ts.take k := by simpa using hb
        refine ⟨.str s, _, rfl, by rw [hacc]; simp; omega, _, _, rs ++ [s], x ++ [HU.lst ((ts.take k).map U.str)], rfl, by rw [hacc]; simp, by simp; omega, ?_, ?_, by rw [hL]; simp⟩
        · intro z hz
          rw [htk]
          rcases List.mem_append.mp hz with h | h
          · exact List.mem_append_left _ (hsub z h)
          · exact List.mem_append_right _ h
        · rw [List.nodup_append]
          refine ⟨hnd, by simp, fun a ha b hb => ?_⟩
          have : b = s := by simpa using hb
          rw [this]
          intro hab
          rw [hab] at ha
          exact hns (hsub s ha)
      · refine ⟨_, _, rs, x ++ [HU.lst ((ts.take k).map U.str)], rfl, hacc, by omega, fun z hz => ?_, hnd, by rw [hL]; simp⟩
        rw [htk]
        exact List.mem_append_left _ (hsub z hz))
  obtain ⟨y0', y1', rs, x, hδ6, hrs, hrl, hsub, hnd, hL6⟩ := P6
  subst hrs
  have hlen6 : rs.length ≤ ts.length := by simpa [enU] using hrl
  refine ⟨L6.length, rs, L6 ++ [.lst (rs.map U.str)], ?_, by simp, ?_, fun s hs => hN5 s (List.mem_of_mem_take (hsub s hs)), hnd, by omega, ?_, ?_⟩
  · have ql : seqAt L4 L3.length = some (fs.map U.str) := seqAt_lst hf4
    have hlist : semList [.ref L3.length] L4 = some (.ref L4.length, L4 ++ [.lst (fs.map U.str)]) := by simp [semList, ql]
    rw [hδ4] at e4
    simp [m_l_names, fnU, b_l_names, -fFor_eq, e1, hpad, e2, e3, small_of, e4, hlist, e5, e6, List.replicate]
  · rw [hL6]; have := x5.le; simp; omega
  · rw [hL6]; exact ((((D5.new _).new _).new _).mono (by omega))
  · rw [hL6]; exact x5.trans ((Ex.new d L5 _).trans ((Ex.new d _ _).trans (Ex.new d _ _)))

end Lw

set_option Elab.async false
set_option linter.all false
set_option maxRecDepth 100000
set_option maxHeartbeats 1000000
namespace Lw
open PySem L2 MR
def pr (p : Int × Int) : U := .tup [.int p.1, .int p.2]
def Pb (p : Int × Int) : Prop := (-9999999999 ≤ p.1 ∧ p.1 ≤ 9999999999) ∧ (-9999999999 ≤ p.2 ∧ p.2 ≤ 9999999999)
theorem pl_pr (n : Nat) (p : Int × Int) : Pl (n + 1) (pr p) := by
  unfold pr
  rw [pl_tup]
  intro u hu
  simp only [List.mem_cons, List.not_mem_nil, or_false] at hu
  rcases hu with rfl | rfl <;> exact Pl.int _ _
def pl_rest : FS := (fSeq (fIfS (fAnd (fTest (f2 semEq (fOwn 2 m_l_next (fCons (fVar 0) (fCons (fC (.int 6)) fNil))) (fC (.int 0)))) (fTest (f2 semNe (fVar 6) (fLst fNil)))) (fAsg (f2 semIx (fVar 6) (fOwn 2 m_l_next (fCons (fVar 0) (fCons (fCall semLen (fCons (fVar 6) fNil)) fNil)))) (gN 8)) fNext) (fDrop (fMeth "list" semAppend (fVar 6) (fCons (fVar 8) fNil))))
theorem rest_ok {L : UH} {d f s : Nat} {B : Int} {x1 x2 x3 x4 x7 : Option U} {fs ss : List (Int × Int)} {p : Int × Int} (D : Deck L d B) (hB : B ≤ 10000000000000000) (hdf : d < f) (hds : d < s) (hsf : s ≠ f) (hf : L[f]? = some (.lst (fs.map pr))) (hs : L[s]? = some (.lst (ss.map pr))) (hl : fs.length ≤ 100) (hp : Pb p) (hfs : ∀ q ∈ fs, Pb q) :
    ∃ q L', pl_rest [some (.ref d), x1, x2, x3, x4, some (.ref s), some (.ref f), x7, some (pr p)] L = some (.nx [some (.ref d), x1, x2, x3, x4, some (.ref s), some (.ref f), x7, some (pr q)], L') ∧ Pb q ∧ L'[f]? = some (.lst ((fs ++ [q]).map pr)) ∧ L'[s]? = some (.lst (ss.map pr)) ∧ Deck L' d (B + 2) ∧ (∀ L0, Ex d L0 L → L0.length ≤ f → Ex d L0 L') := by
  obtain ⟨i, L1, e1, a1, b1, D1, x1'⟩ := next_ok (many := 6) D (by omega) (by decide) (by decide)
  have hf1 := x1'.get hf (by omega)
  have hs1 := x1'.get hs (by omega)
  -- append at the end
  have fin : ∀ (M : UH) (q : Int × Int) (hM : M[f]? = some (.lst (fs.map pr))), (fDrop (fMeth "list" semAppend (fVar 6) (fCons (fVar 8) fNil))) [some (.ref d), x1, x2, x3, x4, some (.ref s), some (.ref f), x7, some (pr q)] M = some (.nx [some (.ref d), x1, x2, x3, x4, some (.ref s), some (.ref f), x7, some (pr q)], M.set f (.lst ((fs ++ [q]).map pr))) := fun M q hM => by
    have ap := append_ok (pr q) hM (by simp; omega)
    simp [tyU_lst hM, ap]
  have out : ∀ (M : UH) (q : Int × Int), M[f]? = some (.lst (fs.map pr)) → M[s]? = some (.lst (ss.map pr)) → Deck M d (B + 2) → (∀ L0, Ex d L0 L → L0.length ≤ f → Ex d L0 M) → Pb q → (M.set f (.lst ((fs ++ [q]).map pr)))[f]? = some (.lst ((fs ++ [q]).map pr)) ∧ (M.set f (.lst ((fs ++ [q]).map pr)))[s]? = some (.lst (ss.map pr)) ∧ Deck (M.set f (.lst ((fs ++ [q]).map pr))) d (B + 2) ∧ (∀ L0, Ex d L0 L → L0.length ≤ f → Ex d L0 (M.set f (.lst ((fs ++ [q]).map pr)))) := fun M q h1 h2 h3 h4 h5 =>
    ⟨List.getElem?_set_self (List.getElem?_eq_some_iff.mp h1).1, by rw [List.getElem?_set_ne (Ne.symm hsf)]; exact h2, h3.set hdf _, fun L0 h hn => (h4 L0 h hn).set hn _⟩
  by_cases hi : i = 0
  · subst hi
    have hq : seqAt (L1 ++ [HU.lst []]) f = some (fs.map pr) := seqAt_app (seqAt_lst hf1)
    have hq2 : seqAt (L1 ++ [HU.lst []]) L1.length = some [] := seqAt_lst (by simp)
    have hne := semNe_lst (L := L1 ++ [HU.lst []]) hq hq2 (fun u hu => by obtain ⟨a, _, rfl⟩ := List.mem_map.mp hu; exact pl_pr 5 a) (fun u hu => by simp at hu)
    by_cases hfs0 : fs = []
    · have hb : eqBs (fs.map pr) [] = true := by rw [hfs0]; rfl
      have hf2 : (L1 ++ [HU.lst []])[f]? = some (.lst (fs.map pr)) := by rw [List.getElem?_append_left (List.getElem?_eq_some_iff.mp hf1).1]; exact hf1
      have hs2 : (L1 ++ [HU.lst []])[s]? = some (.lst (ss.map pr)) := by rw [List.getElem?_append_left (List.getElem?_eq_some_iff.mp hs1).1]; exact hs1
      obtain ⟨o1, o2, o3, o4⟩ := out (L1 ++ [HU.lst []]) p hf2 hs2 ((D1.new _).mono (by omega)) (fun L0 h _ => h.trans (x1'.trans (Ex.new d L1 _))) hp
      have fi := fin _ p hf2
      refine ⟨p, _, ?_, hp, o1, o2, o3, o4⟩
      unfold pl_rest
      rw [fSeq_eq]
      simp only [fIfS_eq, fAnd_eq, fTest_eq, f2_eq, fOwn_eq, fCons_eq, fVar_eq, fC_eq, fNil_eq, fLst_eq, List.getElem?_cons_zero, List.getElem?_cons_succ, Option.join_some, Option.map_some, Option.bind_some, List.length_cons, List.length_nil, if_true, e1, semEq_int, small_of (by omega : 0 ≤ 16777216), hne, hb, fNext_eq]
      simpa using fi
    · have hpos : 0 < fs.length := List.length_pos_iff.mpr hfs0
      have hb : eqBs (fs.map pr) [] = false := by
        cases fs with
        | nil => exact absurd rfl hfs0
        | cons _ _ => rfl
      have hf2 : (L1 ++ [HU.lst []])[f]? = some (.lst (fs.map pr)) := by rw [List.getElem?_append_left (List.getElem?_eq_some_iff.mp hf1).1]; exact hf1
      have hs2 : (L1 ++ [HU.lst []])[s]? = some (.lst (ss.map pr)) := by rw [List.getElem?_append_left (List.getElem?_eq_some_iff.mp hs1).1]; exact hs1
      obtain ⟨j, M, e2, a2, b2, D2, x2'⟩ := next_ok (many := ((fs.map pr).length : Nat)) (D1.new [HU.lst []]) (by omega) (by simp; omega) (by simp; omega)
      have hf3 := x2'.get hf2 (by omega)
      have hs3 := x2'.get hs2 (by omega)
      have hj : j.toNat < fs.length := by simp at b2; omega
      have hat : L2.atI (fs.map pr) j = some (pr (fs[j.toNat]'hj)) := by rw [atI_of a2 b2, List.getElem?_map, List.getElem?_eq_getElem hj]; rfl
      obtain ⟨o1, o2, o3, o4⟩ := out M (fs[j.toNat]'hj) hf3 hs3 (D2.mono (by omega)) (fun L0 h _ => h.trans (x1'.trans ((Ex.new d L1 _).trans x2'))) (hfs _ (List.getElem_mem hj))
      have fi := fin _ (fs[j.toNat]'hj) hf3
      refine ⟨fs[j.toNat]'hj, _, ?_, hfs _ (List.getElem_mem hj), o1, o2, o3, o4⟩
      have q3 := seqAt_lst hf2
      have len := len_lst hf2
      have q4 := seqAt_lst hf3
      have ap := append_ok (pr (fs[j.toNat]'hj)) hf3 (by simp; omega)
      simp only [List.length_map] at e2 len
      simp [pl_rest, e1, small_of, hne, hb, len, e2, q4, hat, tyU_lst hf3, ap]
  · obtain ⟨o1, o2, o3, o4⟩ := out L1 p hf1 hs1 (D1.mono (by omega)) (fun L0 h _ => h.trans x1') hp
    have fi := fin _ p hf1
    refine ⟨p, _, ?_, hp, o1, o2, o3, o4⟩
    have hib : (i == 0) = false := by simpa using hi
    unfold pl_rest
    rw [fSeq_eq]
    simp only [fIfS_eq, fAnd_eq, fTest_eq, f2_eq, fOwn_eq, fCons_eq, fVar_eq, fC_eq, fNil_eq, List.getElem?_cons_zero, List.getElem?_cons_succ, Option.join_some, Option.map_some, Option.bind_some, List.length_cons, List.length_nil, if_true, e1, semEq_int, hib, fNext_eq]
    simpa using fi

end Lw

set_option Elab.async false
set_option linter.all false
set_option maxRecDepth 100000
set_option maxHeartbeats 1000000
namespace Lw
open PySem L2 MR
theorem places_split : b_l_places_1 = (fSeq (fAsg (fTup (fCons (fOwn 2 m_l_number (fCons (fVar 0) (fCons (fVar 3) fNil))) (fCons (fOwn 2 m_l_number (fCons (fVar 0) (fCons (fVar 3) fNil))) fNil))) (gN 8)) (fSeq (fIfS (fTest (f2 semEq (fVar 4) (fC (.int 1)))) (fAsg (fTup (fCons (f2 semDiv (fVar 7) (fC (.int 2))) (fCons (f2 semSub (fVar 7) (f2 semDiv (fVar 7) (fC (.int 3)))) fNil))) (gN 8)) fNext) (fSeq (fIfS (fTest (f2 semEq (fVar 4) (fC (.int 2)))) (fAsg (fTup (fCons (f2 semDiv (fVar 7) (fC (.int 2))) (fCons (f2 semSub (fC (.int 0)) (fVar 7)) fNil))) (gN 8)) fNext) (fSeq (fIfS (fTest (f2 semEq (fVar 4) (fC (.int 3)))) (fAsg (fTup (fCons (f2 semIx (fVar 8) (fC (.int 0))) (fCons (f2 semIx (f2 semIx (fVar 5) (fC (.int 0))) (fC (.int 1))) fNil))) (gN 8)) fNext) (fSeq (fIfS (fTest (f2 semEq (fVar 4) (fC (.int 4)))) (fAsg (f2 semIx (fVar 5) (fOwn 2 m_l_next (fCons (fVar 0) (fCons (fC (.int 2)) fNil)))) (gN 8)) fNext) pl_rest))))) := rfl
theorem places_turn {L : UH} {d f s : Nat} {B k kind way : Int} {x1 x2 x8 : Option U} {fs ss : List (Int × Int)} (D : Deck L d B) (hB : B ≤ 1000000000000000) (hdf : d < f) (hds : d < s) (hsf : s ≠ f) (hf : L[f]? = some (.lst (fs.map pr))) (hs : L[s]? = some (.lst (ss.map pr))) (hl : fs.length ≤ 100) (hfs : ∀ q ∈ fs, Pb q) (hss : ∀ q ∈ ss, Pb q) (hs2 : ss.length = 2) (hk : 0 ≤ k ∧ k ≤ 100) (hki : kind = 0 ∨ kind = 1 ∨ kind = 2) :
    ∃ q L', b_l_places_1 [some (.ref d), x1, x2, some (.int kind), some (.int way), some (.ref s), some (.ref f), some (.int k), x8] L = some (.nx [some (.ref d), x1, x2, some (.int kind), some (.int way), some (.ref s), some (.ref f), some (.int k), some (pr q)], L') ∧ Pb q ∧ L'[f]? = some (.lst ((fs ++ [q]).map pr)) ∧ L'[s]? = some (.lst (ss.map pr)) ∧ Deck L' d (B + 9) ∧ (∀ L0, Ex d L0 L → L0.length ≤ f → Ex d L0 L') := by
  obtain ⟨r1, L1, e1, a1, b1, D1, y1⟩ := number_ok D (by omega) hki
  obtain ⟨r2, K2, e2, a2, b2, D2, y2⟩ := number_ok D1 (by omega) hki
  have y12 := y1.trans y2
  have hf2 := y12.get hf (by omega)
  have hs2' := y12.get hs (by omega)
  have q2 := seqAt_lst hs2'
  have dv2 : ∀ x : Int, divOk x 2 = true := fun x => divOk_of (by decide) (by decide)
  have dv3 : ∀ x : Int, divOk x 3 = true := fun x => divOk_of (by decide) (by decide)
  have h0 : ∀ a b : Int, L2.atI [U.int a, .int b] 0 = some (.int a) := fun _ _ => rfl
  have h1 : ∀ a b : Int, L2.atI [U.int a, .int b] 1 = some (.int b) := fun _ _ => rfl
  obtain ⟨s0, s1, rfl⟩ : ∃ s0 s1, ss = [s0, s1] := by
    match ss, hs2 with
    | [s0, s1], _ => exact ⟨s0, s1, rfl⟩
  have hb0 := hss s0 (by simp)
  have hb1 := hss s1 (by simp)
  have g0 : L2.atI [U.tup [U.int s0.1, U.int s0.2], U.tup [U.int s1.1, U.int s1.2]] 0 = some (U.tup [U.int s0.1, U.int s0.2]) := rfl
  have q2' : seqAt K2 s = some [U.tup [U.int s0.1, U.int s0.2], U.tup [U.int s1.1, U.int s1.2]] := q2
  have fin : ∀ (p : Int × Int) (M : UH) (B' : Int), Deck M d B' → B' ≤ B + 7 → Ex d L M → Pb p → ∃ q L', pl_rest [some (.ref d), x1, x2, some (.int kind), some (.int way), some (.ref s), some (.ref f), some (.int k), some (pr p)] M = some (.nx [some (.ref d), x1, x2, some (.int kind), some (.int way), some (.ref s), some (.ref f), some (.int k), some (pr q)], L') ∧ Pb q ∧ L'[f]? = some (.lst ((fs ++ [q]).map pr)) ∧ L'[s]? = some (.lst ([s0, s1].map pr)) ∧ Deck L' d (B + 9) ∧ (∀ L0, Ex d L0 L → L0.length ≤ f → Ex d L0 L') := fun p M B' DM hB' xM hp => by
    obtain ⟨q, L', e, o1, o2, o3, o4, o5⟩ := rest_ok (x1 := x1) (x2 := x2) (x3 := some (.int kind)) (x4 := some (.int way)) (x7 := some (.int k)) DM (by omega) hdf hds hsf (xM.get hf (by omega)) (xM.get hs (by omega)) hl hp hfs
    exact ⟨q, L', e, o1, o2, o3, o4.mono (by omega), fun L0 h hn => o5 L0 (h.trans xM) hn⟩
  rw [places_split]
  by_cases w1 : way = 1
  · subst w1
    obtain ⟨q, L', e, oo⟩ := fin (k / 2, k - k / 3) K2 _ D2 (by omega) y12 ⟨⟨by simp; omega, by simp; omega⟩, ⟨by simp; omega, by simp; omega⟩⟩
    refine ⟨q, L', ?_, oo⟩
    simp only [pr] at e
    simp [e1, e2, small_of, dv2, dv3, e, pr]
  · by_cases w2 : way = 2
    · subst w2
      obtain ⟨q, L', e, oo⟩ := fin (k / 2, 0 - k) K2 _ D2 (by omega) y12 ⟨⟨by simp; omega, by simp; omega⟩, ⟨by simp; omega, by simp; omega⟩⟩
      refine ⟨q, L', ?_, oo⟩
      simp only [pr, Int.zero_sub] at e
      simp [e1, e2, small_of, dv2, dv3, e, pr]
    · by_cases w3 : way = 3
      · subst w3
        obtain ⟨q, L', e, oo⟩ := fin (r1, s0.2) K2 _ D2 (by omega) y12 ⟨⟨a1, b1⟩, hb0.2⟩
        refine ⟨q, L', ?_, oo⟩
        simp only [pr] at e
        simp [e1, e2, small_of, h0, h1, q2', g0, e, pr]
      · by_cases w4 : way = 4
        · subst w4
          obtain ⟨i, L3, e3, a3, b3, D3, y3⟩ := next_ok (many := 2) D2 (by omega) (by decide) (by decide)
          have q3 : seqAt L3 s = some [U.tup [U.int s0.1, U.int s0.2], U.tup [U.int s1.1, U.int s1.2]] := seqAt_lst (y3.get hs2' (by omega))
          have hi : ∃ p : Int × Int, L2.atI [U.tup [U.int s0.1, U.int s0.2], U.tup [U.int s1.1, U.int s1.2]] i = some (.tup [.int p.1, .int p.2]) ∧ Pb p := by
            have : i = 0 ∨ i = 1 := by omega
            rcases this with rfl | rfl
            · exact ⟨s0, rfl, hb0⟩
            · exact ⟨s1, rfl, hb1⟩
          obtain ⟨p, hi, hp⟩ := hi
          obtain ⟨q, L', e, oo⟩ := fin p L3 _ D3 (by omega) (y12.trans y3) hp
          refine ⟨q, L', ?_, oo⟩
          simp only [pr] at e
          simp [e1, e2, small_of, e3, q3, hi, e, pr]
        · obtain ⟨q, L', e, oo⟩ := fin (r1, r2) K2 _ D2 (by omega) y12 ⟨⟨a1, b1⟩, ⟨a2, b2⟩⟩
          refine ⟨q, L', ?_, oo⟩
          simp only [pr] at e
          simp [e1, e2, small_of, w1, w2, w3, w4, e, pr]
/-- the drawn places -/
theorem places_ok {L : UH} {d : Nat} {B most : Int} (D : Deck L d B) (hB : B ≤ 100000000000000) (hm : 0 ≤ most ∧ most ≤ 60) :
    ∃ (r : Nat) (ps : List (Int × Int)) (L' : UH), m_l_places [.ref d, .int most] L = some (.ref r, L') ∧ L'[r]? = some (.lst (ps.map pr)) ∧ L.length ≤ r ∧ d < r ∧ (∀ p ∈ ps, Pb p) ∧ ps.length ≤ 60 ∧ Deck L' d (B + 600) ∧ Ex d L L' := by
  obtain ⟨i1, L1, e1, a1, b1, D1, y1⟩ := next_ok (many := most + 1) D (by omega) (by omega) (by omega)
  obtain ⟨i2, K2, e2, a2, b2, D2, y2⟩ := next_ok (many := 7) D1 (by omega) (by decide) (by decide)
  obtain ⟨i3, L3, e3, a3, b3, D3, y3⟩ := next_ok (many := 3) (D2.new [HU.lst [.int i1, .int i2, .int most]]) (by omega) (by decide) (by decide)
  have q3 : seqAt L3 K2.length = some [.int i1, .int i2, .int most] := by
    refine seqAt_lst (y3.get (i := K2.length) (by simp) ?_)
    have := D2.lt; omega
  have hmany : ∃ many : Int, L2.atI [U.int i1, .int i2, .int most] i3 = some (.int many) ∧ 0 ≤ many ∧ many ≤ 60 := by
    have : i3 = 0 ∨ i3 = 1 ∨ i3 = 2 := by omega
    rcases this with rfl | rfl | rfl
    · exact ⟨i1, rfl, by omega, by omega⟩
    · exact ⟨i2, rfl, by omega, by omega⟩
    · exact ⟨most, rfl, by omega, by omega⟩
  obtain ⟨many, hmany, m0, m1⟩ := hmany
  obtain ⟨kind, L4, e4, a4, b4, D4, y4⟩ := next_ok (many := 3) D3 (by omega) (by decide) (by decide)
  have hki : kind = 0 ∨ kind = 1 ∨ kind = 2 := by omega
  obtain ⟨way, L5, e5, a5, b5, D5, y5⟩ := next_ok (many := 6) D4 (by omega) (by decide) (by decide)
  have x5 : Ex d L L5 := y1.trans (y2.trans ((Ex.new d K2 _).trans (y3.trans (y4.trans y5))))
  have hdl := D.lt
  obtain ⟨ss', δ6, L6, e6, P6⟩ := fcomp (us := rangeU 0 2) (it := .seq (rangeU 0 2)) (L0 := L5) (L := L5) (ix := [none, some 0, some 3]) (δ := [some (.ref d), some (.int most), some (.int many), some (.int kind), some (.int way), none, none, none, none]) (fe := b_l_places_2e) (tt := none) (g := gN 0) (fi := fRng1 (fCons (fC (.int 2)) fNil))
    (fun k acc δ' L' => ∃ y0 ss, δ' = [y0, some (.ref d), some (.int kind)] ∧ acc = ss.map pr ∧ ss.length = k ∧ (∀ p ∈ ss, Pb p) ∧ Deck L' d (B + 5 + 6 * k) ∧ Ex d L L')
    (by simp) (by simp [IU.size])
    ⟨none, [], rfl, rfl, rfl, by simp, D5.mono (by omega), x5⟩
    (fun k acc δ L _ _ => rfl)
    (fun k u acc δ L' hu ⟨y0, ss, hδ, hacc, hlen, hall, DD, xx⟩ => by
      subst hδ
      obtain ⟨hk, rfl⟩ := rangeU_get hu
      obtain ⟨r1, M1, f1, c1, c2, DM1, z1⟩ := number_ok DD (by omega) hki
      obtain ⟨r2, M2, f2, c3, c4, DM2, z2⟩ := number_ok DM1 (by omega) hki
      refine ⟨_, _, rfl, true, L', rfl, fun _ => ⟨pr (r1, r2), M2, ?_, ?_, some (.int (0 + (k : Int))), ss ++ [(r1, r2)], rfl, ?_, ?_, ?_, DM2.mono (by omega), xx.trans (z1.trans z2)⟩, fun h => by cases h⟩
      · simp [b_l_places_2e, f1, f2, small_of, pr]
      · rw [hacc]; simp; omega
      · rw [hacc]; simp
      · simp; omega
      · intro p hp
        rcases List.mem_append.mp hp with h | h
        · exact hall p h
        · have : p = (r1, r2) := by simpa using h
          rw [this]; exact ⟨⟨c1, c2⟩, ⟨c3, c4⟩⟩)
  obtain ⟨y0, ss, hδ6, hss, hslen, hsb, D6, x6⟩ := P6
  subst hss
  rw [rangeU_len] at hslen D6
  have hle6 := x6.le
  obtain ⟨δ7, L7, e7, P7⟩ := for_seq (us := rangeU 0 many.toNat) (L0 := L6 ++ [.lst (ss.map pr)] ++ [.lst []]) (L := L6 ++ [.lst (ss.map pr)] ++ [.lst []]) (δ := [some (.ref d), some (.int most), some (.int many), some (.int kind), some (.int way), some (.ref L6.length), some (.ref (L6.length + 1)), none, none]) (body := b_l_places_1) (g := gN 7) (fi := fRng1 (fCons (fVar 2) fNil))
    (fun k δ' L' => ∃ y7 y8 fs, δ' = [some (.ref d), some (.int most), some (.int many), some (.int kind), some (.int way), some (.ref L6.length), some (.ref (L6.length + 1)), y7, y8] ∧ L'[L6.length + 1]? = some (.lst (fs.map pr)) ∧ L'[L6.length]? = some (.lst (ss.map pr)) ∧ fs.length = k ∧ k ≤ 60 ∧ (∀ p ∈ fs, Pb p) ∧ Deck L' d (B + 17 + 9 * k) ∧ Ex d L L')
    (by simp; omega)
    ⟨none, none, [], rfl, by simp [List.getElem?_append], by simp [List.getElem?_append], rfl, by omega, by simp, ((D6.new _).new _).mono (by omega), x6.trans ((Ex.new d _ _).trans (Ex.new d _ _))⟩
    (fun k u δ L' hu ⟨y7, y8, fs, hδ, hf, hs, hl, hk60, hall, DD, xx⟩ => by
      subst hδ
      obtain ⟨hk, rfl⟩ := rangeU_get hu
      obtain ⟨q, M, e, o1, o2, o3, o4, o5⟩ := places_turn (x1 := some (.int most)) (x2 := some (.int many)) (x8 := y8) (k := 0 + (k : Int)) (way := way) DD (by omega) (by omega) (by omega) (by omega) hf hs (by omega) hall hsb hslen ⟨by omega, by omega⟩ hki
      refine ⟨_, _, rfl, _, M, .inl e, _, _, fs ++ [q], rfl, o2, o3, by simp; omega, by omega, ?_, o4.mono (by omega), o5 L xx (by omega)⟩
      intro p hp
      rcases List.mem_append.mp hp with h | h
      · exact hall p h
      · have : p = q := by simpa using h
        rw [this]; exact o1)
  obtain ⟨y7, y8, fs, hδ7, hf7, _, hl7, hk7, hall7, D7, x7⟩ := P7
  rw [rangeU_len] at hl7 D7
  refine ⟨L6.length + 1, fs, L7, ?_, hf7, by omega, by omega, hall7, by omega, D7.mono (by omega), x7⟩
  rw [hδ7] at e7
  simp only [List.append_assoc, List.cons_append, List.nil_append] at e7
  simp [m_l_places, fnU, b_l_places, -fFor_eq, e1, e2, small_of, e3, q3, hmany, e4, e5, e6, e7, List.replicate]

end Lw

set_option Elab.async false
set_option linter.all false
set_option maxRecDepth 100000
set_option maxHeartbeats 1000000
namespace Lw
open PySem L2 MR
def ptU (p : Str × (Int × Int)) : U := .tup [.str p.1, .int p.2.1, .int p.2.2]
structure Pts (ps : List (Str × (Int × Int))) : Prop where
  nm : ∀ p ∈ ps, Nm p.1
  nd : (ps.map (·.1)).Nodup
  pb : ∀ p ∈ ps, Pb p.2
  len : ps.length ≤ 60
theorem zip_pts : ∀ (ns : List Str) (qs : List (Int × Int)), zipU (ns.map U.str) (qs.map pr) = (ns.zip qs).map fun p => .tup [.str p.1, pr p.2]
  | [], _ => rfl
  | _ :: _, [] => rfl
  | n :: ns, q :: qs => by
    have := zip_pts ns qs
    unfold zipU at this ⊢
    simp only [List.map_cons, List.zip_cons_cons, this]
def pts_mid : FS := (fIfS (fTest (f2 semEq (fOwn 2 m_l_next (fCons (fVar 0) (fCons (fC (.int 2)) fNil))) (fC (.int 0)))) (fAsg (fComp [none, some 2, some 0] (fRng1 (fCons (fCall semLen (fCons (fVar 2) fNil)) fNil)) (gN 0) none b_l_points_2e) (gN 2)) fNext)
theorem pts_split : b_l_points = (fSeq (fAsg (fOwn 2 m_l_places (fCons (fVar 0) (fCons (fVar 1) fNil))) (gN 2)) (fSeq pts_mid (fSeq (fAsg (fOwn 2 m_l_names (fCons (fVar 0) (fCons (fCall semLen (fCons (fVar 2) fNil)) fNil))) (gN 3)) (fRet (fCall semTuple (fCons (fComp [none, none] (fZip (fCons (fVar 3) (fCons (fVar 2) fNil))) (MR.gTup 2 (MR.gCons (gN 0) (MR.gCons (gN 1) MR.gNil))) none b_l_points_1e) fNil)))))) := rfl
theorem fst_zip_sub {β γ : Type} : ∀ (l : List β) (m : List γ), ((l.zip m).map (·.1)).Sublist l
  | [], _ => by simp
  | a :: l, [] => by simp
  | a :: l, b :: m => by rw [List.zip_cons_cons, List.map_cons]; exact (fst_zip_sub l m).cons₂ a
theorem pts_mid_ok {L L1 : UH} {d r : Nat} {B most : Int} {ps : List (Int × Int)} (hr : L1[r]? = some (.lst (ps.map pr))) (hrl : L.length ≤ r) (hdr : d < r) (hpb : ∀ p ∈ ps, Pb p) (hlen : ps.length ≤ 60) (D1 : Deck L1 d (B + 600)) (x1 : Ex d L L1) (hB : B ≤ 10000000000000) :
    ∃ (r3 : Nat) (ps3 : List (Int × Int)) (L3 : UH), pts_mid [some (.ref d), some (.int most), some (.ref r), none] L1 = some (.nx [some (.ref d), some (.int most), some (.ref r3), none], L3) ∧ L3[r3]? = some (.lst (ps3.map pr)) ∧ L.length ≤ r3 ∧ d < r3 ∧ (∀ p ∈ ps3, Pb p) ∧ ps3.length ≤ 60 ∧ Deck L3 d (B + 700) ∧ Ex d L L3 := by
  obtain ⟨i, L2', e2, a2, b2, D2, x2⟩ := next_ok (many := 2) D1 (by omega) (by decide) (by decide)
  have hr2 := x2.get hr (by omega)
  by_cases hi : i = 0
  · subst hi
    have hlen2 := len_lst hr2
    rw [List.length_map] at hlen2
    obtain ⟨ts', δ5, L5, e5, P5⟩ := fcomp (us := rangeU 0 ps.length) (it := .seq (rangeU 0 ps.length)) (L0 := L2') (L := L2') (ix := [none, some 2, some 0]) (δ := [some (.ref d), some (.int most), some (.ref r), none]) (fe := b_l_points_2e) (tt := none) (g := gN 0) (fi := fRng1 (fCons (fCall semLen (fCons (fVar 2) fNil)) fNil))
      (fun k acc δ' L' => ∃ y0 ts ls, δ' = [y0, some (.ref r), some (.ref d)] ∧ acc = ts.map pr ∧ ts.length = k ∧ L'[r]? = some (.lst (ls.map pr)) ∧ ls.length + k = ps.length ∧ (∀ s ∈ ts, Pb s) ∧ (∀ s ∈ ls, Pb s) ∧ Deck L' d (B + 601 + k) ∧ Ex d L L')
      (rng1_nat (by simp [hlen2]) (by omega)) (by simp [IU.size])
      ⟨none, [], ps, rfl, rfl, rfl, hr2, by omega, by simp, hpb, D2.mono (by omega), x1.trans x2⟩
      (fun k acc δ L _ _ => rfl)
      (fun k u acc δ L' hu ⟨y0, ts, ls, hδ, hacc, hts, hls, hlen, h1, h2, DD, xx⟩ => by
        subst hδ
        obtain ⟨hk, rfl⟩ := rangeU_get hu
        obtain ⟨q, M, ls', e, DM, hM, hl', hq, hsub, hx⟩ := pop_turn pr DD (by omega) hdr hls (by omega) (by omega) (some (.int (0 + (k : Int))))
        refine ⟨_, _, rfl, true, L', rfl, fun _ => ⟨_, M, e, ?_, _, ts ++ [q], ls', rfl, ?_, ?_, hM, by omega, ?_, fun s hs => h2 s (hsub s hs), DM.mono (by omega), hx L xx hrl⟩, fun h => by cases h⟩
        · rw [hacc]; simp; omega
        · rw [hacc]; simp
        · simp; omega
        · intro s hs
          rcases List.mem_append.mp hs with h | h
          · exact h1 s h
          · have : s = q := by simpa using h
            rw [this]; exact h2 q hq)
    obtain ⟨y0, ts, ls, hδ5, hts, hlt, _, _, hN5, _, D5, x5⟩ := P5
    rw [rangeU_len] at hlt D5
    subst hts
    refine ⟨L5.length, ts, L5 ++ [.lst (ts.map pr)], ?_, by simp, x5.le, D5.lt, hN5, by omega, (D5.new _).mono (by omega), x5.trans (Ex.new d _ _)⟩
    simp [pts_mid, e2, e5]
  · have hib : (i == 0) = false := by simpa using hi
    refine ⟨r, ps, L2', ?_, hr2, hrl, hdr, hpb, hlen, D2.mono (by omega), x1.trans x2⟩
    simp [pts_mid, e2, hi]
theorem points_ok {L : UH} {d : Nat} {B most : Int} (D : Deck L d B) (hB : B ≤ 10000000000000) (hm : 0 ≤ most ∧ most ≤ 60) :
    ∃ (ps : List (Str × (Int × Int))) (L' : UH), m_l_points [.ref d, .int most] L = some (.tup (ps.map ptU), L') ∧ Pts ps ∧ Deck L' d (B + 1000) ∧ Ex d L L' := by
  obtain ⟨r, ps, L1, e1, hr, hrl, hdr, hpb, hlen, D1, x1⟩ := places_ok D (by omega) hm
  have mid := pts_mid_ok (most := most) hr hrl hdr hpb hlen D1 x1 hB
  obtain ⟨r3, qs, L3, e3, hr3, hrl3, hdr3, hpb3, hlen3, D3, x3⟩ := mid
  obtain ⟨rn, ns, L4, e4, hn4, hnl, hnm, hnd, hnlen, D4, x4⟩ := names_ok (n := (qs.length : Int)) D3 (by omega) ⟨by omega, by omega⟩
  have hr4 := x4.get hr3 (by omega)
  have qn := seqAt_lst hn4
  have qp := seqAt_lst hr4
  have hz := zip_pts ns qs
  have hlz : (ns.zip qs).length ≤ 60 := by rw [List.length_zip]; omega
  obtain ⟨x, e5⟩ := comp_grow (ix := [none, none]) (fi := fZip (fCons (fVar 3) (fCons (fVar 2) fNil))) (it := .zip2 rn r3) (g := (MR.gTup 2 (MR.gCons (gN 0) (MR.gCons (gN 1) MR.gNil)))) (tt := none) (fe := b_l_points_1e) (δ := [some (.ref d), some (.int most), some (.ref r3), some (.ref rn)]) (L := L4) (L0 := L4)
    (ns.zip qs) (fun p => .tup [.str p.1, pr p.2]) (fun _ => true) (fun p => ptU p) (fun δ => ∃ a b, δ = [a, b]) (by simp [qn, qp]) (by rw [size_zip qn qp, hz]; simp) (by omega) ⟨none, none, rfl⟩
    (fun k x => by rw [at_zip (seqAt_app qn) (seqAt_app qp), hz])
    (fun p δ x _ ⟨a, b, hδ⟩ => by
      subst hδ
      refine ⟨_, rfl, ⟨_, _, rfl⟩, [], by simp [testU], fun _ => ⟨[], ?_⟩⟩
      have h0 : L2.atI [U.int p.2.1, .int p.2.2] 0 = some (.int p.2.1) := rfl
      have h1 : L2.atI [U.int p.2.1, .int p.2.2] 1 = some (.int p.2.2) := rfl
      simp [b_l_points_1e, pr, h0, h1, small_of, ptU])
  have hfil : List.filter (fun _ => true) (ns.zip qs) = ns.zip qs := List.filter_eq_self.mpr (fun _ _ => rfl)
  rw [hfil] at e5
  have qt : seqAt (L4 ++ x ++ [HU.lst ((ns.zip qs).map fun p => ptU p)]) (L4 ++ x).length = some ((ns.zip qs).map fun p => ptU p) := seqAt_lst (by simp)
  have htup : semTuple [.ref (L4 ++ x).length] (L4 ++ x ++ [HU.lst ((ns.zip qs).map fun p => ptU p)]) = some (.tup ((ns.zip qs).map fun p => ptU p), L4 ++ x ++ [HU.lst ((ns.zip qs).map fun p => ptU p)]) := by simp only [semTuple, qt, Option.map_some]
  refine ⟨ns.zip qs, L4 ++ x ++ [HU.lst ((ns.zip qs).map fun p => ptU p)], ?_, ⟨?_, ?_, ?_, hlz⟩, ((D4.new _).new _).mono (by omega), x3.trans (x4.trans ((Ex.new d _ _).trans (Ex.new d _ _)))⟩
  · have hl3 := len_lst hr3
    rw [List.length_map] at hl3
    simp only [List.length_append, List.append_assoc] at htup e5
    simp [m_l_points, fnU, pts_split, e1, e3, hl3, e4, e5, htup, List.replicate]
  · intro p hp
    exact hnm p.1 (List.of_mem_zip (show (p.1, p.2) ∈ ns.zip qs from hp)).1
  · exact hnd.sublist (fst_zip_sub ns qs)
  · intro p hp
    exact hpb3 p.2 (List.of_mem_zip (show (p.1, p.2) ∈ ns.zip qs from hp)).2

end Lw

set_option Elab.async false
set_option linter.all false
set_option maxRecDepth 100000
set_option maxHeartbeats 1000000
namespace Lw
open PySem L2 MR
def b_l_changed_1e : FE := (f2 semIx (fVar 0) (fC (.int 0)))
def b_l_changed : FS := (fSeq (fIfS (fTest (f2 semEq (fVar 1) (fTup fNil))) (fRet (fTup (fCons (fTup (fCons (fC (.str "a")) (fCons (fC (.int 1)) (fCons (fC (.int 1)) fNil)))) fNil))) fNext) (fSeq (fAsg (fOwn 2 m_l_next (fCons (fVar 0) (fCons (fCall semLen (fCons (fVar 1) fNil)) fNil))) (gN 2)) (fSeq (fAsg (fOwn 2 m_l_next (fCons (fVar 0) (fCons (fCall semLen (fCons (fVar 1) fNil)) fNil))) (gN 3)) (fSeq (fAsg (f2 semIx (fVar 1) (fVar 2)) (MR.gTup 3 (MR.gCons (gN 4) (MR.gCons (gN 5) (MR.gCons (gN 6) MR.gNil))))) (fSeq (fAsg (fOwn 2 m_l_next (fCons (fVar 0) (fCons (fC (.int 5)) fNil))) (gN 7)) (fSeq (fAsg (fCall semList (fCons (fVar 1) fNil)) (gN 8)) (fSeq (fAsg (f2 semIx (fLst (fCons (fTup (fCons (fVar 4) (fCons (f2 semSub (fC (.int 0)) (fVar 5)) (fCons (fVar 6) fNil)))) (fCons (fTup (fCons (fVar 4) (fCons (fVar 6) (fCons (fVar 5) fNil)))) (fCons (fTup (fCons (f2 semAddA (fSl semSlZ (fVar 4) fNoPart (fPart (fC (.int 7)))) (fC (.str "q"))) (fCons (fVar 5) (fCons (fVar 6) fNil)))) fNil)))) (f2 semMod (fVar 7) (fC (.int 3)))) (MR.gSub (fVar 8) (fVar 2))) (fSeq (fIfS (fTest (f2 (semIn false) (f2 semIx (f2 semIx (fVar 8) (fVar 2)) (fC (.int 0))) (fComp [none] (fSeqI (f2 semAddA (fSl semSlZ (fVar 1) fNoPart (fPart (fVar 2))) (fSl semSlZ (fVar 1) (fPart (f2 semAddA (fVar 2) (fC (.int 1)))) fNoPart))) (gN 0) none b_l_changed_1e))) (fAsg (fTup (fCons (fVar 4) (fCons (fVar 5) (fCons (f2 semIx (fLst (fCons (fC (.int 1)) (fCons (fC (.int 0)) fNil))) (fCall semInt (fCons (f2 semEq (fVar 6) (fC (.int 1))) fNil))) fNil)))) (MR.gSub (fVar 8) (fVar 2))) fNext) (fSeq (fIfS (fTest (f2 semEq (fVar 7) (fC (.int 3)))) (fSeq (fAsg (fCall semList (fCons (fVar 1) fNil)) (gN 8)) (fAsg (fTup (fCons (f2 semIx (fVar 8) (fVar 3)) (fCons (f2 semIx (fVar 8) (fVar 2)) fNil))) (MR.gTup 2 (MR.gCons (MR.gSub (fVar 8) (fVar 2)) (MR.gCons (MR.gSub (fVar 8) (fVar 3)) MR.gNil))))) fNext) (fSeq (fIfS (fTest (f2 semEq (fVar 7) (fC (.int 4)))) (fSeq (fAsg (fCall semList (fCons (fVar 1) fNil)) (gN 8)) (fDrop (fMeth "list" semPop (fVar 8) (fCons (fVar 2) fNil)))) fNext) (fRet (fCall semTuple (fCons (fVar 8) fNil)))))))))))))
def m_l_changed : FN := fnU 9 2 b_l_changed
def b_l_figures_1 : FS := (fIfS (fTest (f2 semGt (fVar 0) (fC (.int 9)))) (fSeq (fAsg (f2 semDiv (fVar 0) (fC (.int 10))) (gN 0)) (fAsg (f2 semAdd (f2 semIx (fC (.str "0123456789")) (f2 semMod (fVar 0) (fC (.int 10)))) (fVar 2)) (gN 2))) fNext)
def b_l_figures : FS := (fSeq (fAsg (f2 semIx (fLst (fCons (fC (.str "")) (fCons (fC (.str "-")) fNil))) (fCall semInt (fCons (f2 semLt (fVar 0) (fC (.int 0))) fNil))) (gN 1)) (fSeq (fAsg (fCall semAbs (fCons (fVar 0) fNil)) (gN 0)) (fSeq (fAsg (f2 semIx (fC (.str "0123456789")) (f2 semMod (fVar 0) (fC (.int 10)))) (gN 2)) (fSeq (fFor (fRng1 (fCons (fC (.int 30)) fNil)) (gN 3) b_l_figures_1) (fRet (f2 semAdd (fVar 1) (fVar 2)))))))
def m_l_figures : FN := fnU 4 1 b_l_figures
def b_l_text_1e : FE := (f2 semAdd (f2 semAdd (f2 semAdd (f2 semAdd (fVar 0) (fC (.str " "))) (fOwn 1 m_l_figures (fCons (fVar 1) fNil))) (fC (.str " "))) (fOwn 1 m_l_figures (fCons (fVar 2) fNil)))
def b_l_text : FS := (fRet (fMeth "str" semJoin (fC (.str "\n")) (fCons (fComp [none, none, none] (fSeqI (fVar 0)) (MR.gTup 3 (MR.gCons (gN 0) (MR.gCons (gN 1) (MR.gCons (gN 2) MR.gNil)))) none b_l_text_1e) fNil)))
def m_l_text : FN := fnU 1 1 b_l_text
def b_lies_below_1e : FE := (f2 semLe (fVar 0) (fVar 1))
def b_lies_below : FS := (fRet (fAndV (f2 semNe (fVar 0) (fVar 1)) (fCall semAll (fCons (fComp [none, none] (fZipA (fCons (fVar 0) (fCons (fVar 1) fNil))) (MR.gTup 2 (MR.gCons (gN 0) (MR.gCons (gN 1) MR.gNil))) none b_lies_below_1e) fNil))))
def m_lies_below : FN := fnU 2 2 b_lies_below
def b_l_three_right : FS := (fSeq (fIfS (fAnd (fTru (fOwn 2 m_lies_below (fCons (fVar 0) (fCons (fVar 1) fNil)))) (fAnd (fTru (fOwn 2 m_lies_below (fCons (fVar 1) (fCons (fVar 2) fNil)))) (fNot (fTru (fOwn 2 m_lies_below (fCons (fVar 0) (fCons (fVar 2) fNil))))))) (fRet (fC (.bl false))) fNext) (fSeq (fIfS (fOr (fTru (fOwn 2 m_lies_below (fCons (fVar 0) (fCons (fVar 0) fNil)))) (fAnd (fTru (fOwn 2 m_lies_below (fCons (fVar 0) (fCons (fVar 1) fNil)))) (fTru (fOwn 2 m_lies_below (fCons (fVar 1) (fCons (fVar 0) fNil)))))) (fRet (fC (.bl false))) fNext) (fSeq (fAsg (fLst (fCons (f2 semSub (fC (.int 0)) (f2 semIx (fVar 0) (fC (.int 0)))) (fCons (f2 semSub (fC (.int 0)) (f2 semIx (fVar 0) (fC (.int 1)))) fNil))) (gN 3)) (fSeq (fAsg (fTup (fCons (f2 semAdd (f2 semIx (fVar 1) (fC (.int 0))) (f2 semIx (fVar 3) (fC (.int 0)))) (fCons (f2 semAdd (f2 semIx (fVar 1) (fC (.int 1))) (f2 semIx (fVar 3) (fC (.int 1)))) fNil))) (gN 4)) (fSeq (fIfS (fAnd (fTest (f2 semLt (fCall semMax (fCons (fCall semAbs (fCons (f2 semIx (fVar 4) (fC (.int 0))) fNil)) (fCons (fCall semAbs (fCons (f2 semIx (fVar 4) (fC (.int 1))) fNil)) fNil))) (f2 semPow (fC (.int 10)) (fC (.int 10))))) (fTest (f2 semNe (fOwn 2 m_lies_below (fCons (fTup (fCons (fC (.int 0)) (fCons (fC (.int 0)) fNil))) (fCons (fVar 4) fNil))) (fOwn 2 m_lies_below (fCons (fVar 0) (fCons (fVar 1) fNil)))))) (fRet (fC (.bl false))) fNext) (fRet (f2 semEq (fOwn 2 m_lies_below (fCons (fRev (fVar 0)) (fCons (fRev (fVar 1)) fNil))) (fOwn 2 m_lies_below (fCons (fVar 0) (fCons (fVar 1) fNil))))))))))
def m_l_three_right : FN := fnU 5 3 b_l_three_right
def b_points_shown_1e : FE := (fJoined [(fFmt (fVar 0)), (fC (.str " ")), (fFmt (fVar 1)), (fC (.str " ")), (fFmt (fVar 2))])
def b_points_shown : FS := (fRet (fMeth "str" semJoin (fC (.str "\n")) (fCons (fComp [none, none, none] (fSeqI (fVar 0)) (MR.gTup 3 (MR.gCons (gN 0) (MR.gCons (gN 1) (MR.gCons (gN 2) MR.gNil)))) none b_points_shown_1e) fNil)))
def m_points_shown : FN := fnU 1 1 b_points_shown
def b_holds_only_1e : FE := (f2 (semIn false) (fVar 0) (fVar 1))
def b_holds_only : FS := (fRet (fCall semAll (fCons (fComp [none, some 1] (fStrI (fVar 0)) (gN 0) none b_holds_only_1e) fNil)))
def m_holds_only : FN := fnU 2 2 b_holds_only
def b_is_name : FS := (fRet (fAndV (fChain semLe semLe (fC (.int 1)) (fCall semLen (fCons (fVar 0) fNil)) (fC (.int 8))) (fOwn 2 m_holds_only (fCons (fVar 0) (fCons (fC (.str "abcdefghijklmnopqrstuvwxyz")) fNil)))))
def m_is_name : FN := fnU 1 1 b_is_name
def b_is_number : FS := (fSeq (fAsg (fIf (fTru (fMeth "str" semStarts (fVar 0) (fCons (fC (.str "-")) fNil))) (fSl semSlZ (fVar 0) (fPart (fC (.int 1))) fNoPart) (fVar 0)) (gN 1)) (fSeq (fIfS (fOr (fTest (f2 semEq (fVar 1) (fC (.str "")))) (fNot (fTru (fOwn 2 m_holds_only (fCons (fVar 1) (fCons (fC (.str "0123456789")) fNil)))))) (fRet (fC (.bl false))) fNext) (fRet (fOrV (f2 semNe (f2 semIx (fVar 1) (fC (.int 0))) (fC (.str "0"))) (f2 semEq (fVar 0) (fC (.str "0")))))))
def m_is_number : FN := fnU 2 1 b_is_number
def b_point_in : FS := (fSeq (fAsg (fMeth "str" semSplit (fVar 0) (fCons (fC (.str " ")) fNil)) (gN 1)) (fSeq (fIfS (fOr (fTest (f2 semNe (fCall semLen (fCons (fVar 1) fNil)) (fC (.int 3)))) (fNot (fTru (fOwn 1 m_is_name (fCons (f2 semIx (fVar 1) (fC (.int 0))) fNil))))) (fRet (fC .non)) fNext) (fSeq (fIfS (fOr (fNot (fTru (fOwn 1 m_is_number (fCons (f2 semIx (fVar 1) (fC (.int 1))) fNil)))) (fNot (fTru (fOwn 1 m_is_number (fCons (f2 semIx (fVar 1) (fC (.int 2))) fNil))))) (fRet (fC .non)) fNext) (fRet (fTup (fCons (f2 semIx (fVar 1) (fC (.int 0))) (fCons (fCall semIntT (fCons (f2 semIx (fVar 1) (fC (.int 1))) fNil)) (fCons (fCall semIntT (fCons (f2 semIx (fVar 1) (fC (.int 2))) fNil)) fNil))))))))
def m_point_in : FN := fnU 2 1 b_point_in
def b_read_points_1 : FS := (fSeq (fAsg (fOwn 1 m_point_in (fCons (fVar 4) fNil)) (gN 5)) (fSeq (fIfS (fOr (fTest (f2 (semIs false) (fVar 5) (fC .non))) (fTest (f2 semDIn (f2 semIx (fVar 5) (fC (.int 0))) (fVar 2)))) fNever fNext) (fSeq (fDPut (fVar 2) (f2 semIx (fVar 5) (fC (.int 0))) (fC (.bl true))) (fDrop (fMeth "list" semAppend (fVar 1) (fCons (fVar 5) fNil))))))
def b_read_points : FS := (fSeq (fIfS (fTest (f2 semEq (fVar 0) (fC (.str "")))) (fRet (fTup fNil)) fNext) (fSeq (fAsg (fLst fNil) (gN 1)) (fSeq (fAsg fDNew (gN 2)) (fSeq (fFor (fEnumA (fCons (fMeth "str" semSplit (fVar 0) (fCons (fC (.str "\n")) fNil)) fNil)) (MR.gTup 2 (MR.gCons (gN 3) (MR.gCons (gN 4) MR.gNil))) b_read_points_1) (fRet (fCall semTuple (fCons (fVar 1) fNil)))))))
def m_read_points : FN := fnU 6 1 b_read_points
def b_law_3e : FE := (fSl semSlA (fVar 0) (fPart (fC (.int 1))) fNoPart)
def b_law_2 : FS := (fSeq (fAsg (fComp [none] (fSeqI (fSl semSlA (fVar 3) (fPart (f2 semSub (fVar 8) (fC (.int 2)))) (fPart (f2 semAddA (fVar 8) (fC (.int 1)))))) (gN 0) none b_law_3e) (gN 9)) (fSeq (fIfS (fNot (fTru (fOwn 3 m_l_three_right (fCons (f2 semIx (fVar 9) (fC (.int 0))) (fCons (f2 semIx (fVar 9) (fC (.int 1))) (fCons (f2 semIx (fVar 9) (fC (.int 2))) fNil)))))) (fRet (fC (.bl false))) fNext) (fIfS (fNot (fTru (fOwn 3 m_l_three_right (fCons (f2 semIx (fVar 9) (fC (.int 2))) (fCons (f2 semIx (fVar 9) (fC (.int 0))) (fCons (f2 semIx (fVar 9) (fC (.int 1))) fNil)))))) (fRet (fC (.bl false))) fNext)))
def b_law_1 : FS := (fSeq (fAsg (fOwn 1 m_points_shown (fCons (fVar 3) fNil)) (gN 4)) (fSeq (fIfS (fOr (fNot (fTru (fIsi "str" (fVar 4)))) (fOr (fTest (f2 semNe (fVar 4) (fOwn 1 m_l_text (fCons (fVar 3) fNil)))) (fTest (f2 semNe (fOwn 1 m_read_points (fCons (fVar 4) fNil)) (fVar 3))))) (fRet (fC (.bl false))) fNext) (fSeq (fAsg (fOwn 2 m_l_changed (fCons (fVar 1) (fCons (fVar 3) fNil))) (gN 5)) (fSeq (fIfS (fOr (fTest (f2 semNe (fOwn 1 m_read_points (fCons (fOwn 1 m_points_shown (fCons (fVar 5) fNil)) fNil)) (fVar 5))) (fTest (f2 semNe (f2 semEq (fOwn 1 m_points_shown (fCons (fVar 5) fNil)) (fVar 4)) (f2 semEq (fVar 5) (fVar 3))))) (fRet (fC (.bl false))) fNext) (fSeq (fAsg (fOwn 2 m_l_next (fCons (fVar 1) (fCons (f2 semAddA (fCall semLen (fCons (fVar 3) fNil)) (fC (.int 1))) fNil))) (gN 6)) (fSeq (fAsg (fLst (fCons (fOwn 1 m_points_shown (fCons (fSl semSlA (fVar 3) fNoPart (fPart (fVar 6))) fNil)) (fCons (fOwn 1 m_points_shown (fCons (fSl semSlA (fVar 3) (fPart (fVar 6)) fNoPart) fNil)) fNil))) (gN 7)) (fSeq (fIfS (fAnd (fTest (fChain semLt semLt (fC (.int 0)) (fVar 6) (fCall semLen (fCons (fVar 3) fNil)))) (fTest (f2 semNe (fMeth "str" semJoin (fC (.str "\n")) (fCons (fVar 7) fNil)) (fVar 4)))) (fRet (fC (.bl false))) fNext) (fFor (fRng2 (fCons (fC (.int 2)) (fCons (fCall semMin (fCons (fCall semLen (fCons (fVar 3) fNil)) (fCons (fC (.int 30)) fNil))) fNil))) (gN 8) b_law_2))))))))
def b_law_4e : FE := (fOwn 2 m_l_points (fCons (fVar 1) (fCons (fC (.int 60)) fNil)))
def b_law : FS := (fSeq (fAsg (fOwn 1 m_l_deck (fCons (fVar 0) fNil)) (gN 1)) (fSeq (fAsg (fComp [none, some 1] (fRng1 (fCons (fC (.int 3)) fNil)) (gN 0) none b_law_4e) (gN 2)) (fSeq (fFor (fSeqI (f2 semAddA (fVar 2) (fRev (fVar 2)))) (gN 3) b_law_1) (fRet (f2 semEq (fOwn 1 m_points_shown (fCons (fTup fNil) fNil)) (fC (.str "")))))))
def m_law : FN := fnU 10 1 b_law
theorem fSeq_nx {f g : FS} {δ δ' : UE} {L L' : UH} (h : f δ L = some (.nx δ', L')) : fSeq f g δ L = g δ' L' := by rw [fSeq_eq, h]; rfl
theorem setN {fe : FE} {v : U} {i : Nat} {δ : UE} {L L' : UH} (e : fe δ L = some (v, L')) : (fAsg fe (gN i)) δ L = some (.nx (δ.set i (some v)), L') := by
  rw [fAsg_eq, e]
  simp only [Option.bind_some, gN_eq, Option.map_some]
theorem own1 {f : FN} {i : Nat} {u v : U} {δ : UE} {L L' : UH} (h : fVar i δ L = some (u, L)) (e : f [u] L = some (v, L')) : (fOwn 1 f (fCons (fVar i) fNil)) δ L = some (v, L') := by
  rw [fOwn_eq, fCons_eq, h]
  simp only [Option.bind_some, fNil_eq, Option.map_some, List.length_cons, List.length_nil, if_true, e]
theorem own1e {f : FN} {fe : FE} {u v : U} {δ : UE} {L L1 L' : UH} (h : fe δ L = some (u, L1)) (e : f [u] L1 = some (v, L')) : (fOwn 1 f (fCons fe fNil)) δ L = some (v, L') := by
  rw [fOwn_eq, fCons_eq, h]
  simp only [Option.bind_some, fNil_eq, Option.map_some, List.length_cons, List.length_nil, if_true, e]
theorem own2 {f : FN} {fa fb : FE} {u w v : U} {δ : UE} {L L1 L2 L' : UH} (h : fa δ L = some (u, L1)) (h2 : fb δ L1 = some (w, L2)) (e : f [u, w] L2 = some (v, L')) : (fOwn 2 f (fCons fa (fCons fb fNil))) δ L = some (v, L') := by
  rw [fOwn_eq, fCons_eq, h, Option.bind_some, fCons_eq, h2]
  simp only [Option.bind_some, fNil_eq, Option.map_some, List.length_cons, List.length_nil, if_true, e]
theorem fn1 {n : Nat} {b : FS} {u v : U} {L L' : UH} (h : b (some u :: List.replicate n none) L = some (.rt v, L')) : fnU (n + 1) 1 b [u] L = some (v, L') := by
  unfold fnU
  simp only [List.length_cons, List.length_nil, if_true, List.map_cons, List.map_nil, List.cons_append, List.nil_append, Nat.add_sub_cancel, h]
  rfl
theorem ret_ok {fe : FE} {v : U} {δ : UE} {L L' : UH} (e : fe δ L = some (v, L')) : fRet fe δ L = some (.rt v, L') := by
  rw [fRet_eq, e]; rfl
def Gw (L L' : UH) : Prop := ∃ x, L' = L ++ x
theorem Gw.refl (L : UH) : Gw L L := ⟨[], by simp⟩
theorem Gw.trans {L L1 M : UH} (a : Gw L L1) (b : Gw L1 M) : Gw L M := by obtain ⟨x, rfl⟩ := a; obtain ⟨y, rfl⟩ := b; exact ⟨x ++ y, by simp⟩
theorem Gw.new (L x : UH) : Gw L (L ++ x) := ⟨x, rfl⟩
theorem Gw.set {L L' : UH} (h : Gw L L') {n : Nat} (hn : L.length ≤ n) (o : HU) : Gw L (L'.set n o) := by
  obtain ⟨x, rfl⟩ := h
  exact ⟨x.set (n - L.length) o, by rw [List.set_append_right _ _ hn]⟩
theorem Gw.le {L L' : UH} (h : Gw L L') : L.length ≤ L'.length := by obtain ⟨x, rfl⟩ := h; simp
theorem Gw.get {L L' : UH} (h : Gw L L') {n : Nat} {o : HU} (e : L[n]? = some o) : L'[n]? = some o := by
  obtain ⟨x, rfl⟩ := h
  rw [List.getElem?_append_left (List.getElem?_eq_some_iff.mp e).1]; exact e
theorem Gw.deck {L L' : UH} (h : Gw L L') {d : Nat} {B : Int} (D : Deck L d B) : Deck L' d B := by obtain ⟨x, rfl⟩ := h; exact D.new x
theorem toBs_map {β : Type} (as : List β) (f : β → Bool) : mapO toB (as.map fun a => U.bl (f a)) = some (as.map f) := by
  induction as with
  | nil => rfl
  | cons a as ih => simp [mapO, toB, ih]
theorem all_lst {β : Type} {L : UH} {n : Nat} (as : List β) (f : β → Bool) (h : seqAt L n = some (as.map fun a => U.bl (f a))) : semAll [.ref n] L = some (.bl (as.all f), L) := by
  simp [semAll, h, toBs_map]
def asc (w : Str) : Prop := w.cps.all (· < 128) = true
theorem len_cps (w : Str) : w.length = w.cps.toList.length := by simp [Str.length]
theorem holds_ok (w signs : Str) (ha : asc w) (hl : w.length ≤ 1000) (L : UH) : ∃ L', m_holds_only [.str w, .str signs] L = some (.bl (w.cps.toList.all fun c => decide (c ∈ signs.cps.toList)), L') ∧ Gw L L' := by
  have hlc := len_cps w
  have hi : fStrI (fVar 0) [some (.str w), some (.str signs)] L = some (.seq (w.cps.toList.map fun c => .str ⟨#[c]⟩), L) := by
    unfold fStrI
    simp only [fVar_eq, List.getElem?_cons_zero, Option.join_some, Option.map_some, Option.bind_some]
    rw [if_pos (show (w.cps.all (· < 128)) = true from ha)]; rfl
  obtain ⟨x, e⟩ := comp_grow (ix := [none, some 1]) (fi := fStrI (fVar 0)) (it := .seq (w.cps.toList.map fun c => U.str ⟨#[c]⟩)) (g := gN 0) (tt := none) (fe := b_holds_only_1e) (δ := [some (.str w), some (.str signs)]) (L := L) (L0 := L)
    w.cps.toList (fun c => U.str ⟨#[c]⟩) (fun _ => true) (fun c => .bl (decide (c ∈ signs.cps.toList))) (fun δ => ∃ a, δ = [a, some (.str signs)]) hi (by simp [IU.size]) (by omega) ⟨none, rfl⟩
    (fun k x => rfl)
    (fun c δ x _ ⟨y, hδ⟩ => by
      subst hδ
      refine ⟨[some (.str ⟨#[c]⟩), some (.str signs)], rfl, ⟨_, rfl⟩, [], by simp [testU], fun _ => ⟨[], ?_⟩⟩
      have hfo := StrLaws.found_one signs c
      show some (U.bl (!(Builtin.Str.occurrences signs ⟨#[c]⟩ 0 signs.length 1).isEmpty), L ++ x ++ []) = _
      rw [hfo]; simp)
  have hff : List.filter (fun _ => true) w.cps.toList = w.cps.toList := List.filter_eq_self.mpr (fun _ _ => rfl)
  rw [hff] at e
  have q1 : seqAt (L ++ x ++ [HU.lst (w.cps.toList.map fun c => .bl (decide (c ∈ signs.cps.toList)))]) (L ++ x).length = some (w.cps.toList.map fun c => U.bl (decide (c ∈ signs.cps.toList))) := seqAt_lst (by simp)
  have ha := all_lst _ _ q1
  refine ⟨L ++ x ++ [HU.lst (w.cps.toList.map fun c => .bl (decide (c ∈ signs.cps.toList)))], ?_, ⟨x ++ [HU.lst (w.cps.toList.map fun c => .bl (decide (c ∈ signs.cps.toList)))], by rw [List.append_assoc]⟩⟩
  unfold m_holds_only fnU b_holds_only
  simp only [List.length_cons, List.length_nil, if_true, List.map_cons, List.map_nil, Nat.sub_self, List.replicate_zero, List.append_nil, fRet_eq, fCall_eq, fCons_eq, fNil_eq, Option.map_some, Option.bind_some, e, ha]
theorem abc_cps : (Str.cps "abcdefghijklmnopqrstuvwxyz").toList = (List.range 26).map (97 + ·) := by decide +kernel
theorem fig_signs : (Str.cps "0123456789").toList = (List.range 10).map (48 + ·) := by decide +kernel
theorem mem_abc {c : Nat} (h : 97 ≤ c ∧ c ≤ 122) : c ∈ (Str.cps "abcdefghijklmnopqrstuvwxyz").toList := by
  rw [abc_cps]
  exact List.mem_map.mpr ⟨c - 97, List.mem_range.mpr (by omega), by omega⟩
theorem mem_figs {c : Nat} (h : 48 ≤ c ∧ c ≤ 57) : c ∈ (Str.cps "0123456789").toList := by
  rw [fig_signs]
  exact List.mem_map.mpr ⟨c - 48, List.mem_range.mpr (by omega), by omega⟩
theorem asc_of {w : Str} (h : ∀ c ∈ w.cps.toList, c < 128) : asc w := by
  unfold asc
  rw [← Array.all_toList, List.all_eq_true]
  intro c hc
  exact decide_eq_true (h c hc)
theorem chain_le {fa fb fc : FE} {δ : UE} {L : UH} {a b c : Int} (ha : fa δ L = some (.int a, L)) (hb : fb δ L = some (.int b, L)) (hc : fc δ L = some (.int c, L)) : fChain semLe semLe fa fb fc δ L = some (.bl (decide (a ≤ b) && decide (b ≤ c)), L) := by
  unfold fChain
  rw [ha, Option.bind_some, hb]
  cases h : decide (a ≤ b) <;> simp [h, hc]
theorem len_str {w : Str} (h : w.length ≤ 1000) (L : UH) : semLen [.str w] L = some (.int w.length, L) := by
  unfold semLen lenU
  simp only [small_of (show w.length ≤ 16777216 by omega), if_true, Option.map_some]
theorem is_name_ok {w : Str} (h : Nm w) (L : UH) : ∃ L', m_is_name [.str w] L = some (.bl true, L') ∧ Gw L L' := by
  obtain ⟨h1, h2, h3⟩ := h
  obtain ⟨L', e, g⟩ := holds_ok w "abcdefghijklmnopqrstuvwxyz" (asc_of fun c hc => by have := h3 c hc; omega) (by omega) L
  have ht : (w.cps.toList.all fun c => decide (c ∈ (Str.cps "abcdefghijklmnopqrstuvwxyz").toList)) = true := List.all_eq_true.mpr fun c hc => decide_eq_true (mem_abc (h3 c hc))
  rw [ht] at e
  refine ⟨L', fn1 (n := 0) ?_, g⟩
  have c1 : fChain semLe semLe (fC (.int 1)) (fCall semLen (fCons (fVar 0) fNil)) (fC (.int 8)) [some (.str w)] L = some (.bl true, L) := by
    have hb : (fCall semLen (fCons (fVar 0) fNil)) [some (.str w)] L = some (.int w.length, L) := by
      simp only [fCall_eq, fCons_eq, fNil_eq, fVar_eq, List.getElem?_cons_zero, Option.join_some, Option.map_some, Option.bind_some, len_str (show w.length ≤ 1000 by omega)]
    rw [chain_le (a := 1) (b := w.length) (c := 8) rfl hb rfl, decide_eq_true (show (1 : Int) ≤ w.length by omega), decide_eq_true (show (w.length : Int) ≤ 8 by omega)]
    rfl
  show fRet _ [some (.str w)] L = _
  refine ret_ok ?_
  rw [fAndV_eq, c1]
  simp only [Option.bind_some, if_true]
  exact own2 (u := .str w) rfl rfl e
theorem zero_cps : (Str.cps "0").toList = [48] := by decide +kernel
theorem minus_cps : (Str.cps "-").toList = [45] := by decide +kernel
theorem empty_cps : (Str.cps "").toList = [] := by decide +kernel
theorem str_ne {a b : Str} (h : a.cps.toList ≠ b.cps.toList) : a ≠ b := fun q => h (by rw [q])
theorem ok_asc {w : Str} (h : asc w) : Pl 6 (.str w) := by
  show PyData.strOk w = true
  unfold PyData.strOk
  unfold asc at h
  rw [← Array.all_toList, List.all_eq_true] at h ⊢
  intro c hc
  have := of_decide_eq_true (h c hc)
  exact decide_eq_true (by omega)
theorem eqB_str {a b : Str} (ha : asc a) (hb : asc b) : eqB (.str a) (.str b) = decide (a = b) := by
  rw [Bool.eq_iff_iff, eqB_iff (ok_asc ha) (ok_asc hb), decide_eq_true_eq]
  exact ⟨fun q => by injection q, fun q => by rw [q]⟩
theorem semEq_str {a b : Str} (ha : asc a) (hb : asc b) (L : UH) : semEq (.str a) (.str b) L = some (.bl (decide (a = b)), L) := by
  rw [semEq_pl L (ok_asc ha) (ok_asc hb), eqB_str ha hb]
theorem semNe_str {a b : Str} (ha : asc a) (hb : asc b) (L : UH) : semNe (.str a) (.str b) L = some (.bl (!decide (a = b)), L) := by
  rw [semNe_pl L (ok_asc ha) (ok_asc hb), eqB_str ha hb]
theorem asc_zero : asc "0" := by unfold asc; decide +kernel
theorem asc_empty : asc "" := by unfold asc; decide +kernel
theorem asc_one {c : Nat} (h : c < 128) : asc ⟨#[c]⟩ := asc_of fun x hx => by
  have : x = c := by simpa using hx
  omega
theorem fig_asc (n : Int) : asc (fig n) := asc_of fun c hc => by
  rw [fig_cps] at hc
  rcases List.mem_append.mp hc with q | q
  · split at q
    · have : c = 45 := by simpa using q
      omega
    · simp at q
  · have := (dig_facts n.natAbs).1 c q
    omega
/-- what stands behind the sign -/
def figA (n : Int) : Str := ⟨(dig n.natAbs).toArray⟩
theorem figA_cps (n : Int) : (figA n).cps.toList = dig n.natAbs := by unfold figA; simp
theorem dig_head (n : Nat) : ∃ c r, dig n = c :: r ∧ 48 ≤ c ∧ c ≤ 57 := by
  obtain ⟨h1, h2, _, _⟩ := dig_facts n
  cases e : dig n with
  | nil => exact absurd e h2
  | cons c r => exact ⟨c, r, rfl, h1 c (by rw [e]; exact List.mem_cons_self ..)⟩
theorem starts_minus (n : Int) : Txt.startswith (fig n) "-" = decide (n < 0) := by
  unfold Txt.startswith
  rw [StrLaws.subAt_eq, minus_cps, fig_cps]
  have hm : Str.length "-" = 1 := by rw [len_cps, minus_cps]; rfl
  have hl : (fig n).length = (fig n).cps.toList.length := len_cps _
  rw [hm, hl, fig_cps]
  obtain ⟨c, r, e, h1, h2⟩ := dig_head n.natAbs
  rw [e]
  by_cases h : n < 0
  · rw [if_pos h, decide_eq_true h]
    simp
  · rw [if_neg h, decide_eq_false h]
    have : (c == 45) = false := by simp; omega
    simp [this]
theorem idx_none (a len : Nat) : Builtin.Str.strSliceIndices (some (a : Int)) none 1 len = Builtin.Str.strSliceIndices (some (a : Int)) (some (len : Int)) 1 len := by
  unfold Builtin.Str.strSliceIndices
  have h2 : ¬ ((len : Int) < 0) := by omega
  have e2 : max (0 : Int) (min (len : Int) (len : Int)) = len := by omega
  simp only [h2, if_false, e2, show ((1 : Int) > 0) = True from by simp, if_true]
theorem slice_one {x : Str} (h : 1 ≤ x.length) : (Txt.slice x (some 1) none).cps.toList = x.cps.toList.drop 1 := by
  have e := idx_none 1 x.length
  have p := StrLaws.strSliceIndices_plain (a := 1) (b := x.length) (len := x.length) h (Nat.le_refl _)
  have q := StrLaws.sliced_plain x (a := 1) (b := x.length) h (Nat.le_refl _)
  have i1 : ((1 : Nat) : Int) = 1 := rfl
  rw [i1] at e p q
  unfold Txt.slice
  rw [e]
  have hl : (Builtin.Str.strSliceIndices (some 1) (some (x.length : Int)) 1 x.length).length = x.length - 1 := by rw [p]; simp
  rw [if_neg (by rw [hl]; simp; omega), q]
  have : x.length = x.cps.toList.length := len_cps x
  simp only [List.take_of_length_le (by rw [List.length_drop]; omega : (x.cps.toList.drop 1).length ≤ x.length - 1)]
theorem figA_asc (n : Int) : asc (figA n) := asc_of fun c hc => by
  rw [figA_cps] at hc
  have := (dig_facts n.natAbs).1 c hc
  omega
theorem is_number_ok {n : Int} (h : -9999999999 ≤ n ∧ n ≤ 9999999999) (L : UH) : ∃ L', m_is_number [.str (fig n)] L = some (.bl true, L') ∧ Gw L L' := by
  have hlf := fig_len h
  have hst := starts_minus n
  have hlA : (figA n).length ≤ 11 := by
    rw [len_cps, figA_cps]
    have h1 : (fig n).length = (fig n).cps.toList.length := len_cps _
    rw [fig_cps, List.length_append] at h1
    omega
  obtain ⟨L', e, g⟩ := holds_ok (figA n) "0123456789" (figA_asc n) (by omega) L
  have hd := dig_facts n.natAbs
  have ht : ((figA n).cps.toList.all fun c => decide (c ∈ (Str.cps "0123456789").toList)) = true := List.all_eq_true.mpr fun c hc => decide_eq_true (mem_figs (hd.1 c (by rw [figA_cps] at hc; exact hc)))
  rw [ht] at e
  have ty : ∀ L, tyU "str" (.str (fig n)) L = true := fun _ => rfl
  have c0 : (fTru (fMeth "str" semStarts (fVar 0) (fCons (fC (.str "-")) fNil))) [some (.str (fig n)), none] L = some (decide (n < 0), L) := by
    rw [fTru_eq, fMeth_eq]
    simp only [fVar_eq, fCons_eq, fC_eq, fNil_eq, List.getElem?_cons_zero, Option.join_some, Option.map_some, Option.bind_some, ty, if_true, semStarts, hst, truU_bl]
  have s1 : (fAsg (fIf (fTru (fMeth "str" semStarts (fVar 0) (fCons (fC (.str "-")) fNil))) (fSl semSlZ (fVar 0) (fPart (fC (.int 1))) fNoPart) (fVar 0)) (gN 1)) [some (.str (fig n)), none] L = some (.nx [some (.str (fig n)), some (.str (figA n))], L) := by
    refine setN ?_
    rw [fIf_eq, c0, Option.bind_some]
    by_cases h0 : n < 0
    · have hx : (fig n).cps.toList = 45 :: dig n.natAbs := by rw [fig_cps, if_pos h0]; rfl
      have hs : Txt.slice (fig n) (some 1) none = figA n := by
        apply str_ext
        rw [slice_one (by rw [len_cps, hx]; simp), hx, figA_cps]
        rfl
      simp only [decide_eq_true h0, if_true, fSl_eq, fVar_eq, fPart_eq, fNoPart_eq, fC_eq, List.getElem?_cons_zero, Option.join_some, Option.map_some, Option.bind_some, semSlZ]
      rw [if_pos (small_of (by omega)), hs]
    · have hx : fig n = figA n := str_ext (by rw [fig_cps, if_neg h0, figA_cps]; rfl)
      simp only [decide_eq_false h0, Bool.false_eq_true, if_false, fVar_eq, List.getElem?_cons_zero, Option.join_some, Option.map_some]
      rw [← hx]
  have hne : (decide (figA n = "")) = false := decide_eq_false (str_ne (by rw [figA_cps, empty_cps]; exact hd.2.1))
  have s2 : (fIfS (fOr (fTest (f2 semEq (fVar 1) (fC (.str "")))) (fNot (fTru (fOwn 2 m_holds_only (fCons (fVar 1) (fCons (fC (.str "0123456789")) fNil)))))) (fRet (fC (.bl false))) fNext) [some (.str (fig n)), some (.str (figA n))] L = some (.nx [some (.str (fig n)), some (.str (figA n))], L') := by
    have t1 : (fTest (f2 semEq (fVar 1) (fC (.str "")))) [some (.str (fig n)), some (.str (figA n))] L = some (false, L) := by
      rw [fTest_eq, f2_eq]
      simp only [fVar_eq, fC_eq, List.getElem?_cons_zero, List.getElem?_cons_succ, Option.join_some, Option.map_some, Option.bind_some, semEq_str (figA_asc n) asc_empty, hne]
    have t2 : (fOwn 2 m_holds_only (fCons (fVar 1) (fCons (fC (.str "0123456789")) fNil))) [some (.str (fig n)), some (.str (figA n))] L = some (.bl true, L') := own2 (u := .str (figA n)) rfl rfl e
    rw [fIfS_eq, fOr_eq, t1]
    simp only [Option.bind_some, Bool.false_eq_true, if_false, fNot_eq, fTru_eq, t2, truU_bl, Option.map_some, Bool.not_true, fNext_eq]
  refine ⟨L', fn1 (n := 1) ?_, g⟩
  obtain ⟨c, r, ec, h1, h2⟩ := dig_head n.natAbs
  have hix : ∀ L, semIx (.str (figA n)) (.int 0) L = some (.str ⟨#[c]⟩, L) := fun L => by
    rw [semIx_str, if_pos (small_of (by omega)), figA_cps, ec, atI_of (by omega) (by simp)]
    rfl
  have hc0 : (decide ((⟨#[c]⟩ : Str) = "0")) = decide (c = 48) := by
    rw [Bool.eq_iff_iff, decide_eq_true_eq, decide_eq_true_eq]
    constructor
    · intro q
      have : ([c] : List Nat) = (Str.cps "0").toList := by rw [← q]
      rw [zero_cps] at this
      simpa using this
    · intro q
      apply str_ext
      rw [zero_cps, q]
  have s3 : (fOrV (f2 semNe (f2 semIx (fVar 1) (fC (.int 0))) (fC (.str "0"))) (f2 semEq (fVar 0) (fC (.str "0")))) [some (.str (fig n)), some (.str (figA n))] L' = some (.bl true, L') := by
    have t1 : (f2 semNe (f2 semIx (fVar 1) (fC (.int 0))) (fC (.str "0"))) [some (.str (fig n)), some (.str (figA n))] L' = some (.bl (!decide (c = 48)), L') := by
      rw [f2_eq, f2_eq]
      simp only [fVar_eq, fC_eq, List.getElem?_cons_zero, List.getElem?_cons_succ, Option.join_some, Option.map_some, Option.bind_some, hix, semNe_str (asc_one (show c < 128 by omega)) asc_zero, hc0]
    rw [fOrV_eq, t1]
    by_cases q : c = 48
    · have hz : n.natAbs = 0 := by
        by_cases z : n.natAbs = 0
        · exact z
        · obtain ⟨c', r', e', hc'⟩ := hd.2.2.2 z
          rw [ec] at e'
          injection e' with a b
          exact absurd (a.symm.trans q) hc'
      have hn0 : n = 0 := by omega
      have hf0 : fig n = "0" := by
        apply str_ext
        rw [fig_cps, zero_cps, hn0, if_neg (by decide)]
        show [] ++ dig 0 = [48]
        rw [dig_lt (by decide)]; rfl
      have t2 : (f2 semEq (fVar 0) (fC (.str "0"))) [some (.str (fig n)), some (.str (figA n))] L' = some (.bl true, L') := by
        rw [f2_eq]
        simp only [fVar_eq, fC_eq, List.getElem?_cons_zero, Option.join_some, Option.map_some, Option.bind_some, semEq_str (fig_asc n) asc_zero, decide_eq_true hf0]
      rw [decide_eq_true q]
      simp only [Option.bind_some, Bool.not_true, Bool.false_eq_true, if_false, t2]
    · rw [decide_eq_false q]
      simp only [Option.bind_some, Bool.not_false, if_true]
  unfold b_is_number
  show fSeq _ _ [some (.str (fig n)), none] L = _
  rw [fSeq_nx s1, fSeq_nx s2]
  exact ret_ok s3

end Lw

set_option Elab.async false
set_option linter.all false
set_option maxRecDepth 100000
set_option maxHeartbeats 1000000
namespace Lw
open PySem L2 MR
theorem sp_cps : (Str.cps " ").toList = [32] := by decide +kernel
theorem nl_cps : (Str.cps "\n").toList = [10] := by decide +kernel
theorem sp_eq : (" " : Str) = ⟨#[32]⟩ := str_ext (by rw [sp_cps])
theorem nl_eq : ("\n" : Str) = ⟨#[10]⟩ := str_ext (by rw [nl_cps])
def line (p : Str × (Int × Int)) : Str := p.1 ++ " " ++ fig p.2.1 ++ " " ++ fig p.2.2
theorem line_join (p : Str × (Int × Int)) : line p = Str.join ⟨#[32]⟩ [p.1, fig p.2.1, fig p.2.2] := by
  apply str_ext
  rw [join_cons, join_cons]
  unfold line
  rw [app_cps, app_cps, app_cps, app_cps, sp_cps]
  show _ = p.1.cps.toList ++ 32 :: ((fig p.2.1).cps.toList ++ 32 :: (fig p.2.2).cps.toList)
  simp
theorem Nm.free {w : Str} (h : Nm w) {c : Nat} (hc : c < 97) : c ∉ w.cps.toList := fun q => by
  have := h.2.2 c q
  omega
theorem line_split {p : Str × (Int × Int)} (h : Nm p.1) : Txt.split (line p) " " = [p.1, fig p.2.1, fig p.2.2] := by
  rw [line_join, sp_eq]
  refine split_join (by simp) fun q hq => ?_
  rcases List.mem_cons.mp hq with e | hq
  · rw [e]; exact h.free (by decide)
  · rcases List.mem_cons.mp hq with e | hq
    · rw [e]; exact fig_free (by decide)
    · have e : q = fig p.2.2 := by simpa using hq
      rw [e]; exact fig_free (by decide)
theorem line_cps (p : Str × (Int × Int)) : (line p).cps.toList = p.1.cps.toList ++ 32 :: ((fig p.2.1).cps.toList ++ 32 :: (fig p.2.2).cps.toList) := by
  rw [line_join, join_cons, join_cons]; rfl
theorem line_len {p : Str × (Int × Int)} (h : Nm p.1) (hb : Pb p.2) : (line p).length ≤ 40 := by
  have h1 := fig_len (n := p.2.1) (by have := hb; unfold Pb at this; omega)
  have h2 := fig_len (n := p.2.2) (by have := hb; unfold Pb at this; omega)
  have h3 := h.2.1
  rw [len_cps] at h1 h2 h3
  rw [len_cps, line_cps]
  simp only [List.length_append, List.length_cons]
  omega
theorem point_in_ok {p : Str × (Int × Int)} (h : Nm p.1) (hb : Pb p.2) (L : UH) : ∃ L', m_point_in [.str (line p)] L = some (ptU p, L') ∧ Gw L L' := by
  have hb' : (-9999999999 ≤ p.2.1 ∧ p.2.1 ≤ 9999999999) ∧ (-9999999999 ≤ p.2.2 ∧ p.2.2 ≤ 9999999999) := by unfold Pb at hb; omega
  have hll := line_len h hb
  have ty : ∀ L, tyU "str" (.str (line p)) L = true := fun _ => rfl
  have hsp : (Str.length " " == 0) = false := by decide +kernel
  have s1 : (fAsg (fMeth "str" semSplit (fVar 0) (fCons (fC (.str " ")) fNil)) (gN 1)) [some (.str (line p)), none] L = some (.nx [some (.str (line p)), some (.ref L.length)], L ++ [.lst [.str p.1, .str (fig p.2.1), .str (fig p.2.2)]]) := by
    refine setN ?_
    rw [fMeth_eq]
    simp only [fVar_eq, fCons_eq, fC_eq, fNil_eq, List.getElem?_cons_zero, Option.join_some, Option.map_some, Option.bind_some, ty, if_true, semSplit]
    rw [if_pos ⟨hsp, by omega⟩, line_split h]
    rfl
  generalize hM : L ++ [HU.lst [.str p.1, .str (fig p.2.1), .str (fig p.2.2)]] = M at s1
  have hat : M[L.length]? = some (.lst [.str p.1, .str (fig p.2.1), .str (fig p.2.2)]) := by rw [← hM]; simp
  have gM : Gw L M := by rw [← hM]; exact Gw.new _ _
  obtain ⟨L1, e1, g1⟩ := is_name_ok h M
  obtain ⟨J2, e2, g2⟩ := is_number_ok hb'.1 L1
  obtain ⟨L3, e3, g3⟩ := is_number_ok hb'.2 J2
  have ix : ∀ (N : UH), Gw M N → ∀ (k : Nat) (w : Str), [U.str p.1, .str (fig p.2.1), .str (fig p.2.2)][k]? = some (.str w) → ∀ δ : UE, fVar 1 δ N = some (.ref L.length, N) → (f2 semIx (fVar 1) (fC (.int (k : Int)))) δ N = some (.str w, N) := by
    intro N gN k w hk δ hv
    have hs := seqAt_lst (gN.get hat)
    have hix : L2.atI [U.str p.1, .str (fig p.2.1), .str (fig p.2.2)] (k : Int) = some (.str w) := by
      rw [atI_of (by omega) (by have := (List.getElem?_eq_some_iff.mp hk).1; omega), Int.toNat_natCast]; exact hk
    rw [f2_eq, hv]
    simp only [Option.bind_some, fC_eq, semIx_ref, hs, hix, Option.map_some]
  have hlen : semLen [.ref L.length] M = some (.int 3, M) := by
    have := len_lst hat
    exact this
  have s2 : (fIfS (fOr (fTest (f2 semNe (fCall semLen (fCons (fVar 1) fNil)) (fC (.int 3)))) (fNot (fTru (fOwn 1 m_is_name (fCons (f2 semIx (fVar 1) (fC (.int 0))) fNil))))) (fRet (fC .non)) fNext) [some (.str (line p)), some (.ref L.length)] M = some (.nx [some (.str (line p)), some (.ref L.length)], L1) := by
    have t1 : (fTest (f2 semNe (fCall semLen (fCons (fVar 1) fNil)) (fC (.int 3)))) [some (.str (line p)), some (.ref L.length)] M = some (false, M) := by
      rw [fTest_eq, f2_eq]
      simp only [fCall_eq, fCons_eq, fNil_eq, fVar_eq, fC_eq, List.getElem?_cons_zero, List.getElem?_cons_succ, Option.join_some, Option.map_some, Option.bind_some, hlen, semNe_int, beq_self_eq_true, Bool.not_true]
    have t2 : (fOwn 1 m_is_name (fCons (f2 semIx (fVar 1) (fC (.int 0))) fNil)) [some (.str (line p)), some (.ref L.length)] M = some (.bl true, L1) := own1e (ix M (.refl _) 0 p.1 rfl _ rfl) e1
    rw [fIfS_eq, fOr_eq, t1]
    simp only [Option.bind_some, Bool.false_eq_true, if_false, fNot_eq, fTru_eq, t2, truU_bl, Option.map_some, Bool.not_true, fNext_eq]
  have s3 : (fIfS (fOr (fNot (fTru (fOwn 1 m_is_number (fCons (f2 semIx (fVar 1) (fC (.int 1))) fNil)))) (fNot (fTru (fOwn 1 m_is_number (fCons (f2 semIx (fVar 1) (fC (.int 2))) fNil))))) (fRet (fC .non)) fNext) [some (.str (line p)), some (.ref L.length)] L1 = some (.nx [some (.str (line p)), some (.ref L.length)], L3) := by
    have t1 : (fOwn 1 m_is_number (fCons (f2 semIx (fVar 1) (fC (.int 1))) fNil)) [some (.str (line p)), some (.ref L.length)] L1 = some (.bl true, J2) := own1e (ix L1 g1 1 (fig p.2.1) rfl _ rfl) e2
    have t2 : (fOwn 1 m_is_number (fCons (f2 semIx (fVar 1) (fC (.int 2))) fNil)) [some (.str (line p)), some (.ref L.length)] J2 = some (.bl true, L3) := own1e (ix J2 (g1.trans g2) 2 (fig p.2.2) rfl _ rfl) e3
    rw [fIfS_eq, fOr_eq, fNot_eq, fTru_eq, t1]
    simp only [Option.bind_some, truU_bl, Option.map_some, Bool.not_true, Bool.false_eq_true, if_false, fNot_eq, fTru_eq, t2, fNext_eq]
  have g13 := g1.trans (g2.trans g3)
  have it : ∀ {n : Int}, (-9999999999 ≤ n ∧ n ≤ 9999999999) → ∀ N : UH, semIntT [.str (fig n)] N = some (.int n, N) := fun hn N => by
    unfold semIntT
    have := fig_len hn
    simp only
    rw [if_pos (by omega), fig_int hn]
    rfl
  have sm3 : ∀ x y z : U, small [x, y, z].length = true := fun _ _ _ => small_of (by show 3 ≤ 16777216; decide)
  have s4 : (fTup (fCons (f2 semIx (fVar 1) (fC (.int 0))) (fCons (fCall semIntT (fCons (f2 semIx (fVar 1) (fC (.int 1))) fNil)) (fCons (fCall semIntT (fCons (f2 semIx (fVar 1) (fC (.int 2))) fNil)) fNil)))) [some (.str (line p)), some (.ref L.length)] L3 = some (ptU p, L3) := by
    have c0 := ix L3 g13 0 p.1 rfl [some (.str (line p)), some (.ref L.length)] rfl
    have c1 := ix L3 g13 1 (fig p.2.1) rfl [some (.str (line p)), some (.ref L.length)] rfl
    have c2 := ix L3 g13 2 (fig p.2.2) rfl [some (.str (line p)), some (.ref L.length)] rfl
    have d1 : (fCall semIntT (fCons (f2 semIx (fVar 1) (fC (.int 1))) fNil)) [some (.str (line p)), some (.ref L.length)] L3 = some (.int p.2.1, L3) := by
      rw [fCall_eq, fCons_eq]
      erw [c1]
      simp only [Option.bind_some, fNil_eq, Option.map_some, it hb'.1]
    have d2 : (fCall semIntT (fCons (f2 semIx (fVar 1) (fC (.int 2))) fNil)) [some (.str (line p)), some (.ref L.length)] L3 = some (.int p.2.2, L3) := by
      rw [fCall_eq, fCons_eq]
      erw [c2]
      simp only [Option.bind_some, fNil_eq, Option.map_some, it hb'.2]
    rw [fTup_eq, fCons_eq]
    erw [c0]
    rw [Option.bind_some, fCons_eq, d1, Option.bind_some, fCons_eq, d2]
    simp only [Option.bind_some, fNil_eq, Option.map_some]
    rw [if_pos (sm3 _ _ _)]
    rfl
  refine ⟨L3, fn1 (n := 1) ?_, gM.trans g13⟩
  unfold b_point_in
  show fSeq _ _ [some (.str (line p)), none] L = _
  rw [fSeq_nx s1]
  show fSeq _ _ [some (.str (line p)), some (.ref L.length)] M = _
  rw [fSeq_nx s2, fSeq_nx s3]
  exact ret_ok s4

end Lw

set_option Elab.async false
set_option linter.all false
set_option maxRecDepth 100000
set_option maxHeartbeats 1000000
namespace Lw
open PySem L2 MR
theorem digit_ix (m : Nat) (L : UH) : semIx (.str "0123456789") (.int ((m % 10 : Nat) : Int)) L = some (.str ⟨#[48 + m % 10]⟩, L) := by
  have hm : m % 10 < 10 := Nat.mod_lt _ (by decide)
  have hl : (Str.cps "0123456789").toList.length = 10 := by rw [fig_signs]; simp
  rw [semIx_str, if_pos (small_of (by rw [len_cps, hl]; decide)), atI_of (by omega) (by rw [hl]; omega), Int.toNat_natCast, fig_signs, List.getElem?_map, List.getElem?_range hm]
  rfl
def stT (l : List Nat) : Str := ⟨l.toArray⟩
theorem stT_cps (l : List Nat) : (stT l).cps.toList = l := by unfold stT; simp
theorem stT_len (l : List Nat) : (stT l).length = l.length := by rw [len_cps, stT_cps]
theorem cat_str (a b : Str) (h : a.length + b.length ≤ 1000) (L : UH) : semAdd (.str a) (.str b) L = some (.str (a ++ b), L) := by
  unfold semAdd
  simp only
  rw [if_pos (small_of (by omega))]
theorem fig_step {m k : Nat} {t : List Nat} {L : UH} (hk : k < 30) (ht : t.length ≤ k + 1) (x1 y3 : Option U) :
    ∃ (m' : Nat) (t' : List Nat), b_l_figures_1 [some (.int (m : Int)), x1, some (.str (stT t)), y3] L = some (.nx [some (.int (m' : Int)), x1, some (.str (stT t')), y3], L) ∧ t'.length ≤ k + 2 ∧ (∀ m0, dig m0 = (if m < 10 then [] else dig (m / 10)) ++ t → dig m0 = (if m' < 10 then [] else dig (m' / 10)) ++ t') ∧ (m' = m / 10 ∨ (m' = m ∧ m < 10)) := by
  have tt : (fTest (f2 semGt (fVar 0) (fC (.int 9)))) [some (.int (m : Int)), x1, some (.str (stT t)), y3] L = some (decide ((9 : Int) < m), L) := by
    simp only [fTest_eq, f2_eq, fVar_eq, fC_eq, List.getElem?_cons_succ, List.getElem?_cons_zero, Option.join_some, Option.map_some, Option.bind_some, semGt_int]
  unfold b_l_figures_1
  rw [fIfS_eq, tt]
  by_cases h : (9 : Int) < m
  · have hm : ¬ m < 10 := by omega
    refine ⟨m / 10, (48 + m / 10 % 10) :: t, ?_, by simp; omega, fun m0 e => ?_, .inl rfl⟩
    · have hd : divOk (m : Int) 10 = true := divOk_of (by decide) (by decide)
      have e1 : (m : Int) / 10 = ((m / 10 : Nat) : Int) := by omega
      have e2 : ((m / 10 : Nat) : Int) % 10 = ((m / 10 % 10 : Nat) : Int) := by omega
      have s1 : (fAsg (f2 semDiv (fVar 0) (fC (.int 10))) (gN 0)) [some (.int (m : Int)), x1, some (.str (stT t)), y3] L = some (.nx [some (.int ((m / 10 : Nat) : Int)), x1, some (.str (stT t)), y3], L) := by
        refine setN ?_
        simp only [f2_eq, fVar_eq, fC_eq, List.getElem?_cons_zero, Option.join_some, Option.map_some, Option.bind_some, semDiv_int]
        rw [if_pos hd, e1]
      have hcat : (⟨#[48 + m / 10 % 10]⟩ : Str) ++ stT t = stT ((48 + m / 10 % 10) :: t) := str_ext (by rw [app_cps, stT_cps, stT_cps]; rfl)
      have hl1 : Str.length (⟨#[48 + m / 10 % 10]⟩ : Str) = 1 := rfl
      have c := cat_str ⟨#[48 + m / 10 % 10]⟩ (stT t) (by rw [hl1, stT_len]; omega) L
      rw [hcat] at c
      have dm : semMod (.int ((m / 10 : Nat) : Int)) (.int 10) L = some (.int ((m / 10 % 10 : Nat) : Int), L) := by
        rw [← e2]; rfl
      have dg := digit_ix (m / 10) L
      have s2 : (fAsg (f2 semAdd (f2 semIx (fC (.str "0123456789")) (f2 semMod (fVar 0) (fC (.int 10)))) (fVar 2)) (gN 2)) [some (.int ((m / 10 : Nat) : Int)), x1, some (.str (stT t)), y3] L = some (.nx [some (.int ((m / 10 : Nat) : Int)), x1, some (.str (stT ((48 + m / 10 % 10) :: t))), y3], L) := by
        refine setN ?_
        rw [f2_eq, f2_eq, fC_eq, Option.bind_some, f2_eq]
        simp only [fVar_eq, fC_eq, List.getElem?_cons_zero, List.getElem?_cons_succ, Option.join_some, Option.map_some, Option.bind_some, dm, dg, c]
      rw [decide_eq_true h]
      simp only [Option.bind_some, if_true]
      rw [fSeq_nx s1, s2]
    · rw [e, if_neg hm]
      by_cases h2 : m / 10 < 10
      · rw [if_pos h2, dig_lt h2]
        have : m / 10 % 10 = m / 10 := Nat.mod_eq_of_lt h2
        rw [this]; rfl
      · rw [if_neg h2, dig_ge h2, List.append_assoc]; rfl
  · rw [decide_eq_false h]
    exact ⟨m, t, rfl, by omega, fun m0 e => e, .inr ⟨rfl, by omega⟩⟩
theorem figures_ok {n : Int} (h : -9999999999 ≤ n ∧ n ≤ 9999999999) (L : UH) : ∃ L', m_l_figures [.int n] L = some (.str (fig n), L') ∧ Gw L L' := by
  have sm2 : ∀ x y : U, small [x, y].length = true := fun _ _ => small_of (by show 2 ≤ 16777216; decide)
  generalize hM : L ++ [HU.lst [.str "", .str "-"]] = M
  have gM : Gw L M := by rw [← hM]; exact Gw.new _ _
  have hat : M[L.length]? = some (.lst [.str "", .str "-"]) := by rw [← hM]; simp
  have s1 : ∃ sg : Str, (fAsg (f2 semIx (fLst (fCons (fC (.str "")) (fCons (fC (.str "-")) fNil))) (fCall semInt (fCons (f2 semLt (fVar 0) (fC (.int 0))) fNil))) (gN 1)) [some (.int n), none, none, none] L = some (.nx [some (.int n), some (.str sg), none, none], M) ∧ sg.cps.toList = (if n < 0 then [45] else []) := by
    have hl : (fLst (fCons (fC (.str "")) (fCons (fC (.str "-")) fNil))) [some (.int n), none, none, none] L = some (.ref L.length, M) := by
      simp only [fLst_eq, fCons_eq, fC_eq, fNil_eq, Option.bind_some, Option.map_some]
      rw [if_pos (sm2 _ _), hM]
    by_cases h0 : n < 0
    · have hix : L2.atI [U.str "", .str "-"] 1 = some (.str "-") := rfl
      refine ⟨"-", setN ?_, by rw [if_pos h0, minus_cps]⟩
      rw [f2_eq, hl]
      simp only [Option.bind_some, fCall_eq, fCons_eq, fNil_eq, f2_eq, fVar_eq, fC_eq, List.getElem?_cons_zero, Option.join_some, Option.map_some, semLt_int, decide_eq_true h0, semInt, if_true, semIx_ref, seqAt_lst hat, hix]
    · have hix : L2.atI [U.str "", .str "-"] 0 = some (.str "") := rfl
      refine ⟨"", setN ?_, by rw [if_neg h0, empty_cps]⟩
      rw [f2_eq, hl]
      simp only [Option.bind_some, fCall_eq, fCons_eq, fNil_eq, f2_eq, fVar_eq, fC_eq, List.getElem?_cons_zero, Option.join_some, Option.map_some, semLt_int, decide_eq_false h0, semInt, Bool.false_eq_true, if_false, semIx_ref, seqAt_lst hat, hix]
  obtain ⟨sg, s1, hsg⟩ := s1
  have ha : (if n < 0 then -n else n) = ((n.natAbs : Nat) : Int) := by split <;> omega
  have s2 : (fAsg (fCall semAbs (fCons (fVar 0) fNil)) (gN 0)) [some (.int n), some (.str sg), none, none] M = some (.nx [some (.int ((n.natAbs : Nat) : Int)), some (.str sg), none, none], M) := by
    refine setN ?_
    simp only [fCall_eq, fCons_eq, fNil_eq, fVar_eq, List.getElem?_cons_zero, Option.join_some, Option.map_some, Option.bind_some, semAbs, ha]
  have hN : n.natAbs < 10 ^ 31 := Nat.lt_of_lt_of_le (show n.natAbs < 10 ^ 10 by omega) (by decide)
  generalize hm0 : n.natAbs = m0 at s2 hN
  have e2 : (m0 : Int) % 10 = ((m0 % 10 : Nat) : Int) := by omega
  have dm : semMod (.int (m0 : Int)) (.int 10) M = some (.int ((m0 % 10 : Nat) : Int), M) := by rw [← e2]; rfl
  have dg := digit_ix m0 M
  have s3 : (fAsg (f2 semIx (fC (.str "0123456789")) (f2 semMod (fVar 0) (fC (.int 10)))) (gN 2)) [some (.int (m0 : Int)), some (.str sg), none, none] M = some (.nx [some (.int (m0 : Int)), some (.str sg), some (.str (stT [48 + m0 % 10])), none], M) := by
    refine setN ?_
    rw [f2_eq, fC_eq, Option.bind_some, f2_eq]
    simp only [fVar_eq, fC_eq, List.getElem?_cons_zero, Option.join_some, Option.map_some, Option.bind_some, dm, dg]
    rfl
  have hi : fRng1 (fCons (fC (.int 30)) fNil) [some (.int (m0 : Int)), some (.str sg), some (.str (stT [48 + m0 % 10])), none] M = some (.seq (rangeU 0 30), M) := rng1_nat (n := 30) rfl (by omega)
  obtain ⟨δ', L', e, P⟩ := for_seq (us := rangeU 0 30) (body := b_l_figures_1) (g := gN 3)
    (fun k δ' L' => L' = M ∧ ∃ (m : Nat) (t : List Nat) (y3 : Option U), δ' = [some (.int (m : Int)), some (.str sg), some (.str (stT t)), y3] ∧ t.length ≤ k + 1 ∧ dig m0 = (if m < 10 then [] else dig (m / 10)) ++ t ∧ m < 10 ^ (31 - k))
    hi ⟨rfl, m0, [48 + m0 % 10], none, rfl, by simp, by
      by_cases q : m0 < 10
      · rw [if_pos q, dig_lt q, Nat.mod_eq_of_lt q]; rfl
      · rw [if_neg q, dig_ge q], hN⟩
    (fun k u δ M' hu ⟨hM', m, t, y3, hδ, h1, h2, h3⟩ => by
      subst hM'
      subst hδ
      obtain ⟨hk, rfl⟩ := rangeU_get hu
      obtain ⟨m', t', e', a1, a2, a3⟩ := fig_step (m := m) (t := t) (L := M') hk h1 (some (.str sg)) (some (.int (0 + (k : Int))))
      refine ⟨[some (.int (m : Int)), some (.str sg), some (.str (stT t)), some (.int (0 + (k : Int)))], M', rfl, _, M', .inl e', rfl, m', t', _, rfl, a1, a2 m0 h2, ?_⟩
      have hp : 31 - k = (31 - (k + 1)) + 1 := by omega
      rw [hp, Nat.pow_succ] at h3
      rcases a3 with q | ⟨q, q2⟩
      · rw [q]; exact Nat.div_lt_of_lt_mul (by rw [Nat.mul_comm]; exact h3)
      · rw [q]
        have : 10 ^ 1 ≤ 10 ^ (31 - (k + 1)) := Nat.pow_le_pow_right (by decide) (by omega)
        omega)
  obtain ⟨hM', m, t, y3, hδ, h1, h2, h3⟩ := P
  rw [rangeU_len] at h1 h3
  have hm9 : m < 10 := by simpa using h3
  rw [if_pos hm9, List.nil_append] at h2
  rw [hM', hδ] at e
  have hcat : sg ++ stT t = fig n := str_ext (by rw [app_cps, stT_cps, fig_cps, hsg, hm0, h2])
  have hsl : sg.length ≤ 1 := by
    rw [len_cps, hsg]
    split <;> simp
  have c := cat_str sg (stT t) (by rw [stT_len]; omega) M
  rw [hcat] at c
  refine ⟨M, fn1 (n := 3) ?_, gM⟩
  unfold b_l_figures
  show fSeq _ _ [some (.int n), none, none, none] L = _
  rw [fSeq_nx s1, fSeq_nx s2, fSeq_nx s3, fSeq_nx e]
  refine ret_ok ?_
  simp only [f2_eq, fVar_eq, List.getElem?_cons_zero, List.getElem?_cons_succ, Option.join_some, Option.map_some, Option.bind_some, c]
def txt (ps : List (Str × (Int × Int))) : Str := Str.join ⟨#[10]⟩ (ps.map line)
theorem toS_strs : ∀ l : List Str, mapO toS (l.map U.str) = some l
  | [] => rfl
  | a :: l => by simp only [List.map_cons, mapO, toS, toS_strs l, Option.bind_some, Option.map_some]
theorem sum_le {β : Type} (f : β → Nat) (b : Nat) : ∀ l : List β, (∀ x ∈ l, f x ≤ b) → (l.map f).sum ≤ b * l.length
  | [], _ => by simp
  | x :: l, h => by
    have h1 := h x (List.mem_cons_self ..)
    have h2 := sum_le f b l fun y hy => h y (List.mem_cons_of_mem _ hy)
    rw [List.map_cons, List.sum_cons, List.length_cons, Nat.mul_succ]
    omega
theorem line_e {p : Str × (Int × Int)} (h : Nm p.1) (hb : Pb p.2) (L : UH) : ∃ z, b_l_text_1e [some (.str p.1), some (.int p.2.1), some (.int p.2.2)] L = some (.str (line p), L ++ z) := by
  have hb' : (-9999999999 ≤ p.2.1 ∧ p.2.1 ≤ 9999999999) ∧ (-9999999999 ≤ p.2.2 ∧ p.2.2 ≤ 9999999999) := hb
  obtain ⟨L1, e1, z1, rfl⟩ := figures_ok hb'.1 L
  obtain ⟨J2, e2, z2, rfl⟩ := figures_ok hb'.2 (L ++ z1)
  have f1 := fig_len hb'.1
  have f2' := fig_len hb'.2
  have h3 := h.2.1
  have hs : Str.length " " = 1 := by rw [len_cps, sp_cps]; rfl
  have lapp : ∀ a b : Str, (a ++ b).length = a.length + b.length := fun a b => by rw [len_cps, app_cps, List.length_append, ← len_cps, ← len_cps]
  have c1 := cat_str p.1 " " (by omega) L
  have c2 := cat_str (p.1 ++ " ") (fig p.2.1) (by rw [lapp]; omega) (L ++ z1)
  have c3 := cat_str (p.1 ++ " " ++ fig p.2.1) " " (by rw [lapp, lapp]; omega) (L ++ z1)
  have c4 := cat_str (p.1 ++ " " ++ fig p.2.1 ++ " ") (fig p.2.2) (by rw [lapp, lapp, lapp]; omega) (L ++ z1 ++ z2)
  refine ⟨z1 ++ z2, ?_⟩
  have o1 : (fOwn 1 m_l_figures (fCons (fVar 1) fNil)) [some (.str p.1), some (.int p.2.1), some (.int p.2.2)] L = some (.str (fig p.2.1), L ++ z1) := own1 rfl e1
  have o2 : (fOwn 1 m_l_figures (fCons (fVar 2) fNil)) [some (.str p.1), some (.int p.2.1), some (.int p.2.2)] (L ++ z1) = some (.str (fig p.2.2), L ++ z1 ++ z2) := own1 rfl e2
  unfold b_l_text_1e
  rw [f2_eq, f2_eq, f2_eq, f2_eq]
  simp only [fVar_eq, fC_eq, List.getElem?_cons_zero, Option.join_some, Option.map_some, Option.bind_some, c1, o1, c2, c3, o2, c4]
  rw [List.append_assoc]; rfl
theorem text_ok {ps : List (Str × (Int × Int))} (P : Pts ps) (L : UH) : ∃ L', m_l_text [.tup (ps.map ptU)] L = some (.str (txt ps), L') ∧ Gw L L' := by
  obtain ⟨x, e⟩ := comp_grow (ix := [none, none, none]) (fi := fSeqI (fVar 0)) (it := .seq (ps.map ptU)) (g := (MR.gTup 3 (MR.gCons (gN 0) (MR.gCons (gN 1) (MR.gCons (gN 2) MR.gNil))))) (tt := none) (fe := b_l_text_1e) (δ := [some (.tup (ps.map ptU))]) (L := L) (L0 := L)
    ps ptU (fun _ => true) (fun p => .str (line p)) (fun δ => ∃ a b c, δ = [a, b, c]) (by simp [iSeqU]) (by simp [IU.size]) (by have := P.len; omega) ⟨none, none, none, rfl⟩
    (fun k x => rfl)
    (fun p δ x hp ⟨a, b, c, hδ⟩ => by
      subst hδ
      obtain ⟨z, ez⟩ := line_e (P.nm p hp) (P.pb p hp) (L ++ x)
      refine ⟨[some (.str p.1), some (.int p.2.1), some (.int p.2.2)], rfl, ⟨_, _, _, rfl⟩, [], by simp [testU], fun _ => ⟨z, ?_⟩⟩
      rw [List.append_nil]; exact ez)
  have hff : List.filter (fun _ => true) ps = ps := List.filter_eq_self.mpr (fun _ _ => rfl)
  have hmm : ps.map (fun p => U.str (line p)) = (ps.map line).map U.str := by simp
  rw [hff, hmm] at e
  have hat : (L ++ x ++ [HU.lst ((ps.map line).map U.str)])[(L ++ x).length]? = some (.lst ((ps.map line).map U.str)) := by simp
  have hnl : Str.length "\n" = 1 := by rw [len_cps, nl_cps]; rfl
  have hsum : (((ps.map line).map (·.length)).sum) ≤ 40 * ps.length := by
    rw [List.map_map]
    exact sum_le _ 40 ps fun p hp => line_len (P.nm p hp) (P.pb p hp)
  have hlen := P.len
  have hj : semJoin (.str "\n") [.ref (L ++ x).length] (L ++ x ++ [HU.lst ((ps.map line).map U.str)]) = some (.str (txt ps), L ++ x ++ [HU.lst ((ps.map line).map U.str)]) := by
    unfold semJoin
    simp only [lstAt_lst hat, Option.bind_some, toS_strs]
    rw [if_pos ⟨by omega, by rw [List.length_map]; omega⟩]
    have : Txt.join "\n" (ps.map line) = txt ps := by
      show Builtin.Str.glued "\n" (ps.map line) = _
      rw [StrLaws.glued_eq_join, nl_eq]; rfl
    rw [this]
  have ty : ∀ L, tyU "str" (.str "\n") L = true := fun _ => rfl
  refine ⟨L ++ x ++ [HU.lst ((ps.map line).map U.str)], fn1 (n := 0) ?_, ⟨x ++ [HU.lst ((ps.map line).map U.str)], by rw [List.append_assoc]⟩⟩
  unfold b_l_text
  show fRet _ [some (.tup (ps.map ptU))] L = _
  refine ret_ok ?_
  rw [fMeth_eq, fC_eq, Option.bind_some]
  simp only [ty, if_true]
  rw [fCons_eq, e]
  simp only [Option.bind_some, fNil_eq, Option.map_some, hj]

end Lw

set_option Elab.async false
set_option linter.all false
set_option maxRecDepth 100000
set_option maxHeartbeats 1000000
namespace Lw
open PySem L2 MR
theorem for_enm {fe : FE} {g : FG} {body : FS} {us : List U} {n : Nat} {δ : UE} {L L0 : UH} (P : Nat → UE → UH → Prop) (hfe : fe δ L = some (.ref n, L0)) (h0 : P 0 δ L0) (hl : ∀ k δ L, P k δ L → seqAt L n = some us) (step : ∀ (k : Nat) (u : U) δ L, us[k]? = some u → P k δ L → GoesOn g body (.tup [.int (k : Int), u]) δ L (P (k + 1))) :
    ∃ δ' L', fFor (fEnumA (fCons fe fNil)) g body δ L = some (.nx δ', L') ∧ P us.length δ' L' := by
  have hen : (enU us).length = us.length := by simp [enU]
  obtain ⟨δ', L', e, h⟩ := loop_any (it := .enm n) (g := g) (body := body) (us := enU us) P (fun k δ L _ hp => at_enm (hl k δ L hp))
    (fun k u δ L hu hp => by
      have : (enU us)[k]? = (us[k]?).map fun u => U.tup [.int (k : Int), u] := by simp [enU]
      rw [this] at hu
      obtain ⟨w, hw, rfl⟩ := Option.map_eq_some_iff.mp hu
      exact step k w δ L hw hp) (us.length + 1) 0 δ L0 (by omega) (by omega) h0
  rw [hen] at h
  refine ⟨δ', L', ?_, h⟩
  have hs := hl 0 δ L0 h0
  have hi : fEnumA (fCons fe fNil) δ L = some (.enm n, L0) := by
    unfold fEnumA
    simp only [fCons_eq, hfe, Option.bind_some, fNil_eq, Option.map_some, hs]
  rw [fFor_eq, hi]
  simp only [Option.bind_some, size_enm hs, hen]
  exact e
theorem join_mem (c : Nat) : ∀ (l : List Str) (x : Nat), x ∈ (Str.join ⟨#[c]⟩ l).cps.toList → x = c ∨ ∃ p ∈ l, x ∈ p.cps.toList
  | [], x, h => by
    have : (Str.join ⟨#[c]⟩ []).cps.toList = [] := rfl
    rw [this] at h; simp at h
  | [a], x, h => .inr ⟨a, List.mem_cons_self .., h⟩
  | a :: b :: r, x, h => by
    rw [join_cons] at h
    rcases List.mem_append.mp h with q | q
    · exact .inr ⟨a, List.mem_cons_self .., q⟩
    · rcases List.mem_cons.mp q with q | q
      · exact .inl q
      · rcases join_mem c (b :: r) x q with e | ⟨p, hp, hx⟩
        · exact .inl e
        · exact .inr ⟨p, List.mem_cons_of_mem _ hp, hx⟩
theorem line_chr {p : Str × (Int × Int)} (h : Nm p.1) {c : Nat} (hc : c ∈ (line p).cps.toList) : c < 128 ∧ c ≠ 10 := by
  rw [line_cps] at hc
  have hf : ∀ n : Int, c ∈ (fig n).cps.toList → c < 128 ∧ c ≠ 10 := fun n q => by
    refine ⟨?_, fun z => fig_free (n := n) (c := 10) (by decide) (z ▸ q)⟩
    have := fig_asc n
    unfold asc at this
    rw [← Array.all_toList, List.all_eq_true] at this
    exact of_decide_eq_true (this c q)
  rcases List.mem_append.mp hc with q | q
  · have := h.2.2 c q
    omega
  · rcases List.mem_cons.mp q with q | q
    · omega
    · rcases List.mem_append.mp q with q | q
      · exact hf _ q
      · rcases List.mem_cons.mp q with q | q
        · omega
        · exact hf _ q
theorem txt_asc {ps : List (Str × (Int × Int))} (h : ∀ p ∈ ps, Nm p.1) : asc (txt ps) := asc_of fun c hc => by
  rcases join_mem 10 _ c hc with q | ⟨l, hl, q⟩
  · omega
  · obtain ⟨p, hp, rfl⟩ := List.mem_map.mp hl
    exact (line_chr (h p hp) q).1
theorem txt_len {ps : List (Str × (Int × Int))} (P : Pts ps) : (txt ps).length ≤ 3000 := by
  have h := StrLaws.join_length_le ⟨#[10]⟩ (ps.map line)
  have hsum : (((ps.map line).map (·.length)).sum) ≤ 40 * ps.length := by
    rw [List.map_map]
    exact sum_le _ 40 ps fun p hp => line_len (P.nm p hp) (P.pb p hp)
  have h1 : Str.length (⟨#[10]⟩ : Str) = 1 := rfl
  have hlen := P.len
  rw [h1, List.length_map] at h
  unfold txt
  omega
theorem txt_split {ps : List (Str × (Int × Int))} (h : ∀ p ∈ ps, Nm p.1) (hne : ps ≠ []) : Txt.split (txt ps) "\n" = ps.map line := by
  rw [nl_eq]
  refine split_join (by simpa using hne) fun l hl => ?_
  obtain ⟨p, hp, rfl⟩ := List.mem_map.mp hl
  exact fun q => (line_chr (h p hp) q).2 rfl
theorem txt_ne {ps : List (Str × (Int × Int))} (h : ∀ p ∈ ps, Nm p.1) (hne : ps ≠ []) : txt ps ≠ "" := fun q => by
  have h1 : (txt ps).cps.toList = [] := by rw [q, empty_cps]
  cases ps with
  | nil => exact hne rfl
  | cons p r =>
    have hl : (line p).cps.toList ≠ [] := by rw [line_cps]; simp
    cases r with
    | nil => exact hl h1
    | cons p' r' =>
      have : (txt (p :: p' :: r')).cps.toList = (line p).cps.toList ++ 10 :: (Str.join ⟨#[10]⟩ ((p' :: r').map line)).cps.toList := join_cons 10 _ _ _
      rw [this] at h1
      simp at h1
def kn (ps : List (Str × (Int × Int))) : List (L2.Key × U) := ps.map fun p => (.inr p.1, .bl true)
theorem kn_val : ∀ (ps : List (Str × (Int × Int))) (w : Str), w ∉ ps.map (·.1) → valU (kn ps) (.inr w) = none
  | [], w, _ => rfl
  | p :: ps, w, h => by
    have h1 : p.1 ≠ w := fun q => h (by rw [← q]; simp)
    have h2 := kn_val ps w fun q => h (by rw [List.map_cons]; exact List.mem_cons_of_mem _ q)
    rw [← h2]
    show valU ((.inr p.1, .bl true) :: kn ps) (.inr w) = _
    unfold valU
    rw [List.find?_cons]
    have : (decide ((Sum.inr p.1 : L2.Key) = Sum.inr w)) = false := decide_eq_false fun q => h1 (by injection q)
    rw [this]
theorem kn_put {ps : List (Str × (Int × Int))} {p : Str × (Int × Int)} (h : p.1 ∉ ps.map (·.1)) : putD (kn ps) (.inr p.1) (.bl true) = kn (ps ++ [p]) := by
  have hv := kn_val ps p.1 h
  have ha : ((kn ps).any fun kv => decide (kv.1 = (.inr p.1 : L2.Key))) = false := by
    rw [← find_any]
    unfold valU at hv
    cases q : (kn ps).find? (fun kv => decide (kv.1 = (.inr p.1 : L2.Key))) with
    | none => rfl
    | some z => rw [q] at hv; cases hv
  unfold putD
  rw [if_neg (by rw [ha]; simp)]
  simp [kn]
theorem read_turn {M : UH} {ps : List (Str × (Int × Int))} {p : Str × (Int × Int)} {k ℓ d : Nat} (h : Nm p.1) (hb : Pb p.2) (hnew : p.1 ∉ ps.map (·.1)) (hl : M[ℓ]? = some (.lst (ps.map ptU))) (hd : M[d]? = some (.dic (kn ps))) (hne : ℓ ≠ d) (hlen : ps.length ≤ 1000) (x0 x5 : Option U) :
    ∃ (M1 : UH), Gw M M1 ∧ b_read_points_1 [x0, some (.ref ℓ), some (.ref d), some (.int (k : Int)), some (.str (line p)), x5] M = some (.nx [x0, some (.ref ℓ), some (.ref d), some (.int (k : Int)), some (.str (line p)), some (ptU p)], (M1.set d (.dic (kn (ps ++ [p])))).set ℓ (.lst ((ps ++ [p]).map ptU))) := by
  obtain ⟨M1, e1, g1⟩ := point_in_ok h hb M
  refine ⟨M1, g1, ?_⟩
  have s1 : (fAsg (fOwn 1 m_point_in (fCons (fVar 4) fNil)) (gN 5)) [x0, some (.ref ℓ), some (.ref d), some (.int (k : Int)), some (.str (line p)), x5] M = some (.nx [x0, some (.ref ℓ), some (.ref d), some (.int (k : Int)), some (.str (line p)), some (ptU p)], M1) := setN (own1 rfl e1)
  have hd1 := g1.get hd
  have hl1 := g1.get hl
  have hix : ∀ N, (f2 semIx (fVar 5) (fC (.int 0))) [x0, some (.ref ℓ), some (.ref d), some (.int (k : Int)), some (.str (line p)), some (ptU p)] N = some (.str p.1, N) := fun _ => rfl
  have hdic : dicAt M1 d = some (kn ps) := by unfold dicAt; rw [hd1]
  have s2 : (fIfS (fOr (fTest (f2 (semIs false) (fVar 5) (fC .non))) (fTest (f2 semDIn (f2 semIx (fVar 5) (fC (.int 0))) (fVar 2)))) fNever fNext) [x0, some (.ref ℓ), some (.ref d), some (.int (k : Int)), some (.str (line p)), some (ptU p)] M1 = some (.nx [x0, some (.ref ℓ), some (.ref d), some (.int (k : Int)), some (.str (line p)), some (ptU p)], M1) := by
    have t1 : (fTest (f2 (semIs false) (fVar 5) (fC .non))) [x0, some (.ref ℓ), some (.ref d), some (.int (k : Int)), some (.str (line p)), some (ptU p)] M1 = some (false, M1) := rfl
    have t2 : (fTest (f2 semDIn (f2 semIx (fVar 5) (fC (.int 0))) (fVar 2))) [x0, some (.ref ℓ), some (.ref d), some (.int (k : Int)), some (.str (line p)), some (ptU p)] M1 = some (false, M1) := by
      rw [fTest_eq, f2_eq, hix]
      simp only [Option.bind_some, fVar_eq, List.getElem?_cons_zero, List.getElem?_cons_succ, Option.join_some, Option.map_some, semDIn, toK, hdic, kn_val ps p.1 hnew, Option.isSome_none]
    rw [fIfS_eq, fOr_eq, t1]
    simp only [Option.bind_some, Bool.false_eq_true, if_false, t2, fNext_eq]
  have hkl : (kn ps).length < 1000000 := by unfold kn; rw [List.length_map]; omega
  have s3 : (fDPut (fVar 2) (f2 semIx (fVar 5) (fC (.int 0))) (fC (.bl true))) [x0, some (.ref ℓ), some (.ref d), some (.int (k : Int)), some (.str (line p)), some (ptU p)] M1 = some (.nx [x0, some (.ref ℓ), some (.ref d), some (.int (k : Int)), some (.str (line p)), some (ptU p)], M1.set d (.dic (kn (ps ++ [p])))) := by
    unfold fDPut
    simp only [fC_eq, Option.bind_some, fVar_eq, List.getElem?_cons_zero, List.getElem?_cons_succ, Option.join_some, Option.map_some, hix, toK, hdic, kn_put hnew]
    rw [if_pos hkl]
  have hl2 : (M1.set d (.dic (kn (ps ++ [p]))))[ℓ]? = some (.lst (ps.map ptU)) := by rw [List.getElem?_set_ne (Ne.symm hne)]; exact hl1
  have ap := append_ok (ptU p) hl2 (by rw [List.length_map]; omega)
  have hx : ps.map ptU ++ [ptU p] = (ps ++ [p]).map ptU := by simp
  rw [hx] at ap
  have ty := tyU_lst hl2
  have s4 : (fDrop (fMeth "list" semAppend (fVar 1) (fCons (fVar 5) fNil))) [x0, some (.ref ℓ), some (.ref d), some (.int (k : Int)), some (.str (line p)), some (ptU p)] (M1.set d (.dic (kn (ps ++ [p])))) = some (.nx [x0, some (.ref ℓ), some (.ref d), some (.int (k : Int)), some (.str (line p)), some (ptU p)], (M1.set d (.dic (kn (ps ++ [p])))).set ℓ (.lst ((ps ++ [p]).map ptU))) := by
    simp only [fDrop_eq, fMeth_eq, fVar_eq, fCons_eq, fNil_eq, List.getElem?_cons_succ, List.getElem?_cons_zero, Option.join_some, Option.map_some, Option.bind_some, ty, if_true, ap]
  unfold b_read_points_1
  rw [fSeq_nx s1, fSeq_nx s2, fSeq_nx s3, s4]
theorem read_ok {ps : List (Str × (Int × Int))} (P : Pts ps) (L : UH) : ∃ L', m_read_points [.str (txt ps)] L = some (.tup (ps.map ptU), L') ∧ Gw L L' := by
  have hlen := P.len
  by_cases hne : ps = []
  · subst hne
    refine ⟨L, fn1 (n := 5) ?_, .refl _⟩
    have he : txt [] = "" := str_ext (by rw [empty_cps]; rfl)
    have sm0 : small ([] : List U).length = true := small_of (by show 0 ≤ 16777216; decide)
    have s1 : (fIfS (fTest (f2 semEq (fVar 0) (fC (.str "")))) (fRet (fTup fNil)) fNext) [some (.str (txt [])), none, none, none, none, none] L = some (.rt (.tup []), L) := by
      rw [he, fIfS_eq, fTest_eq, f2_eq]
      simp only [fVar_eq, fC_eq, List.getElem?_cons_zero, Option.join_some, Option.map_some, Option.bind_some, semEq_str asc_empty asc_empty, decide_true, if_true]
      refine ret_ok ?_
      rw [fTup_eq, fNil_eq, Option.bind_some, if_pos sm0]
    unfold b_read_points
    show fSeq _ _ [some (.str (txt [])), none, none, none, none, none] L = _
    rw [fSeq_eq, s1]
    rfl
  have ha := txt_asc P.nm
  have hl := txt_len P
  have s1 : (fIfS (fTest (f2 semEq (fVar 0) (fC (.str "")))) (fRet (fTup fNil)) fNext) [some (.str (txt ps)), none, none, none, none, none] L = some (.nx [some (.str (txt ps)), none, none, none, none, none], L) := by
    rw [fIfS_eq, fTest_eq, f2_eq]
    simp only [fVar_eq, fC_eq, List.getElem?_cons_zero, Option.join_some, Option.map_some, Option.bind_some, semEq_str ha asc_empty, decide_eq_false (txt_ne P.nm hne), Bool.false_eq_true, if_false, fNext_eq]
  have sm0 : small ([] : List U).length = true := small_of (by show 0 ≤ 16777216; decide)
  have s2 : (fAsg (fLst fNil) (gN 1)) [some (.str (txt ps)), none, none, none, none, none] L = some (.nx [some (.str (txt ps)), some (.ref L.length), none, none, none, none], L ++ [.lst []]) := by
    refine setN ?_
    rw [fLst_eq, fNil_eq, Option.bind_some, if_pos sm0]
  have hl1 : (L ++ [HU.lst []]).length = L.length + 1 := by simp
  have s3 : (fAsg fDNew (gN 2)) [some (.str (txt ps)), some (.ref L.length), none, none, none, none] (L ++ [.lst []]) = some (.nx [some (.str (txt ps)), some (.ref L.length), some (.ref (L.length + 1)), none, none, none], L ++ [.lst []] ++ [.dic []]) := by
    refine setN ?_
    unfold fDNew
    rw [hl1]
  generalize hM : L ++ [HU.lst []] ++ [HU.dic []] = M at s3
  have gM : Gw L M := by rw [← hM, List.append_assoc]; exact Gw.new _ _
  have hML : M.length = L.length + 2 := by rw [← hM]; simp
  have hm0 : M[L.length]? = some (.lst []) := by rw [← hM]; simp
  have hm1 : M[L.length + 1]? = some (.dic []) := by rw [← hM, ← hl1]; simp
  have hsp : (Str.length "\n" == 0) = false := by decide +kernel
  have ty : ∀ L, tyU "str" (.str (txt ps)) L = true := fun _ => rfl
  have hfe : (fMeth "str" semSplit (fVar 0) (fCons (fC (.str "\n")) fNil)) [some (.str (txt ps)), some (.ref L.length), some (.ref (L.length + 1)), none, none, none] M = some (.ref M.length, M ++ [.lst ((ps.map line).map U.str)]) := by
    rw [fMeth_eq]
    simp only [fVar_eq, fCons_eq, fC_eq, fNil_eq, List.getElem?_cons_zero, Option.join_some, Option.map_some, Option.bind_some, ty, if_true, semSplit]
    rw [if_pos ⟨hsp, by omega⟩, txt_split P.nm hne]
  obtain ⟨δ', L', e, Q⟩ := for_enm (us := (ps.map line).map U.str) (g := (MR.gTup 2 (MR.gCons (gN 3) (MR.gCons (gN 4) MR.gNil)))) (body := b_read_points_1)
    (fun k δ' L' => ∃ y3 y4 y5, δ' = [some (.str (txt ps)), some (.ref L.length), some (.ref (L.length + 1)), y3, y4, y5] ∧ L'[L.length]? = some (.lst ((ps.take k).map ptU)) ∧ L'[L.length + 1]? = some (.dic (kn (ps.take k))) ∧ L'[M.length]? = some (.lst ((ps.map line).map U.str)) ∧ Gw L L')
    hfe ⟨none, none, none, rfl, by rw [List.getElem?_append_left (by omega)]; exact hm0, by rw [List.getElem?_append_left (by omega)]; exact hm1, by simp, gM.trans (Gw.new _ _)⟩
    (fun k δ L'' ⟨_, _, _, _, _, _, h, _⟩ => seqAt_lst h)
    (fun k u δ N hu ⟨y3, y4, y5, hδ, h1, h2, h3, g⟩ => by
      subst hδ
      rw [List.map_map, List.getElem?_map] at hu
      obtain ⟨p, hp, rfl⟩ := Option.map_eq_some_iff.mp hu
      have hmem := List.mem_of_getElem? hp
      have hk : k < ps.length := (List.getElem?_eq_some_iff.mp hp).1
      have htk : ps.take (k + 1) = ps.take k ++ [p] := by rw [List.take_add_one, hp]; rfl
      have hnew : p.1 ∉ (ps.take k).map (·.1) := by
        have hn : ((ps.take (k + 1)).map (·.1)).Nodup := by
          rw [List.map_take]; exact P.nd.sublist (List.take_sublist _ _)
        rw [htk, List.map_append, List.nodup_append] at hn
        exact fun q => hn.2.2 _ q _ (by simp) rfl
      obtain ⟨M1, g1, et⟩ := read_turn (M := N) (ps := ps.take k) (p := p) (k := k) (ℓ := L.length) (d := L.length + 1) (P.nm p hmem) (P.pb p hmem) hnew h1 h2 (by omega) (by rw [List.length_take]; omega) (some (.str (txt ps))) y5
      rw [← htk] at et
      have l1 := (List.getElem?_eq_some_iff.mp (g1.get h1)).1
      have l2 := (List.getElem?_eq_some_iff.mp (g1.get h2)).1
      refine ⟨[some (.str (txt ps)), some (.ref L.length), some (.ref (L.length + 1)), some (.int (k : Int)), some (.str (line p)), y5], N, rfl, _, _, .inl et, _, _, _, rfl, ?_, ?_, ?_, ?_⟩
      · rw [List.getElem?_set_self (by simp; omega)]
      · rw [List.getElem?_set_ne (by omega), List.getElem?_set_self l2]
      · rw [List.getElem?_set_ne (by omega), List.getElem?_set_ne (by omega)]; exact g1.get h3
      · exact ((g.trans g1).set (by omega) _).set (by omega) _)
  obtain ⟨y3, y4, y5, hδ, h1, h2, h3, g⟩ := Q
  rw [List.length_map, List.length_map, List.take_of_length_le (Nat.le_refl _)] at h1
  rw [hδ] at e
  refine ⟨L', fn1 (n := 5) ?_, g⟩
  unfold b_read_points
  show fSeq _ _ [some (.str (txt ps)), none, none, none, none, none] L = _
  rw [fSeq_nx s1, fSeq_nx s2, fSeq_nx s3, fSeq_nx e]
  refine ret_ok ?_
  simp only [fCall_eq, fCons_eq, fNil_eq, fVar_eq, List.getElem?_cons_succ, List.getElem?_cons_zero, Option.join_some, Option.map_some, Option.bind_some, semTuple, seqAt_lst h1]

end Lw

set_option Elab.async false
set_option linter.all false
set_option maxRecDepth 100000
set_option maxHeartbeats 1000000
namespace Lw
open PySem L2 MR
theorem digc : ∀ d : Nat, d < 10 → (Nat.digitChar d).toNat = 48 + d := by decide
theorem dig_to (m : Nat) : dig m = (Nat.toDigits 10 m).map Char.toNat := by
  induction m using Nat.strongRecOn with
  | _ m ih =>
    by_cases h : m < 10
    · rw [Nat.toDigits_of_lt_base h, dig_lt h, List.map_cons, List.map_nil, digc m h]
    · have hm : m % 10 < 10 := Nat.mod_lt m (by decide)
      have t : Nat.toDigits 10 (m / 10) ++ Nat.toDigits 10 (m % 10) = Nat.toDigits 10 (10 * (m / 10) + m % 10) := Nat.toDigits_append_toDigits (by decide) (by omega) hm
      rw [Nat.div_add_mod] at t
      rw [← t, List.map_append, Nat.toDigits_of_lt_base hm, dig_ge h, ih (m / 10) (by omega), List.map_cons, List.map_nil, digc _ hm]
theorem str_of (s : String) : (Str.ofString s).cps.toList = s.toList.map Char.toNat := by rw [Str.ofString_eq_toList, List.toList_toArray]
theorem num_fig (n : Int) : numT n = fig n := by
  apply str_ext
  unfold numT
  rw [str_of, fig_cps, dig_to]
  cases n with
  | ofNat m =>
    rw [if_neg (by show ¬ ((m : Nat) : Int) < 0; omega)]
    show (Nat.repr m).toList.map Char.toNat = [] ++ _
    rw [Nat.toList_repr]; rfl
  | negSucc m =>
    rw [if_pos (by show Int.negSucc m < 0; omega)]
    show ("-" ++ Nat.repr (m + 1)).toList.map Char.toNat = _
    rw [String.toList_append, List.map_append, Nat.toList_repr]
    rfl
theorem fmt_fig {n : Int} (h : -9999999999 ≤ n ∧ n ≤ 9999999999) : fmtOk n = true := by
  unfold fmtOk
  simp only [Bool.and_eq_true, decide_eq_true_eq]
  omega
theorem lapp (a b : Str) : (a ++ b).length = a.length + b.length := by rw [len_cps, app_cps, List.length_append, ← len_cps, ← len_cps]
theorem shown_e {p : Str × (Int × Int)} (h : Nm p.1) (hb : Pb p.2) (L : UH) : b_points_shown_1e [some (.str p.1), some (.int p.2.1), some (.int p.2.2)] L = some (.str (line p), L) := by
  have hb' : (-9999999999 ≤ p.2.1 ∧ p.2.1 ≤ 9999999999) ∧ (-9999999999 ≤ p.2.2 ∧ p.2.2 ≤ 9999999999) := hb
  have f1 := fig_len hb'.1
  have f2' := fig_len hb'.2
  have h3 := h.2.1
  have hs : Str.length " " = 1 := by rw [len_cps, sp_cps]; rfl
  have c0 : (fFmt (fVar 0)) [some (.str p.1), some (.int p.2.1), some (.int p.2.2)] L = some (.str p.1, L) := by
    unfold fFmt
    simp only [fVar_eq, List.getElem?_cons_zero, Option.join_some, Option.map_some, Option.bind_some]
    rw [if_pos (small_of (by omega))]
  have c1 : (fFmt (fVar 1)) [some (.str p.1), some (.int p.2.1), some (.int p.2.2)] L = some (.str (fig p.2.1), L) := by
    unfold fFmt
    simp only [fVar_eq, List.getElem?_cons_zero, List.getElem?_cons_succ, Option.join_some, Option.map_some, Option.bind_some]
    rw [if_pos (fmt_fig hb'.1), num_fig]
  have c2 : (fFmt (fVar 2)) [some (.str p.1), some (.int p.2.1), some (.int p.2.2)] L = some (.str (fig p.2.2), L) := by
    unfold fFmt
    simp only [fVar_eq, List.getElem?_cons_zero, List.getElem?_cons_succ, Option.join_some, Option.map_some, Option.bind_some]
    rw [if_pos (fmt_fig hb'.2), num_fig]
  have he : Str.empty ++ p.1 = p.1 := str_ext (by rw [app_cps]; rfl)
  unfold b_points_shown_1e fJoined
  simp only [goJ, c0, c1, c2, fC_eq, Option.bind_some, he]
  rw [if_pos (small_of (by omega)), if_pos (small_of (by rw [lapp]; omega)), if_pos (small_of (by rw [lapp, lapp]; omega)), if_pos (small_of (by rw [lapp, lapp, lapp]; omega)), if_pos (small_of (by rw [lapp, lapp, lapp, lapp]; omega))]
  rfl
structure Ptl (ps : List (Str × (Int × Int))) : Prop where
  nm : ∀ p ∈ ps, Nm p.1
  pb : ∀ p ∈ ps, Pb p.2
  len : ps.length ≤ 60
theorem Pts.ptl {ps : List (Str × (Int × Int))} (P : Pts ps) : Ptl ps := ⟨P.nm, P.pb, P.len⟩
theorem Ptl.take {ps : List (Str × (Int × Int))} (P : Ptl ps) (k : Nat) : Ptl (ps.take k) := ⟨fun p hp => P.nm p (List.mem_of_mem_take hp), fun p hp => P.pb p (List.mem_of_mem_take hp), by have := P.len; rw [List.length_take]; omega⟩
theorem Ptl.drop {ps : List (Str × (Int × Int))} (P : Ptl ps) (k : Nat) : Ptl (ps.drop k) := ⟨fun p hp => P.nm p (List.mem_of_mem_drop hp), fun p hp => P.pb p (List.mem_of_mem_drop hp), by have := P.len; rw [List.length_drop]; omega⟩
theorem shown_ok {ps : List (Str × (Int × Int))} (P : Ptl ps) (L : UH) : ∃ L', m_points_shown [.tup (ps.map ptU)] L = some (.str (txt ps), L') ∧ Gw L L' := by
  obtain ⟨x, e⟩ := comp_grow (ix := [none, none, none]) (fi := fSeqI (fVar 0)) (it := .seq (ps.map ptU)) (g := (MR.gTup 3 (MR.gCons (gN 0) (MR.gCons (gN 1) (MR.gCons (gN 2) MR.gNil))))) (tt := none) (fe := b_points_shown_1e) (δ := [some (.tup (ps.map ptU))]) (L := L) (L0 := L)
    ps ptU (fun _ => true) (fun p => .str (line p)) (fun δ => ∃ a b c, δ = [a, b, c]) (by simp [iSeqU]) (by simp [IU.size]) (by have := P.len; omega) ⟨none, none, none, rfl⟩
    (fun k x => rfl)
    (fun p δ x hp ⟨a, b, c, hδ⟩ => by
      subst hδ
      refine ⟨[some (.str p.1), some (.int p.2.1), some (.int p.2.2)], rfl, ⟨_, _, _, rfl⟩, [], by simp [testU], fun _ => ⟨[], ?_⟩⟩
      rw [List.append_nil, List.append_nil]; exact shown_e (P.nm p hp) (P.pb p hp) (L ++ x))
  have hff : List.filter (fun _ => true) ps = ps := List.filter_eq_self.mpr (fun _ _ => rfl)
  have hmm : ps.map (fun p => U.str (line p)) = (ps.map line).map U.str := by simp
  rw [hff, hmm] at e
  have hat : (L ++ x ++ [HU.lst ((ps.map line).map U.str)])[(L ++ x).length]? = some (.lst ((ps.map line).map U.str)) := by simp
  have hnl : Str.length "\n" = 1 := by rw [len_cps, nl_cps]; rfl
  have hsum : (((ps.map line).map (·.length)).sum) ≤ 40 * ps.length := by
    rw [List.map_map]
    exact sum_le _ 40 ps fun p hp => line_len (P.nm p hp) (P.pb p hp)
  have hlen := P.len
  have hj : semJoin (.str "\n") [.ref (L ++ x).length] (L ++ x ++ [HU.lst ((ps.map line).map U.str)]) = some (.str (txt ps), L ++ x ++ [HU.lst ((ps.map line).map U.str)]) := by
    unfold semJoin
    simp only [lstAt_lst hat, Option.bind_some, toS_strs]
    rw [if_pos ⟨by omega, by rw [List.length_map]; omega⟩]
    have : Txt.join "\n" (ps.map line) = txt ps := by
      show Builtin.Str.glued "\n" (ps.map line) = _
      rw [StrLaws.glued_eq_join, nl_eq]; rfl
    rw [this]
  have ty : ∀ L, tyU "str" (.str "\n") L = true := fun _ => rfl
  refine ⟨L ++ x ++ [HU.lst ((ps.map line).map U.str)], fn1 (n := 0) ?_, ⟨x ++ [HU.lst ((ps.map line).map U.str)], by rw [List.append_assoc]⟩⟩
  unfold b_points_shown
  show fRet _ [some (.tup (ps.map ptU))] L = _
  refine ret_ok ?_
  rw [fMeth_eq, fC_eq, Option.bind_some]
  simp only [ty, if_true]
  rw [fCons_eq, e]
  simp only [Option.bind_some, fNil_eq, Option.map_some, hj]
theorem fig_inj {m n : Int} (hm : -9999999999 ≤ m ∧ m ≤ 9999999999) (hn : -9999999999 ≤ n ∧ n ≤ 9999999999) (h : fig m = fig n) : m = n := by
  have := fig_int hm
  rw [h, fig_int hn] at this
  exact (Option.some.inj this).symm
theorem line_inj {p q : Str × (Int × Int)} (hp : Nm p.1) (hq : Nm q.1) (bp : Pb p.2) (bq : Pb q.2) (h : line p = line q) : p = q := by
  have e := line_split hp
  rw [h, line_split hq] at e
  injection e with e1 e
  injection e with e2 e
  injection e with e3 _
  obtain ⟨a, b, c⟩ := p
  obtain ⟨a', b', c'⟩ := q
  have := fig_inj (m := b') (n := b) bq.1 bp.1 e2
  have := fig_inj (m := c') (n := c) bq.2 bp.2 e3
  simp only at e1
  subst e1
  simp_all
theorem map_line_inj : ∀ {ps qs : List (Str × (Int × Int))}, (∀ p ∈ ps, Nm p.1) → (∀ p ∈ ps, Pb p.2) → (∀ p ∈ qs, Nm p.1) → (∀ p ∈ qs, Pb p.2) → ps.map line = qs.map line → ps = qs
  | [], [], _, _, _, _, _ => rfl
  | [], q :: qs, _, _, _, _, h => by simp at h
  | p :: ps, [], _, _, _, _, h => by simp at h
  | p :: ps, q :: qs, a, b, c, d, h => by
    rw [List.map_cons, List.map_cons] at h
    injection h with h1 h2
    rw [line_inj (a p (List.mem_cons_self ..)) (c q (List.mem_cons_self ..)) (b p (List.mem_cons_self ..)) (d q (List.mem_cons_self ..)) h1,
      map_line_inj (fun x hx => a x (List.mem_cons_of_mem _ hx)) (fun x hx => b x (List.mem_cons_of_mem _ hx)) (fun x hx => c x (List.mem_cons_of_mem _ hx)) (fun x hx => d x (List.mem_cons_of_mem _ hx)) h2]
theorem txt_inj {ps qs : List (Str × (Int × Int))} (P : Ptl ps) (Q : Ptl qs) (h : txt ps = txt qs) : ps = qs := by
  have t0 : txt [] = "" := str_ext (by rw [empty_cps]; rfl)
  by_cases hp : ps = []
  · by_cases hq : qs = []
    · rw [hp, hq]
    · rw [hp, t0] at h
      exact absurd h.symm (txt_ne Q.nm hq)
  · by_cases hq : qs = []
    · rw [hq, t0] at h
      exact absurd h (txt_ne P.nm hp)
    · have e := txt_split P.nm hp
      rw [h, txt_split Q.nm hq] at e
      exact (map_line_inj Q.nm Q.pb P.nm P.pb e).symm
theorem join_app (c : Nat) : ∀ (a b : List Str), a ≠ [] → b ≠ [] → (Str.join ⟨#[c]⟩ (a ++ b)).cps.toList = (Str.join ⟨#[c]⟩ a).cps.toList ++ c :: (Str.join ⟨#[c]⟩ b).cps.toList
  | [], b, h, _ => absurd rfl h
  | [x], [], _, h => absurd rfl h
  | [x], y :: b, _, _ => join_cons c x y b
  | x :: x' :: a, b, _, hb => by
    have ih := join_app c (x' :: a) b (by simp) hb
    have e1 := join_cons c x x' (a ++ b)
    have e2 := join_cons c x x' a
    rw [List.cons_append, List.cons_append, e1, e2, ← List.cons_append, ih]
    simp

end Lw

set_option Elab.async false
set_option linter.all false
set_option maxRecDepth 100000
set_option maxHeartbeats 1000000
namespace Lw
open PySem L2 MR
def tuU (ps : List (Str × (Int × Int))) : U := .tup (ps.map ptU)
theorem Nm.asc {w : Str} (h : Nm w) : asc w := asc_of fun c hc => by have := h.2.2 c hc; omega
theorem pl_pt {p : Str × (Int × Int)} (h : Nm p.1) (n : Nat) : Pl (n + 1) (ptU p) := by
  unfold ptU
  rw [pl_tup]
  intro u hu
  simp only [List.mem_cons, List.not_mem_nil, or_false] at hu
  have h6 := ok_asc h.asc
  rcases hu with rfl | rfl | rfl
  · cases n <;> simpa [Pl] using h6
  · exact Pl.int _ _
  · exact Pl.int _ _
theorem pl_pts {ps : List (Str × (Int × Int))} (h : ∀ p ∈ ps, Nm p.1) : Pl 6 (tuU ps) := by
  unfold tuU
  rw [pl_tup]
  intro u hu
  obtain ⟨p, hp, rfl⟩ := List.mem_map.mp hu
  exact pl_pt (h p hp) 4
theorem ptU_inj {p q : Str × (Int × Int)} (h : ptU p = ptU q) : p = q := by
  obtain ⟨a, b, c⟩ := p
  obtain ⟨a', b', c'⟩ := q
  unfold ptU at h
  simp at h
  obtain ⟨h1, h2, h3⟩ := h
  rw [h1, h2, h3]
theorem tuU_inj : ∀ {ps qs : List (Str × (Int × Int))}, tuU ps = tuU qs → ps = qs := fun {ps qs} h => by
  unfold tuU at h
  injection h with h
  induction ps generalizing qs with
  | nil => cases qs with
    | nil => rfl
    | cons q qs => simp at h
  | cons p ps ih => cases qs with
    | nil => simp at h
    | cons q qs =>
      rw [List.map_cons, List.map_cons] at h
      injection h with h1 h2
      rw [ptU_inj h1, ih h2]
theorem eq_pts {ps qs : List (Str × (Int × Int))} (P : ∀ p ∈ ps, Nm p.1) (Q : ∀ p ∈ qs, Nm p.1) (L : UH) : semEq (tuU ps) (tuU qs) L = some (.bl (decide (ps = qs)), L) := by
  rw [semEq_pl L (pl_pts P) (pl_pts Q)]
  congr 3
  rw [Bool.eq_iff_iff, eqB_iff (pl_pts P) (pl_pts Q), decide_eq_true_eq]
  exact ⟨tuU_inj, fun h => by rw [h]⟩
theorem ne_pts {ps qs : List (Str × (Int × Int))} (P : ∀ p ∈ ps, Nm p.1) (Q : ∀ p ∈ qs, Nm p.1) (L : UH) : semNe (tuU ps) (tuU qs) L = some (.bl (!decide (ps = qs)), L) := by
  rw [semNe_pl L (pl_pts P) (pl_pts Q)]
  congr 4
  rw [Bool.eq_iff_iff, eqB_iff (pl_pts P) (pl_pts Q), decide_eq_true_eq]
  exact ⟨tuU_inj, fun h => by rw [h]⟩
theorem idx_take (b len : Nat) : Builtin.Str.strSliceIndices none (some (b : Int)) 1 len = Builtin.Str.strSliceIndices (some ((0 : Nat) : Int)) (some ((min b len : Nat) : Int)) 1 len := by
  unfold Builtin.Str.strSliceIndices
  have h2 : ¬ ((b : Int) < 0) := by omega
  have h3 : ¬ (((min b len : Nat) : Int) < 0) := by omega
  have e0 : max (0 : Int) (min ((0 : Nat) : Int) (len : Int)) = 0 := by omega
  have e2 : max (0 : Int) (min (b : Int) (len : Int)) = max (0 : Int) (min ((min b len : Nat) : Int) (len : Int)) := by omega
  have h0 : ¬ (((0 : Nat) : Int) < 0) := by omega
  simp only [h2, h3, h0, if_false, e0, e2, show ((1 : Int) > 0) = True from by simp, if_true]
theorem slice_take (x : Str) (b : Nat) : (Txt.slice x none (some (b : Int))).cps.toList = x.cps.toList.take b := by
  have e := idx_take b x.length
  have p := StrLaws.strSliceIndices_plain (a := 0) (b := min b x.length) (len := x.length) (Nat.zero_le _) (Nat.min_le_right _ _)
  have q := StrLaws.sliced_plain x (a := 0) (b := min b x.length) (Nat.zero_le _) (Nat.min_le_right _ _)
  have hl : (Builtin.Str.strSliceIndices (some ((0 : Nat) : Int)) (some ((min b x.length : Nat) : Int)) 1 x.length).length = min b x.length := by rw [p]; simp
  have hx : x.length = x.cps.toList.length := len_cps x
  unfold Txt.slice
  rw [e]
  by_cases h : ((1 : Int) == 1 && (Builtin.Str.strSliceIndices (some ((0 : Nat) : Int)) (some ((min b x.length : Nat) : Int)) 1 x.length).length == x.length) = true
  · rw [if_pos h]
    rw [hl] at h
    have : min b x.length = x.length := by simpa using h
    rw [List.take_of_length_le (by omega)]
  · rw [if_neg h, q]
    simp only [List.drop_zero, Nat.sub_zero]
    rw [hx, ← List.take_take, List.take_of_length_le (l := x.cps.toList) (by omega)]
theorem q_cps : (Str.cps "q").toList = [113] := by decide +kernel
theorem a_cps : (Str.cps "a").toList = [97] := by decide +kernel
theorem nm_q {w : Str} (h : Nm w) : Nm (Txt.slice w none (some 7) ++ "q") := by
  have e : (Txt.slice w none (some 7)).cps.toList = w.cps.toList.take 7 := slice_take w 7
  have hc : (Txt.slice w none (some 7) ++ "q").cps.toList = w.cps.toList.take 7 ++ [113] := by rw [app_cps, e, q_cps]
  refine ⟨by rw [len_cps, hc]; simp, by rw [len_cps, hc]; simp; omega, fun c hm => ?_⟩
  rw [hc] at hm
  rcases List.mem_append.mp hm with q | q
  · exact h.2.2 c (List.mem_of_mem_take q)
  · have : c = 113 := by simpa using q
    omega
theorem nm_a : Nm "a" := by
  refine ⟨by rw [len_cps, a_cps]; simp, by rw [len_cps, a_cps]; simp, fun x hx => ?_⟩
  rw [a_cps] at hx
  have : x = 97 := by simpa using hx
  omega
theorem at_pts {ps : List (Str × (Int × Int))} {k : Nat} {p : Str × (Int × Int)} (h : ps[k]? = some p) : L2.atI (ps.map ptU) (k : Int) = some (ptU p) := by
  rw [atI_of (by omega) (by have := (List.getElem?_eq_some_iff.mp h).1; simp; omega), Int.toNat_natCast, List.getElem?_map, h]; rfl
theorem set_pts {ps : List (Str × (Int × Int))} (P : Pts ps) {k : Nat} (hk : k < ps.length) {p : Str × (Int × Int)} (h1 : Nm p.1) (h2 : Pb p.2) (h3 : p.1 ∉ (ps.take k ++ ps.drop (k + 1)).map (·.1)) : Pts (ps.set k p) := by
  have hmem : ∀ q ∈ ps.set k p, q ∈ ps ∨ q = p := fun q hq => List.mem_or_eq_of_mem_set hq
  have hset : ps.set k p = ps.take k ++ p :: ps.drop (k + 1) := by rw [List.set_eq_take_append_cons_drop, if_pos hk]
  refine ⟨fun q hq => ?_, ?_, fun q hq => ?_, by rw [List.length_set]; exact P.len⟩
  · rcases hmem q hq with e | e
    · exact P.nm q e
    · rw [e]; exact h1
  · have hnd : ((ps.take k ++ ps.drop (k + 1)).map (·.1)).Nodup := by
      have hs : (ps.take k ++ ps.drop (k + 1)).Sublist ps := by
        have : ps = ps.take k ++ ps.drop k := (List.take_append_drop k ps).symm
        conv => rhs; rw [this]
        exact List.Sublist.append (List.Sublist.refl _) (by rw [List.drop_eq_getElem_cons hk]; exact List.sublist_cons_self _ _)
      exact P.nd.sublist (hs.map _)
    rw [hset]
    have hp : ((ps.take k ++ p :: ps.drop (k + 1)).map (·.1)).Perm (p.1 :: (ps.take k ++ ps.drop (k + 1)).map (·.1)) := by
      have := (List.perm_middle (a := p) (l₁ := ps.take k) (l₂ := ps.drop (k + 1))).map (·.1)
      simpa using this
    exact hp.nodup_iff.mpr (List.nodup_cons.mpr ⟨h3, hnd⟩)
  · rcases hmem q hq with e | e
    · exact P.pb q e
    · rw [e]; exact h2
theorem Pts.perm {ps qs : List (Str × (Int × Int))} (P : Pts ps) (h : qs.Perm ps) : Pts qs := ⟨fun q hq => P.nm q (h.mem_iff.mp hq), (h.map _).nodup_iff.mpr P.nd, fun q hq => P.pb q (h.mem_iff.mp hq), by rw [h.length_eq]; exact P.len⟩
theorem Pts.erase {ps : List (Str × (Int × Int))} (P : Pts ps) (k : Nat) : Pts (ps.eraseIdx k) := by
  have hs : (ps.eraseIdx k).Sublist ps := List.eraseIdx_sublist ..
  exact ⟨fun q hq => P.nm q (hs.mem hq), P.nd.sublist (hs.map _), fun q hq => P.pb q (hs.mem hq), Nat.le_trans hs.length_le P.len⟩
structure Lg (L0 L : UH) (d ℓ : Nat) (B : Int) (qs : List (Str × (Int × Int))) : Prop where
  dk : Deck L d B
  at_ : L[ℓ]? = some (.lst (qs.map ptU))
  ge : L0.length ≤ ℓ
  gt : d < ℓ
  ex : Ex d L0 L
def ch (d : Nat) (ps : List (Str × (Int × Int))) (a t : Nat) (p : Str × (Int × Int)) (w : Int) (f : Option U) : UE := [some (.ref d), some (tuU ps), some (.int (a : Int)), some (.int (t : Int)), some (.str p.1), some (.int p.2.1), some (.int p.2.2), some (.int w), f]
theorem list_pts (d : Nat) (ps : List (Str × (Int × Int))) (a t : Nat) (p : Str × (Int × Int)) (w : Int) (f : Option U) (L : UH) : (fAsg (fCall semList (fCons (fVar 1) fNil)) (gN 8)) (ch d ps a t p w f) L = some (.nx (ch d ps a t p w (some (.ref L.length))), L ++ [.lst (ps.map ptU)]) := rfl
theorem put_pts {L : UH} {d ℓ a t : Nat} {ps qs : List (Str × (Int × Int))} {p q : Str × (Int × Int)} {w : Int} {L1 : UH} {fe : FE} (e : fe (ch d ps a t p w (some (.ref ℓ))) L = some (ptU q, L1)) (hl : L1[ℓ]? = some (.lst (qs.map ptU))) (ha : a < qs.length) :
    (fAsg fe (MR.gSub (fVar 8) (fVar 2))) (ch d ps a t p w (some (.ref ℓ))) L = some (.nx (ch d ps a t p w (some (.ref ℓ))), L1.set ℓ (.lst ((qs.set a q).map ptU))) := by
  have i1 : ixN (qs.map ptU).length (a : Int) = some a := by rw [ixN_of (by omega) (by simp; omega)]; simp
  have h8 : fVar 8 (ch d ps a t p w (some (.ref ℓ))) L1 = some (.ref ℓ, L1) := rfl
  have h2 : fVar 2 (ch d ps a t p w (some (.ref ℓ))) L1 = some (.int (a : Int), L1) := rfl
  rw [fAsg_eq, e, Option.bind_some, gSub_eq, h8, Option.bind_some, h2]
  simp only [Option.bind_some, lstAt_lst hl, i1, Option.map_some, List.map_set]
theorem menu_ok {L : UH} {d ℓ a t : Nat} {ps : List (Str × (Int × Int))} {p : Str × (Int × Int)} {w : Int} (hw : 0 ≤ w ∧ w < 5) (hn : Nm p.1) (hb : Pb p.2) :
    ∃ (q : Str × (Int × Int)) (x : UH), (f2 semIx (fLst (fCons (fTup (fCons (fVar 4) (fCons (f2 semSub (fC (.int 0)) (fVar 5)) (fCons (fVar 6) fNil)))) (fCons (fTup (fCons (fVar 4) (fCons (fVar 6) (fCons (fVar 5) fNil)))) (fCons (fTup (fCons (f2 semAddA (fSl semSlZ (fVar 4) fNoPart (fPart (fC (.int 7)))) (fC (.str "q"))) (fCons (fVar 5) (fCons (fVar 6) fNil)))) fNil)))) (f2 semMod (fVar 7) (fC (.int 3)))) (ch d ps a t p w (some (.ref ℓ))) L = some (ptU q, L ++ x) ∧ Nm q.1 ∧ Pb q.2 := by
  have sm3 : ∀ x y z : U, small [x, y, z].length = true := fun _ _ _ => small_of (by show 3 ≤ 16777216; decide)
  have h8 := hn.2.1
  have hsl := Txt.slice_le p.1 none (some 7)
  have hq1 : Str.length "q" = 1 := by rw [len_cps, q_cps]; rfl
  have t1 : (fTup (fCons (fVar 4) (fCons (f2 semSub (fC (.int 0)) (fVar 5)) (fCons (fVar 6) fNil)))) (ch d ps a t p w (some (.ref ℓ))) L = some (ptU (p.1, (0 - p.2.1, p.2.2)), L) := by
    have c : (fCons (fVar 4) (fCons (f2 semSub (fC (.int 0)) (fVar 5)) (fCons (fVar 6) fNil))) (ch d ps a t p w (some (.ref ℓ))) L = some ([.str p.1, .int (0 - p.2.1), .int p.2.2], L) := rfl
    rw [fTup_eq, c, Option.bind_some, if_pos (sm3 _ _ _)]; rfl
  have t2 : (fTup (fCons (fVar 4) (fCons (fVar 6) (fCons (fVar 5) fNil)))) (ch d ps a t p w (some (.ref ℓ))) L = some (ptU (p.1, (p.2.2, p.2.1)), L) := by
    have c : (fCons (fVar 4) (fCons (fVar 6) (fCons (fVar 5) fNil))) (ch d ps a t p w (some (.ref ℓ))) L = some ([.str p.1, .int p.2.2, .int p.2.1], L) := rfl
    rw [fTup_eq, c, Option.bind_some, if_pos (sm3 _ _ _)]; rfl
  have t3 : (fTup (fCons (f2 semAddA (fSl semSlZ (fVar 4) fNoPart (fPart (fC (.int 7)))) (fC (.str "q"))) (fCons (fVar 5) (fCons (fVar 6) fNil)))) (ch d ps a t p w (some (.ref ℓ))) L = some (ptU (Txt.slice p.1 none (some 7) ++ "q", p.2), L) := by
    have c0 : (fSl semSlZ (fVar 4) fNoPart (fPart (fC (.int 7)))) (ch d ps a t p w (some (.ref ℓ))) L = some (.str (Txt.slice p.1 none (some 7)), L) := by
      have h4 : fVar 4 (ch d ps a t p w (some (.ref ℓ))) L = some (.str p.1, L) := rfl
      rw [fSl_eq, h4]
      simp only [Option.bind_some, fNoPart_eq, fPart_eq, fC_eq, semSlZ]
      rw [if_pos (small_of (by omega))]
    have c1 : semAddA (.str (Txt.slice p.1 none (some 7))) (.str "q") L = some (.str (Txt.slice p.1 none (some 7) ++ "q"), L) := cat_str _ _ (by omega) L
    have c2 : (f2 semAddA (fSl semSlZ (fVar 4) fNoPart (fPart (fC (.int 7)))) (fC (.str "q"))) (ch d ps a t p w (some (.ref ℓ))) L = some (.str (Txt.slice p.1 none (some 7) ++ "q"), L) := by
      rw [f2_eq, c0, Option.bind_some, fC_eq, Option.bind_some, c1]
    have c3 : (fCons (fVar 5) (fCons (fVar 6) fNil)) (ch d ps a t p w (some (.ref ℓ))) L = some ([.int p.2.1, .int p.2.2], L) := rfl
    rw [fTup_eq, fCons_eq, c2, Option.bind_some, c3]
    simp only [Option.map_some, Option.bind_some]
    rw [if_pos (sm3 _ _ _)]; rfl
  have hl : (fLst (fCons (fTup (fCons (fVar 4) (fCons (f2 semSub (fC (.int 0)) (fVar 5)) (fCons (fVar 6) fNil)))) (fCons (fTup (fCons (fVar 4) (fCons (fVar 6) (fCons (fVar 5) fNil)))) (fCons (fTup (fCons (f2 semAddA (fSl semSlZ (fVar 4) fNoPart (fPart (fC (.int 7)))) (fC (.str "q"))) (fCons (fVar 5) (fCons (fVar 6) fNil)))) fNil)))) (ch d ps a t p w (some (.ref ℓ))) L = some (.ref L.length, L ++ [.lst [ptU (p.1, (0 - p.2.1, p.2.2)), ptU (p.1, (p.2.2, p.2.1)), ptU (Txt.slice p.1 none (some 7) ++ "q", p.2)]]) := by
    rw [fLst_eq, fCons_eq, t1, Option.bind_some, fCons_eq, t2, Option.bind_some, fCons_eq, t3]
    simp only [Option.bind_some, fNil_eq, Option.map_some]
    rw [if_pos (sm3 _ _ _)]
  have q5 : seqAt (L ++ [HU.lst [ptU (p.1, (0 - p.2.1, p.2.2)), ptU (p.1, (p.2.2, p.2.1)), ptU (Txt.slice p.1 none (some 7) ++ "q", p.2)]]) L.length = some [ptU (p.1, (0 - p.2.1, p.2.2)), ptU (p.1, (p.2.2, p.2.1)), ptU (Txt.slice p.1 none (some 7) ++ "q", p.2)] := seqAt_lst (by simp)
  have hm : ∃ q : Str × (Int × Int), L2.atI [ptU (p.1, (0 - p.2.1, p.2.2)), ptU (p.1, (p.2.2, p.2.1)), ptU (Txt.slice p.1 none (some 7) ++ "q", p.2)] (w % 3) = some (ptU q) ∧ Nm q.1 ∧ Pb q.2 := by
    have : w % 3 = 0 ∨ w % 3 = 1 ∨ w % 3 = 2 := by omega
    unfold Pb at hb
    rcases this with e | e | e
    · rw [e]; exact ⟨(p.1, (0 - p.2.1, p.2.2)), rfl, hn, by unfold Pb; simp only; omega⟩
    · rw [e]; exact ⟨(p.1, (p.2.2, p.2.1)), rfl, hn, by unfold Pb; simp only; omega⟩
    · rw [e]; exact ⟨(Txt.slice p.1 none (some 7) ++ "q", p.2), rfl, nm_q hn, hb⟩
  obtain ⟨q, hm, h1, h2⟩ := hm
  have hmd : (f2 semMod (fVar 7) (fC (.int 3))) (ch d ps a t p w (some (.ref ℓ))) (L ++ [HU.lst [ptU (p.1, (0 - p.2.1, p.2.2)), ptU (p.1, (p.2.2, p.2.1)), ptU (Txt.slice p.1 none (some 7) ++ "q", p.2)]]) = some (.int (w % 3), L ++ [HU.lst [ptU (p.1, (0 - p.2.1, p.2.2)), ptU (p.1, (p.2.2, p.2.1)), ptU (Txt.slice p.1 none (some 7) ++ "q", p.2)]]) := rfl
  refine ⟨q, [HU.lst [ptU (p.1, (0 - p.2.1, p.2.2)), ptU (p.1, (p.2.2, p.2.1)), ptU (Txt.slice p.1 none (some 7) ++ "q", p.2)]], ?_, h1, h2⟩
  rw [f2_eq, hl, Option.bind_some, hmd]
  simp only [Option.bind_some, semIx_ref, q5, hm, Option.map_some]

end Lw

set_option Elab.async false
set_option linter.all false
set_option maxRecDepth 100000
set_option maxHeartbeats 1000000
namespace Lw
open PySem L2 MR
theorem cut_lo {l : List U} {k : Nat} (h : k < l.length) (L : UH) : semSlZ (.tup l) none (some (k : Int)) L = some (.tup (l.take k), L) := by
  show semSl (.tup l) none (some (k : Int)) L = _
  have hs : cutU l none (some (k : Int)) = l.take k := by
    unfold cutU
    rw [HT.sIx_none, HT.sIx_nat, List.drop_zero, Nat.sub_zero, Nat.min_eq_left (by omega)]
  unfold semSl
  simp only
  rw [if_neg (by rw [HT.sIx_nat, Nat.min_eq_left (by omega)]; omega), hs]
theorem cut_hi {l : List U} {k : Nat} (h : k < l.length) (L : UH) : semSlZ (.tup l) (some ((k + 1 : Nat) : Int)) none L = some (.tup (l.drop (k + 1)), L) := by
  show semSl (.tup l) (some ((k + 1 : Nat) : Int)) none L = _
  have hs : cutU l (some ((k + 1 : Nat) : Int)) none = l.drop (k + 1) := by
    unfold cutU
    rw [HT.sIx_none, HT.sIx_nat, Nat.min_eq_left (by omega), List.take_of_length_le (by rw [List.length_drop]; omega)]
  unfold semSl
  simp only
  rw [if_neg (by rw [HT.sIx_nat, Nat.min_eq_left (by omega)]; omega), hs]
theorem cat_tups (a b : List U) (h : a.length + b.length ≤ 1000) (L : UH) : semAddA (.tup a) (.tup b) L = some (.tup (a ++ b), L) := by
  cases a with
  | nil => rfl
  | cons x a =>
    show (if (x :: a).isEmpty = false ∧ small ((x :: a).length + b.length) = true then _ else _) = _
    rw [if_pos ⟨rfl, small_of (by omega)⟩]
theorem others_ok {L : UH} {d a t : Nat} {ps : List (Str × (Int × Int))} {p : Str × (Int × Int)} {w : Int} {f : Option U} (ha : a < ps.length) (hl : ps.length ≤ 60) :
    ∃ x, (fComp [none] (fSeqI (f2 semAddA (fSl semSlZ (fVar 1) fNoPart (fPart (fVar 2))) (fSl semSlZ (fVar 1) (fPart (f2 semAddA (fVar 2) (fC (.int 1)))) fNoPart))) (gN 0) none b_l_changed_1e) (ch d ps a t p w f) L = some (.ref (L ++ x).length, L ++ x ++ [.lst (((ps.take a ++ ps.drop (a + 1)).map (·.1)).map U.str)]) := by
  have h1 : fVar 1 (ch d ps a t p w f) L = some (.tup (ps.map ptU), L) := rfl
  have h2 : fVar 2 (ch d ps a t p w f) L = some (.int (a : Int), L) := rfl
  have h3 : (f2 semAddA (fVar 2) (fC (.int 1))) (ch d ps a t p w f) L = some (.int ((a + 1 : Nat) : Int), L) := by
    have : (a : Int) + 1 = ((a + 1 : Nat) : Int) := by omega
    rw [← this]; rfl
  have c1 : (fSl semSlZ (fVar 1) fNoPart (fPart (fVar 2))) (ch d ps a t p w f) L = some (.tup ((ps.map ptU).take a), L) := by
    rw [fSl_eq, h1]
    simp only [Option.bind_some, fNoPart_eq, fPart_eq, h2, cut_lo (l := ps.map ptU) (by simpa using ha)]
  have c2 : (fSl semSlZ (fVar 1) (fPart (f2 semAddA (fVar 2) (fC (.int 1)))) fNoPart) (ch d ps a t p w f) L = some (.tup ((ps.map ptU).drop (a + 1)), L) := by
    rw [fSl_eq, h1]
    simp only [Option.bind_some, fNoPart_eq, fPart_eq, h3, cut_hi (l := ps.map ptU) (by simpa using ha)]
  have hi : (fSeqI (f2 semAddA (fSl semSlZ (fVar 1) fNoPart (fPart (fVar 2))) (fSl semSlZ (fVar 1) (fPart (f2 semAddA (fVar 2) (fC (.int 1)))) fNoPart))) (ch d ps a t p w f) L = some (.seq ((ps.take a ++ ps.drop (a + 1)).map ptU), L) := by
    rw [fSeqI_eq, f2_eq, c1, Option.bind_some, c2, Option.bind_some, cat_tups _ _ (by simp; omega)]
    simp [iSeqU, List.map_take, List.map_drop]
  obtain ⟨x, e⟩ := comp_grow (ix := [none]) (it := .seq ((ps.take a ++ ps.drop (a + 1)).map ptU)) (g := gN 0) (tt := none) (fe := b_l_changed_1e) (δ := ch d ps a t p w f) (L := L) (L0 := L)
    (ps.take a ++ ps.drop (a + 1)) ptU (fun _ => true) (fun p => .str p.1) (fun δ => ∃ y, δ = [y]) hi (by simp [IU.size]) (by simp; omega) ⟨none, rfl⟩
    (fun k x => rfl)
    (fun q δ x _ ⟨y, hδ⟩ => by
      subst hδ
      exact ⟨[some (ptU q)], rfl, ⟨_, rfl⟩, [], by simp [testU], fun _ => ⟨[], by rw [List.append_nil, List.append_nil]; rfl⟩⟩)
  have hff : List.filter (fun _ => true) (ps.take a ++ ps.drop (a + 1)) = ps.take a ++ ps.drop (a + 1) := List.filter_eq_self.mpr (fun _ _ => rfl)
  rw [hff] at e
  refine ⟨x, ?_⟩
  rw [e, List.map_map]; rfl
def c_if : FS := (fIfS (fTest (f2 (semIn false) (f2 semIx (f2 semIx (fVar 8) (fVar 2)) (fC (.int 0))) (fComp [none] (fSeqI (f2 semAddA (fSl semSlZ (fVar 1) fNoPart (fPart (fVar 2))) (fSl semSlZ (fVar 1) (fPart (f2 semAddA (fVar 2) (fC (.int 1)))) fNoPart))) (gN 0) none b_l_changed_1e))) (fAsg (fTup (fCons (fVar 4) (fCons (fVar 5) (fCons (f2 semIx (fLst (fCons (fC (.int 1)) (fCons (fC (.int 0)) fNil))) (fCall semInt (fCons (f2 semEq (fVar 6) (fC (.int 1))) fNil))) fNil)))) (MR.gSub (fVar 8) (fVar 2))) fNext)
theorem alt_ok {L : UH} {d a t : Nat} {ps : List (Str × (Int × Int))} {p : Str × (Int × Int)} {w : Int} {f : Option U} :
    ∃ (y : Int) (x : UH), (fTup (fCons (fVar 4) (fCons (fVar 5) (fCons (f2 semIx (fLst (fCons (fC (.int 1)) (fCons (fC (.int 0)) fNil))) (fCall semInt (fCons (f2 semEq (fVar 6) (fC (.int 1))) fNil))) fNil)))) (ch d ps a t p w f) L = some (ptU (p.1, (p.2.1, y)), L ++ x) ∧ (y = 0 ∨ y = 1) := by
  have sm2 : ∀ x y : U, small [x, y].length = true := fun _ _ => small_of (by show 2 ≤ 16777216; decide)
  have sm3 : ∀ x y z : U, small [x, y, z].length = true := fun _ _ _ => small_of (by show 3 ≤ 16777216; decide)
  have hl : (fLst (fCons (fC (.int 1)) (fCons (fC (.int 0)) fNil))) (ch d ps a t p w f) L = some (.ref L.length, L ++ [.lst [.int 1, .int 0]]) := by
    simp only [fLst_eq, fCons_eq, fC_eq, fNil_eq, Option.bind_some, Option.map_some]
    rw [if_pos (sm2 _ _)]
  have q5 : seqAt (L ++ [HU.lst [.int 1, .int 0]]) L.length = some [.int 1, .int 0] := seqAt_lst (by simp)
  have h4 : fVar 4 (ch d ps a t p w f) L = some (.str p.1, L) := rfl
  have h5 : fVar 5 (ch d ps a t p w f) L = some (.int p.2.1, L) := rfl
  have key : ∀ (k : Bool) (y : Int), (p.2.2 == 1) = k → L2.atI [U.int 1, .int 0] (if k then 1 else 0) = some (.int y) → (fTup (fCons (fVar 4) (fCons (fVar 5) (fCons (f2 semIx (fLst (fCons (fC (.int 1)) (fCons (fC (.int 0)) fNil))) (fCall semInt (fCons (f2 semEq (fVar 6) (fC (.int 1))) fNil))) fNil)))) (ch d ps a t p w f) L = some (ptU (p.1, (p.2.1, y)), L ++ [.lst [.int 1, .int 0]]) := by
    intro k y hk hy
    have h6 : (fCall semInt (fCons (f2 semEq (fVar 6) (fC (.int 1))) fNil)) (ch d ps a t p w f) (L ++ [.lst [.int 1, .int 0]]) = some (.int (if k then 1 else 0), L ++ [.lst [.int 1, .int 0]]) := by
      rw [← hk]; rfl
    have c : (f2 semIx (fLst (fCons (fC (.int 1)) (fCons (fC (.int 0)) fNil))) (fCall semInt (fCons (f2 semEq (fVar 6) (fC (.int 1))) fNil))) (ch d ps a t p w f) L = some (.int y, L ++ [.lst [.int 1, .int 0]]) := by
      rw [f2_eq, hl, Option.bind_some, h6]
      simp only [Option.bind_some, semIx_ref, q5, hy, Option.map_some]
    rw [fTup_eq, fCons_eq, h4, Option.bind_some, fCons_eq, h5, Option.bind_some, fCons_eq, c]
    simp only [Option.bind_some, fNil_eq, Option.map_some]
    rw [if_pos (sm3 _ _ _)]; rfl
  cases hk : (p.2.2 == 1) with
  | true => exact ⟨0, _, key true 0 hk rfl, .inl rfl⟩
  | false => exact ⟨1, _, key false 1 hk rfl, .inr rfl⟩
theorem c_if_ok {L0 L : UH} {d ℓ a t : Nat} {B : Int} {ps : List (Str × (Int × Int))} {p q : Str × (Int × Int)} {w : Int} (P : Pts ps) (hp : ps[a]? = some p) (hq1 : Nm q.1) (hq2 : Pb q.2) (S : Lg L0 L d ℓ B (ps.set a q)) :
    ∃ (L' : UH) (qs : List (Str × (Int × Int))), c_if (ch d ps a t p w (some (.ref ℓ))) L = some (.nx (ch d ps a t p w (some (.ref ℓ))), L') ∧ Lg L0 L' d ℓ B qs ∧ Pts qs := by
  have ha : a < ps.length := (List.getElem?_eq_some_iff.mp hp).1
  have hlen := P.len
  have h8 : fVar 8 (ch d ps a t p w (some (.ref ℓ))) L = some (.ref ℓ, L) := rfl
  have h2 : fVar 2 (ch d ps a t p w (some (.ref ℓ))) L = some (.int (a : Int), L) := rfl
  have hat : L2.atI ((ps.set a q).map ptU) (a : Int) = some (ptU q) := at_pts (by rw [List.getElem?_set_self ha])
  have hz : (f2 semIx (f2 semIx (fVar 8) (fVar 2)) (fC (.int 0))) (ch d ps a t p w (some (.ref ℓ))) L = some (.str q.1, L) := by
    have c : (f2 semIx (fVar 8) (fVar 2)) (ch d ps a t p w (some (.ref ℓ))) L = some (ptU q, L) := by
      rw [f2_eq, h8, Option.bind_some, h2]
      simp only [Option.bind_some, semIx_ref, seqAt_lst S.at_, hat, Option.map_some]
    rw [f2_eq, c]; rfl
  obtain ⟨x, e⟩ := others_ok (L := L) (d := d) (t := t) (p := p) (w := w) (f := some (.ref ℓ)) ha hlen
  generalize hns : (ps.take a ++ ps.drop (a + 1)).map (·.1) = ns at e
  have hat2 : (L ++ x ++ [HU.lst (ns.map U.str)])[(L ++ x).length]? = some (.lst (ns.map U.str)) := by simp
  have hin : semIn false (.str q.1) (.ref (L ++ x).length) (L ++ x ++ [HU.lst (ns.map U.str)]) = some (.bl (decide (q.1 ∈ ns)), L ++ x ++ [HU.lst (ns.map U.str)]) := by
    unfold semIn
    simp only [seqAt_lst hat2, Option.bind_some, toV, toV_strs, Option.map_some, inV_str]
    rfl
  have tt : (fTest (f2 (semIn false) (f2 semIx (f2 semIx (fVar 8) (fVar 2)) (fC (.int 0))) (fComp [none] (fSeqI (f2 semAddA (fSl semSlZ (fVar 1) fNoPart (fPart (fVar 2))) (fSl semSlZ (fVar 1) (fPart (f2 semAddA (fVar 2) (fC (.int 1)))) fNoPart))) (gN 0) none b_l_changed_1e))) (ch d ps a t p w (some (.ref ℓ))) L = some (decide (q.1 ∈ ns), L ++ x ++ [HU.lst (ns.map U.str)]) := by
    rw [fTest_eq, f2_eq, hz, Option.bind_some, e, Option.bind_some, hin]
    rfl
  have S1 : Lg L0 (L ++ x ++ [HU.lst (ns.map U.str)]) d ℓ B (ps.set a q) := by
    rw [List.append_assoc]
    exact ⟨S.dk.new _, (Gw.new L _).get S.at_, S.ge, S.gt, S.ex.trans (Ex.new d _ _)⟩
  generalize L ++ x ++ [HU.lst (ns.map U.str)] = M at S1 tt
  unfold c_if
  rw [fIfS_eq, tt]
  by_cases hm : q.1 ∈ ns
  · obtain ⟨y, x2, e2, hy⟩ := alt_ok (L := M) (d := d) (a := a) (t := t) (ps := ps) (p := p) (w := w) (f := some (.ref ℓ))
    have hpm : p ∈ ps := List.mem_of_getElem? hp
    have hput := put_pts (ps := ps) (t := t) (p := p) (w := w) e2 ((Gw.new M x2).get S1.at_) (by rw [List.length_set]; exact ha)
    rw [List.set_set] at hput
    have hle : ℓ < (M ++ x2).length := (List.getElem?_eq_some_iff.mp ((Gw.new M x2).get S1.at_)).1
    refine ⟨_, ps.set a (p.1, (p.2.1, y)), ?_, ⟨(S1.dk.new x2).set S1.gt _, List.getElem?_set_self hle, S1.ge, S1.gt, (S1.ex.trans (Ex.new d _ _)).set S1.ge _⟩, set_pts P ha (P.nm p hpm) ?_ ?_⟩
    · rw [decide_eq_true hm]
      simp only [Option.bind_some, if_true]
      exact hput
    · have := P.pb p hpm
      unfold Pb at this ⊢
      rcases hy with rfl | rfl <;> simp only <;> omega
    · have hnd := P.nd
      have hps : ps = ps.take a ++ p :: ps.drop (a + 1) := by
        have h1 : ps[a] = p := by
          have := List.getElem?_eq_getElem ha
          rw [hp] at this
          exact (Option.some.inj this).symm
        rw [← h1, ← List.drop_eq_getElem_cons ha, List.take_append_drop]
      rw [hps] at hnd
      have hperm : ((ps.take a ++ p :: ps.drop (a + 1)).map (·.1)).Perm (p.1 :: (ps.take a ++ ps.drop (a + 1)).map (·.1)) := by
        have := (List.perm_middle (a := p) (l₁ := ps.take a) (l₂ := ps.drop (a + 1))).map (·.1)
        simpa using this
      exact (List.nodup_cons.mp (hperm.nodup_iff.mp hnd)).1
  · rw [decide_eq_false hm]
    refine ⟨M, ps.set a q, rfl, S1, set_pts P ha hq1 hq2 (by rw [hns]; exact hm)⟩

end Lw

set_option Elab.async false
set_option linter.all false
set_option maxRecDepth 100000
set_option maxHeartbeats 1000000
namespace Lw
open PySem L2 MR
def c_swap : FS := (fIfS (fTest (f2 semEq (fVar 7) (fC (.int 3)))) (fSeq (fAsg (fCall semList (fCons (fVar 1) fNil)) (gN 8)) (fAsg (fTup (fCons (f2 semIx (fVar 8) (fVar 3)) (fCons (f2 semIx (fVar 8) (fVar 2)) fNil))) (MR.gTup 2 (MR.gCons (MR.gSub (fVar 8) (fVar 2)) (MR.gCons (MR.gSub (fVar 8) (fVar 3)) MR.gNil))))) fNext)
theorem c_swap_ok {L0 L : UH} {d ℓ a t : Nat} {B : Int} {ps qs : List (Str × (Int × Int))} {p : Str × (Int × Int)} {w : Int} (P : Pts ps) (ha : a < ps.length) (ht : t < ps.length) (S : Lg L0 L d ℓ B qs) (Q : Pts qs) :
    ∃ (ℓ' : Nat) (L' : UH) (rs : List (Str × (Int × Int))), c_swap (ch d ps a t p w (some (.ref ℓ))) L = some (.nx (ch d ps a t p w (some (.ref ℓ'))), L') ∧ Lg L0 L' d ℓ' B rs ∧ Pts rs := by
  have tt : (fTest (f2 semEq (fVar 7) (fC (.int 3)))) (ch d ps a t p w (some (.ref ℓ))) L = some (w == 3, L) := rfl
  unfold c_swap
  rw [fIfS_eq, tt]
  cases hw : (w == 3) with
  | false => exact ⟨ℓ, L, qs, rfl, S, Q⟩
  | true =>
    have hlp := P.len
    generalize hM : L ++ [HU.lst (ps.map ptU)] = M
    have hat : M[L.length]? = some (.lst (ps.map ptU)) := by rw [← hM]; simp
    have S1 : Lg L0 M d L.length B ps := by
      rw [← hM] at hat ⊢
      exact ⟨S.dk.new _, hat, S.ex.le, S.dk.lt, S.ex.trans (Ex.new d _ _)⟩
    have s1 : (fAsg (fCall semList (fCons (fVar 1) fNil)) (gN 8)) (ch d ps a t p w (some (.ref ℓ))) L = some (.nx (ch d ps a t p w (some (.ref L.length))), M) := by rw [list_pts, hM]
    have hpa : ps[a]? = some ps[a] := List.getElem?_eq_getElem ha
    have hpt : ps[t]? = some ps[t] := List.getElem?_eq_getElem ht
    have e8 : ∀ N, fVar 8 (ch d ps a t p w (some (.ref L.length))) N = some (.ref L.length, N) := fun _ => rfl
    have e2 : ∀ N, fVar 2 (ch d ps a t p w (some (.ref L.length))) N = some (.int (a : Int), N) := fun _ => rfl
    have e3 : ∀ N, fVar 3 (ch d ps a t p w (some (.ref L.length))) N = some (.int (t : Int), N) := fun _ => rfl
    have v1 : (f2 semIx (fVar 8) (fVar 3)) (ch d ps a t p w (some (.ref L.length))) M = some (ptU ps[t], M) := by
      rw [f2_eq, e8, Option.bind_some, e3]
      simp only [Option.bind_some, semIx_ref, seqAt_lst hat, at_pts hpt, Option.map_some]
    have v2 : (f2 semIx (fVar 8) (fVar 2)) (ch d ps a t p w (some (.ref L.length))) M = some (ptU ps[a], M) := by
      rw [f2_eq, e8, Option.bind_some, e2]
      simp only [Option.bind_some, semIx_ref, seqAt_lst hat, at_pts hpa, Option.map_some]
    have sm2 : ∀ x y : U, small [x, y].length = true := fun _ _ => small_of (by show 2 ≤ 16777216; decide)
    have v3 : (fTup (fCons (f2 semIx (fVar 8) (fVar 3)) (fCons (f2 semIx (fVar 8) (fVar 2)) fNil))) (ch d ps a t p w (some (.ref L.length))) M = some (.tup [ptU ps[t], ptU ps[a]], M) := by
      rw [fTup_eq, fCons_eq, v1, Option.bind_some, fCons_eq, v2]
      simp only [Option.bind_some, fNil_eq, Option.map_some]
      rw [if_pos (sm2 _ _)]
    have i1 : ixN (ps.map ptU).length (a : Int) = some a := by rw [ixN_of (by omega) (by simp; omega)]; simp
    have i2 : ixN ((ps.set a ps[t]).map ptU).length (t : Int) = some t := by rw [ixN_of (by omega) (by simp; omega)]; simp
    have hlt : L.length < M.length := (List.getElem?_eq_some_iff.mp hat).1
    have at2 : (M.set L.length (.lst ((ps.set a ps[t]).map ptU)))[L.length]? = some (.lst ((ps.set a ps[t]).map ptU)) := List.getElem?_set_self hlt
    have hs1 : (ps.map ptU).set a (ptU ps[t]) = (ps.set a ps[t]).map ptU := by rw [List.map_set]
    have hs2 : ((ps.set a ps[t]).map ptU).set t (ptU ps[a]) = ((ps.set a ps[t]).set t ps[a]).map ptU := by simp only [List.map_set]
    have w1 : MR.gSub (fVar 8) (fVar 2) (ptU ps[t]) (ch d ps a t p w (some (.ref L.length))) M = some (ch d ps a t p w (some (.ref L.length)), M.set L.length (.lst ((ps.set a ps[t]).map ptU))) := by
      rw [gSub_eq, e8, Option.bind_some, e2]
      simp only [Option.bind_some, lstAt_lst hat, i1, Option.map_some, hs1]
    have w2 : MR.gSub (fVar 8) (fVar 3) (ptU ps[a]) (ch d ps a t p w (some (.ref L.length))) (M.set L.length (.lst ((ps.set a ps[t]).map ptU))) = some (ch d ps a t p w (some (.ref L.length)), (M.set L.length (.lst ((ps.set a ps[t]).map ptU))).set L.length (.lst (((ps.set a ps[t]).set t ps[a]).map ptU))) := by
      rw [gSub_eq, e8, Option.bind_some, e3]
      simp only [Option.bind_some, lstAt_lst at2, i2, Option.map_some, hs2]
    have hperm : ((ps.set a ps[t]).set t ps[a]).Perm ps := List.set_set_perm ha ht
    generalize hys : (ps.set a ps[t]).set t ps[a] = ys at w2 hperm
    generalize hzs : ps.set a ps[t] = zs at w1 w2 at2
    refine ⟨L.length, (M.set L.length (.lst (zs.map ptU))).set L.length (.lst (ys.map ptU)), ys, ?_, ⟨(S1.dk.set S1.gt _).set S1.gt _, List.getElem?_set_self (List.getElem?_eq_some_iff.mp at2).1, S1.ge, S1.gt, (S1.ex.set S1.ge _).set S1.ge _⟩, P.perm hperm⟩
    rw [Option.bind_some, if_pos rfl, fSeq_nx s1, fAsg_eq, v3, Option.bind_some, gTup_eq]
    simp only [List.length_cons, List.length_nil, if_true, gCons_eq, gNil_eq, w1, w2, Option.bind_some, Option.map_some]
def c_pop : FS := (fIfS (fTest (f2 semEq (fVar 7) (fC (.int 4)))) (fSeq (fAsg (fCall semList (fCons (fVar 1) fNil)) (gN 8)) (fDrop (fMeth "list" semPop (fVar 8) (fCons (fVar 2) fNil)))) fNext)
theorem c_pop_ok {L0 L : UH} {d ℓ a t : Nat} {B : Int} {ps qs : List (Str × (Int × Int))} {p : Str × (Int × Int)} {w : Int} (P : Pts ps) (ha : a < ps.length) (S : Lg L0 L d ℓ B qs) (Q : Pts qs) :
    ∃ (ℓ' : Nat) (L' : UH) (rs : List (Str × (Int × Int))), c_pop (ch d ps a t p w (some (.ref ℓ))) L = some (.nx (ch d ps a t p w (some (.ref ℓ'))), L') ∧ Lg L0 L' d ℓ' B rs ∧ Pts rs := by
  have tt : (fTest (f2 semEq (fVar 7) (fC (.int 4)))) (ch d ps a t p w (some (.ref ℓ))) L = some (w == 4, L) := rfl
  unfold c_pop
  rw [fIfS_eq, tt]
  cases hw : (w == 4) with
  | false => exact ⟨ℓ, L, qs, rfl, S, Q⟩
  | true =>
    have hlp := P.len
    generalize hM : L ++ [HU.lst (ps.map ptU)] = M
    have hat : M[L.length]? = some (.lst (ps.map ptU)) := by rw [← hM]; simp
    have S1 : Lg L0 M d L.length B ps := by
      rw [← hM] at hat ⊢
      exact ⟨S.dk.new _, hat, S.ex.le, S.dk.lt, S.ex.trans (Ex.new d _ _)⟩
    have s1 : (fAsg (fCall semList (fCons (fVar 1) fNil)) (gN 8)) (ch d ps a t p w (some (.ref ℓ))) L = some (.nx (ch d ps a t p w (some (.ref L.length))), M) := by rw [list_pts, hM]
    have hp := pop_ok (i := (a : Int)) hat (by omega) (by simp; omega) (by simp; omega)
    rw [eraseIdx_mapU] at hp
    have ty := tyU_lst hat
    have e8 : fVar 8 (ch d ps a t p w (some (.ref L.length))) M = some (.ref L.length, M) := rfl
    have e2 : fVar 2 (ch d ps a t p w (some (.ref L.length))) M = some (.int (a : Int), M) := rfl
    have s2 : (fDrop (fMeth "list" semPop (fVar 8) (fCons (fVar 2) fNil))) (ch d ps a t p w (some (.ref L.length))) M = some (.nx (ch d ps a t p w (some (.ref L.length))), M.set L.length (.lst ((ps.eraseIdx (a : Int).toNat).map ptU))) := by
      rw [fDrop_eq, fMeth_eq, e8]
      simp only [Option.bind_some, ty, if_true, fCons_eq, e2, fNil_eq, Option.map_some, hp]
    have hlt : L.length < M.length := (List.getElem?_eq_some_iff.mp hat).1
    refine ⟨L.length, _, ps.eraseIdx (a : Int).toNat, ?_, ⟨S1.dk.set S1.gt _, List.getElem?_set_self hlt, S1.ge, S1.gt, S1.ex.set S1.ge _⟩, P.erase _⟩
    rw [Option.bind_some, if_pos rfl, fSeq_nx s1, s2]
theorem changed_ok {L : UH} {d : Nat} {B : Int} {ps : List (Str × (Int × Int))} (P : Pts ps) (D : Deck L d B) (hB : B ≤ 1000000000) :
    ∃ (qs : List (Str × (Int × Int))) (L' : UH), m_l_changed [.ref d, tuU ps] L = some (tuU qs, L') ∧ Pts qs ∧ Deck L' d (B + 3) ∧ Ex d L L' := by
  have sm0 : small ([] : List U).length = true := small_of (by show 0 ≤ 16777216; decide)
  have sm1 : ∀ x : U, small [x].length = true := fun _ => small_of (by show 1 ≤ 16777216; decide)
  have sm3 : ∀ x y z : U, small [x, y, z].length = true := fun _ _ _ => small_of (by show 3 ≤ 16777216; decide)
  have P0 : ∀ p ∈ ([] : List (Str × (Int × Int))), Nm p.1 := by simp
  have tt : (fTest (f2 semEq (fVar 1) (fTup fNil))) [some (.ref d), some (tuU ps), none, none, none, none, none, none, none] L = some (decide (ps = []), L) := by
    have t0 : (fTup fNil) [some (.ref d), some (tuU ps), none, none, none, none, none, none, none] L = some (tuU [], L) := by rw [fTup_eq, fNil_eq, Option.bind_some, if_pos sm0]; rfl
    rw [fTest_eq, f2_eq]
    simp only [fVar_eq, List.getElem?_cons_zero, List.getElem?_cons_succ, Option.join_some, Option.map_some, Option.bind_some, t0, eq_pts P.nm P0]
  by_cases hne : ps = []
  · refine ⟨[("a", (1, 1))], L, ?_, ⟨fun p hp => ?_, by simp, fun p hp => ?_, by simp⟩, D.mono (by omega), Ex.refl d L⟩
    · have tb : (fTup (fCons (fTup (fCons (fC (.str "a")) (fCons (fC (.int 1)) (fCons (fC (.int 1)) fNil)))) fNil)) [some (.ref d), some (tuU ps), none, none, none, none, none, none, none] L = some (tuU [("a", (1, 1))], L) := by
        have c : (fTup (fCons (fC (.str "a")) (fCons (fC (.int 1)) (fCons (fC (.int 1)) fNil)))) [some (.ref d), some (tuU ps), none, none, none, none, none, none, none] L = some (ptU ("a", (1, 1)), L) := by
          simp only [fTup_eq, fCons_eq, fC_eq, fNil_eq, Option.bind_some, Option.map_some]
          rw [if_pos (sm3 _ _ _)]; rfl
        rw [fTup_eq, fCons_eq, c]
        simp only [Option.bind_some, fNil_eq, Option.map_some]
        rw [if_pos (sm1 _)]; rfl
      unfold m_l_changed fnU b_l_changed
      simp only [List.length_cons, List.length_nil, if_true, List.map_cons, List.map_nil, List.replicate, List.cons_append, List.nil_append]
      rw [fSeq_eq, fIfS_eq, tt, decide_eq_true hne]
      simp only [Option.bind_some, if_true]
      rw [ret_ok tb]
      rfl
    · have : p = (("a" : Str), ((1 : Int), (1 : Int))) := by simpa using hp
      rw [this]; exact nm_a
    · have : p = (("a" : Str), ((1 : Int), (1 : Int))) := by simpa using hp
      rw [this]; exact ⟨by decide, by decide⟩
  have hpos : 0 < ps.length := List.length_pos_iff.mpr hne
  have hlen := P.len
  have s1 : (fIfS (fTest (f2 semEq (fVar 1) (fTup fNil))) (fRet (fTup (fCons (fTup (fCons (fC (.str "a")) (fCons (fC (.int 1)) (fCons (fC (.int 1)) fNil)))) fNil))) fNext) [some (.ref d), some (tuU ps), none, none, none, none, none, none, none] L = some (.nx [some (.ref d), some (tuU ps), none, none, none, none, none, none, none], L) := by
    rw [fIfS_eq, tt, decide_eq_false hne]; rfl
  have hsl : ∀ N, semLen [tuU ps] N = some (.int (ps.length : Int), N) := fun N => by unfold tuU; simp [semLen, lenU]
  obtain ⟨i, L1, e1, a1, b1, D1, y1⟩ := next_ok (many := (ps.length : Int)) D (by omega) (by omega) (by omega)
  obtain ⟨a, rfl⟩ : ∃ a : Nat, i = (a : Int) := ⟨i.toNat, by omega⟩
  have s2 : (fAsg (fOwn 2 m_l_next (fCons (fVar 0) (fCons (fCall semLen (fCons (fVar 1) fNil)) fNil))) (gN 2)) [some (.ref d), some (tuU ps), none, none, none, none, none, none, none] L = some (.nx [some (.ref d), some (tuU ps), some (.int (a : Int)), none, none, none, none, none, none], L1) := by
    refine setN (own2 (u := .ref d) (w := .int (ps.length : Int)) (L1 := L) (L2 := L) rfl ?_ e1)
    simp only [fCall_eq, fCons_eq, fNil_eq, fVar_eq, List.getElem?_cons_succ, List.getElem?_cons_zero, Option.join_some, Option.map_some, Option.bind_some, hsl]
  obtain ⟨j, J2, e2, a2, b2, D2, y2⟩ := next_ok (many := (ps.length : Int)) D1 (by omega) (by omega) (by omega)
  obtain ⟨t, rfl⟩ : ∃ t : Nat, j = (t : Int) := ⟨j.toNat, by omega⟩
  have s3 : (fAsg (fOwn 2 m_l_next (fCons (fVar 0) (fCons (fCall semLen (fCons (fVar 1) fNil)) fNil))) (gN 3)) [some (.ref d), some (tuU ps), some (.int (a : Int)), none, none, none, none, none, none] L1 = some (.nx [some (.ref d), some (tuU ps), some (.int (a : Int)), some (.int (t : Int)), none, none, none, none, none], J2) := by
    refine setN (own2 (u := .ref d) (w := .int (ps.length : Int)) (L1 := L1) (L2 := L1) rfl ?_ e2)
    simp only [fCall_eq, fCons_eq, fNil_eq, fVar_eq, List.getElem?_cons_succ, List.getElem?_cons_zero, Option.join_some, Option.map_some, Option.bind_some, hsl]
  have ha : a < ps.length := by omega
  have ht : t < ps.length := by omega
  have hp : ps[a]? = some ps[a] := List.getElem?_eq_getElem ha
  generalize ps[a] = p at hp
  have hpm : p ∈ ps := List.mem_of_getElem? hp
  have s4 : (fAsg (f2 semIx (fVar 1) (fVar 2)) (MR.gTup 3 (MR.gCons (gN 4) (MR.gCons (gN 5) (MR.gCons (gN 6) MR.gNil))))) [some (.ref d), some (tuU ps), some (.int (a : Int)), some (.int (t : Int)), none, none, none, none, none] J2 = some (.nx [some (.ref d), some (tuU ps), some (.int (a : Int)), some (.int (t : Int)), some (.str p.1), some (.int p.2.1), some (.int p.2.2), none, none], J2) := by
    have c : (f2 semIx (fVar 1) (fVar 2)) [some (.ref d), some (tuU ps), some (.int (a : Int)), some (.int (t : Int)), none, none, none, none, none] J2 = some (ptU p, J2) := by
      rw [f2_eq]
      simp only [fVar_eq, List.getElem?_cons_succ, List.getElem?_cons_zero, Option.join_some, Option.map_some, Option.bind_some]
      show (L2.atI (ps.map ptU) (a : Int)).map _ = _
      rw [at_pts hp]; rfl
    rw [fAsg_eq, c]; rfl
  obtain ⟨w, L3, e3, a3, b3, D3, y3⟩ := next_ok (many := 5) D2 (by omega) (by decide) (by decide)
  have s5 : (fAsg (fOwn 2 m_l_next (fCons (fVar 0) (fCons (fC (.int 5)) fNil))) (gN 7)) [some (.ref d), some (tuU ps), some (.int (a : Int)), some (.int (t : Int)), some (.str p.1), some (.int p.2.1), some (.int p.2.2), none, none] J2 = some (.nx (ch d ps a t p w none), L3) := setN (own2 (u := .ref d) (w := .int 5) (L1 := J2) (L2 := J2) rfl rfl e3)
  have s6 := list_pts d ps a t p w none L3
  have x3 := (y1.trans y2).trans y3
  generalize hM : L3 ++ [HU.lst (ps.map ptU)] = M at s6
  have hat : M[L3.length]? = some (.lst (ps.map ptU)) := by rw [← hM]; simp
  have S6 : Lg L M d L3.length (B + 3) ps := by
    rw [← hM] at hat ⊢
    exact ⟨(D3.mono (by omega)).new _, hat, x3.le, D3.lt, x3.trans (Ex.new d _ _)⟩
  obtain ⟨q, xq, eq1, hq1, hq2⟩ := menu_ok (L := M) (d := d) (ℓ := L3.length) (a := a) (t := t) (ps := ps) (p := p) (w := w) ⟨a3, b3⟩ (P.nm p hpm) (P.pb p hpm)
  have hat7 := (Gw.new M xq).get hat
  have s7 := put_pts (ps := ps) (t := t) (p := p) (w := w) eq1 hat7 ha
  have hlt : L3.length < (M ++ xq).length := (List.getElem?_eq_some_iff.mp hat7).1
  have S7 : Lg L ((M ++ xq).set L3.length (.lst ((ps.set a q).map ptU))) d L3.length (B + 3) (ps.set a q) := ⟨(S6.dk.new xq).set S6.gt _, List.getElem?_set_self hlt, S6.ge, S6.gt, (S6.ex.trans (Ex.new d _ _)).set S6.ge _⟩
  obtain ⟨L8, q8, e8, S8, Q8⟩ := c_if_ok (t := t) (w := w) P hp hq1 hq2 S7
  obtain ⟨ℓ9, L9, q9, e9, S9, Q9⟩ := c_swap_ok (t := t) (p := p) (w := w) P ha ht S8 Q8
  obtain ⟨ℓ10, L10, q10, e10, S10, Q10⟩ := c_pop_ok (t := t) (p := p) (w := w) P ha S9 Q9
  refine ⟨q10, L10, ?_, Q10, S10.dk, S10.ex⟩
  have h8 : fVar 8 (ch d ps a t p w (some (.ref ℓ10))) L10 = some (.ref ℓ10, L10) := rfl
  have s11 : (fCall semTuple (fCons (fVar 8) fNil)) (ch d ps a t p w (some (.ref ℓ10))) L10 = some (tuU q10, L10) := by
    rw [fCall_eq, fCons_eq, h8]
    simp only [Option.bind_some, fNil_eq, Option.map_some, semTuple, seqAt_lst S10.at_]
    rfl
  have sp : b_l_changed = fSeq (fIfS (fTest (f2 semEq (fVar 1) (fTup fNil))) (fRet (fTup (fCons (fTup (fCons (fC (.str "a")) (fCons (fC (.int 1)) (fCons (fC (.int 1)) fNil)))) fNil))) fNext) (fSeq (fAsg (fOwn 2 m_l_next (fCons (fVar 0) (fCons (fCall semLen (fCons (fVar 1) fNil)) fNil))) (gN 2)) (fSeq (fAsg (fOwn 2 m_l_next (fCons (fVar 0) (fCons (fCall semLen (fCons (fVar 1) fNil)) fNil))) (gN 3)) (fSeq (fAsg (f2 semIx (fVar 1) (fVar 2)) (MR.gTup 3 (MR.gCons (gN 4) (MR.gCons (gN 5) (MR.gCons (gN 6) MR.gNil))))) (fSeq (fAsg (fOwn 2 m_l_next (fCons (fVar 0) (fCons (fC (.int 5)) fNil))) (gN 7)) (fSeq (fAsg (fCall semList (fCons (fVar 1) fNil)) (gN 8)) (fSeq (fAsg (f2 semIx (fLst (fCons (fTup (fCons (fVar 4) (fCons (f2 semSub (fC (.int 0)) (fVar 5)) (fCons (fVar 6) fNil)))) (fCons (fTup (fCons (fVar 4) (fCons (fVar 6) (fCons (fVar 5) fNil)))) (fCons (fTup (fCons (f2 semAddA (fSl semSlZ (fVar 4) fNoPart (fPart (fC (.int 7)))) (fC (.str "q"))) (fCons (fVar 5) (fCons (fVar 6) fNil)))) fNil)))) (f2 semMod (fVar 7) (fC (.int 3)))) (MR.gSub (fVar 8) (fVar 2))) (fSeq c_if (fSeq c_swap (fSeq c_pop (fRet (fCall semTuple (fCons (fVar 8) fNil)))))))))))) := rfl
  unfold m_l_changed fnU
  simp only [List.length_cons, List.length_nil, if_true, List.map_cons, List.map_nil, List.replicate, List.cons_append, List.nil_append]
  rw [sp, fSeq_nx s1, fSeq_nx s2, fSeq_nx s3, fSeq_nx s4, fSeq_nx s5, fSeq_nx s6, fSeq_nx s7, fSeq_nx e8, fSeq_nx e9, fSeq_nx e10, ret_ok s11]
  rfl

end Lw

set_option Elab.async false
set_option linter.all false
set_option maxRecDepth 100000
set_option maxHeartbeats 1000000
namespace Lw
open PySem L2 MR
def below (p q : Int × Int) : Bool := decide (p.1 ≤ q.1) && (decide (p.2 ≤ q.2) && !(p.1 == q.1 && (p.2 == q.2 && true)))
theorem ne_pr (p q : Int × Int) (L : UH) : semNe (pr p) (pr q) L = some (.bl (!(p.1 == q.1 && (p.2 == q.2 && true))), L) := rfl
theorem lies_ok (p q : Int × Int) (L : UH) : ∃ x, m_lies_below [pr p, pr q] L = some (.bl (below p q), L ++ x) := by
  have hz : (fZipA (fCons (fVar 0) (fCons (fVar 1) fNil))) [some (pr p), some (pr q)] L = some (.seq ([(p.1, q.1), (p.2, q.2)].map fun a => .tup [.int a.1, .int a.2]), L) := rfl
  obtain ⟨x, e⟩ := comp_grow (ix := [none, none]) (fi := fZipA (fCons (fVar 0) (fCons (fVar 1) fNil))) (it := .seq ([(p.1, q.1), (p.2, q.2)].map fun a => .tup [.int a.1, .int a.2])) (g := (MR.gTup 2 (MR.gCons (gN 0) (MR.gCons (gN 1) MR.gNil)))) (tt := none) (fe := b_lies_below_1e) (δ := [some (pr p), some (pr q)]) (L := L) (L0 := L)
    [(p.1, q.1), (p.2, q.2)] (fun a => .tup [.int a.1, .int a.2]) (fun _ => true) (fun a => .bl (decide (a.1 ≤ a.2))) (fun δ => ∃ a b, δ = [a, b]) hz (by simp [IU.size]) (by simp) ⟨none, none, rfl⟩
    (fun k x => rfl)
    (fun a δ x _ ⟨y, z, hδ⟩ => by
      subst hδ
      refine ⟨_, rfl, ⟨_, _, rfl⟩, [], by simp [testU], fun _ => ⟨[], ?_⟩⟩
      simp [b_lies_below_1e])
  have hf : List.filter (fun _ : Int × Int => true) [(p.1, q.1), (p.2, q.2)] = [(p.1, q.1), (p.2, q.2)] := by simp
  rw [hf] at e
  have q1 : seqAt (L ++ x ++ [HU.lst ([(p.1, q.1), (p.2, q.2)].map fun a => .bl (decide (a.1 ≤ a.2)))]) (L ++ x).length = some ([(p.1, q.1), (p.2, q.2)].map fun a => U.bl (decide (a.1 ≤ a.2))) := seqAt_lst (by simp)
  have ha := all_lst _ _ q1
  by_cases h : (!(p.1 == q.1 && (p.2 == q.2 && true))) = true
  · refine ⟨x ++ [HU.lst ([(p.1, q.1), (p.2, q.2)].map fun a => .bl (decide (a.1 ≤ a.2)))], ?_⟩
    have hb : below p q = List.all [(p.1, q.1), (p.2, q.2)] fun a => decide (a.1 ≤ a.2) := by
      simp only [below, h, List.all_cons, List.all_nil]
    have hn := ne_pr p q L
    rw [h] at hn
    unfold m_lies_below fnU b_lies_below
    simp only [List.length_cons, List.length_nil, if_true, List.map_cons, List.map_nil, Nat.sub_self, List.replicate_zero, List.append_nil, fRet_eq, fAndV_eq, f2_eq, fVar_eq, List.getElem?_cons_zero, List.getElem?_cons_succ, Option.join_some, Option.map_some, Option.bind_some, hn, fCall_eq, fCons_eq, fNil_eq]
    simp only [List.map_cons, List.map_nil] at e ha
    rw [hb, ← List.append_assoc]
    simp only [e, ha, Option.map_some, Option.bind_some]
  · have h' : (!(p.1 == q.1 && (p.2 == q.2 && true))) = false := by simpa using h
    refine ⟨[], ?_⟩
    have hb : below p q = false := by simp only [below, h', Bool.and_false]
    have hn := ne_pr p q L
    rw [h'] at hn
    unfold m_lies_below fnU b_lies_below
    simp only [List.length_cons, List.length_nil, if_true, List.map_cons, List.map_nil, Nat.sub_self, List.replicate_zero, List.append_nil, fRet_eq, fAndV_eq, f2_eq, fVar_eq, List.getElem?_cons_zero, List.getElem?_cons_succ, Option.join_some, Option.map_some, Option.bind_some, hn, hb]
    simp
theorem Gw.ex {L L' : UH} (h : Gw L L') (d : Nat) : Ex d L L' := by obtain ⟨x, rfl⟩ := h; exact Ex.new d L x
theorem below_iff (p q : Int × Int) : below p q = true ↔ p.1 ≤ q.1 ∧ p.2 ≤ q.2 ∧ ¬ (p.1 = q.1 ∧ p.2 = q.2) := by
  unfold below
  simp only [Bool.and_true, Bool.and_eq_true, decide_eq_true_eq, Bool.not_eq_true', Bool.and_eq_false_iff, beq_eq_false_iff_ne]
  omega
theorem below_tr {p q r : Int × Int} (h1 : below p q = true) (h2 : below q r = true) : below p r = true := by
  rw [below_iff] at *
  omega
theorem below_irr (p : Int × Int) : below p p = false := by
  rw [Bool.eq_false_iff]
  intro h
  rw [below_iff] at h
  omega
theorem below_asym {p q : Int × Int} (h1 : below p q = true) : below q p = false := by
  rw [Bool.eq_false_iff]
  intro h
  rw [below_iff] at h h1
  omega
theorem below_sub (p q : Int × Int) : below (0, 0) (q.1 + (0 - p.1), q.2 + (0 - p.2)) = below p q := by
  rw [Bool.eq_iff_iff, below_iff, below_iff]
  simp only
  omega
theorem below_rev (p q : Int × Int) : below (p.2, p.1) (q.2, q.1) = below p q := by
  rw [Bool.eq_iff_iff, below_iff, below_iff]
  simp only
  omega
theorem lie2 {fa fb : FE} {p q : Int × Int} {δ : UE} {L : UH} (ha : fa δ L = some (pr p, L)) (hb : fb δ L = some (pr q, L)) : ∃ x, (fOwn 2 m_lies_below (fCons fa (fCons fb fNil))) δ L = some (.bl (below p q), L ++ x) := by
  obtain ⟨x, e⟩ := lies_ok p q L
  exact ⟨x, own2 ha hb e⟩
theorem ne_bl (a b : Bool) (L : UH) : semNe (.bl a) (.bl b) L = some (.bl (!(a == b)), L) := by cases a <;> cases b <;> rfl
theorem eq_bl (a b : Bool) (L : UH) : semEq (.bl a) (.bl b) L = some (.bl (a == b), L) := by cases a <;> cases b <;> rfl
theorem if_no {c : FT} {f : FS} {δ : UE} {L L' : UH} (h : c δ L = some (false, L')) : fIfS c f fNext δ L = some (.nx δ, L') := by
  rw [fIfS_eq, h]; rfl
theorem and_no {c e : FT} {δ : UE} {L L1 : UH} {b : Bool} (h : c δ L = some (b, L1)) (h2 : b = true → ∃ L', e δ L1 = some (false, L') ∧ Gw L1 L') : ∃ L', fAnd c e δ L = some (false, L') ∧ Gw L1 L' := by
  rw [fAnd_eq, h]
  cases b with
  | true =>
    obtain ⟨L', e', g⟩ := h2 rfl
    exact ⟨L', by simp only [Option.bind_some, if_true]; exact e', g⟩
  | false => exact ⟨L1, rfl, .refl _⟩
theorem tru_bl {f : FE} {b : Bool} {δ : UE} {L L' : UH} (h : f δ L = some (.bl b, L')) : fTru f δ L = some (b, L') := by
  rw [fTru_eq, h]; rfl
theorem not_bl {c : FT} {b : Bool} {δ : UE} {L L' : UH} (h : c δ L = some (b, L')) : fNot c δ L = some (!b, L') := by
  rw [fNot_eq, h]; rfl
theorem three_ok (p q r : Int × Int) (L : UH) : ∃ L', m_l_three_right [pr p, pr q, pr r] L = some (.bl true, L') ∧ Gw L L' := by
  -- the first test
  have A1 : ∃ L1, (fAnd (fTru (fOwn 2 m_lies_below (fCons (fVar 0) (fCons (fVar 1) fNil)))) (fAnd (fTru (fOwn 2 m_lies_below (fCons (fVar 1) (fCons (fVar 2) fNil)))) (fNot (fTru (fOwn 2 m_lies_below (fCons (fVar 0) (fCons (fVar 2) fNil))))))) [some (pr p), some (pr q), some (pr r), none, none] L = some (false, L1) ∧ Gw L L1 := by
    obtain ⟨x1, e1⟩ := lie2 (fa := fVar 0) (fb := fVar 1) (p := p) (q := q) (δ := [some (pr p), some (pr q), some (pr r), none, none]) (L := L) rfl rfl
    obtain ⟨L', h, g⟩ := and_no (tru_bl e1) (e := fAnd (fTru (fOwn 2 m_lies_below (fCons (fVar 1) (fCons (fVar 2) fNil)))) (fNot (fTru (fOwn 2 m_lies_below (fCons (fVar 0) (fCons (fVar 2) fNil)))))) fun h1 => by
      obtain ⟨x2, e2⟩ := lie2 (fa := fVar 1) (fb := fVar 2) (p := q) (q := r) (δ := [some (pr p), some (pr q), some (pr r), none, none]) (L := L ++ x1) rfl rfl
      obtain ⟨L', h, g⟩ := and_no (tru_bl e2) (e := fNot (fTru (fOwn 2 m_lies_below (fCons (fVar 0) (fCons (fVar 2) fNil))))) fun h2 => by
        obtain ⟨x3, e3⟩ := lie2 (fa := fVar 0) (fb := fVar 2) (p := p) (q := r) (δ := [some (pr p), some (pr q), some (pr r), none, none]) (L := L ++ x1 ++ x2) rfl rfl
        rw [below_tr h1 h2] at e3
        exact ⟨_, not_bl (tru_bl e3), Gw.new _ _⟩
      exact ⟨L', h, (Gw.new _ _).trans g⟩
    exact ⟨L', h, (Gw.new _ _).trans g⟩
  obtain ⟨L1, t1, g1⟩ := A1
  have A2 : ∃ J2, (fOr (fTru (fOwn 2 m_lies_below (fCons (fVar 0) (fCons (fVar 0) fNil)))) (fAnd (fTru (fOwn 2 m_lies_below (fCons (fVar 0) (fCons (fVar 1) fNil)))) (fTru (fOwn 2 m_lies_below (fCons (fVar 1) (fCons (fVar 0) fNil)))))) [some (pr p), some (pr q), some (pr r), none, none] L1 = some (false, J2) ∧ Gw L1 J2 := by
    obtain ⟨x1, e1⟩ := lie2 (fa := fVar 0) (fb := fVar 0) (p := p) (q := p) (δ := [some (pr p), some (pr q), some (pr r), none, none]) (L := L1) rfl rfl
    rw [below_irr] at e1
    obtain ⟨x2, e2⟩ := lie2 (fa := fVar 0) (fb := fVar 1) (p := p) (q := q) (δ := [some (pr p), some (pr q), some (pr r), none, none]) (L := L1 ++ x1) rfl rfl
    obtain ⟨L', h, g⟩ := and_no (tru_bl e2) (e := fTru (fOwn 2 m_lies_below (fCons (fVar 1) (fCons (fVar 0) fNil)))) fun h1 => by
      obtain ⟨x3, e3⟩ := lie2 (fa := fVar 1) (fb := fVar 0) (p := q) (q := p) (δ := [some (pr p), some (pr q), some (pr r), none, none]) (L := L1 ++ x1 ++ x2) rfl rfl
      rw [below_asym h1] at e3
      exact ⟨_, tru_bl e3, Gw.new _ _⟩
    refine ⟨L', ?_, ((Gw.new _ _).trans (Gw.new _ _)).trans g⟩
    rw [fOr_eq, tru_bl e1]
    simp only [Option.bind_some, Bool.false_eq_true, if_false]
    exact h
  obtain ⟨J2, t2, g2⟩ := A2
  have sm2 : ∀ x y : U, small [x, y].length = true := fun _ _ => small_of (by show 2 ≤ 16777216; decide)
  have s3 : (fAsg (fLst (fCons (f2 semSub (fC (.int 0)) (f2 semIx (fVar 0) (fC (.int 0)))) (fCons (f2 semSub (fC (.int 0)) (f2 semIx (fVar 0) (fC (.int 1)))) fNil))) (gN 3)) [some (pr p), some (pr q), some (pr r), none, none] J2 = some (.nx [some (pr p), some (pr q), some (pr r), some (.ref J2.length), none], J2 ++ [.lst [.int (0 - p.1), .int (0 - p.2)]]) := by
    refine setN ?_
    have c : (fCons (f2 semSub (fC (.int 0)) (f2 semIx (fVar 0) (fC (.int 0)))) (fCons (f2 semSub (fC (.int 0)) (f2 semIx (fVar 0) (fC (.int 1)))) fNil)) [some (pr p), some (pr q), some (pr r), none, none] J2 = some ([.int (0 - p.1), .int (0 - p.2)], J2) := rfl
    rw [fLst_eq, c, Option.bind_some, if_pos (sm2 _ _)]
  generalize hM : J2 ++ [HU.lst [.int (0 - p.1), .int (0 - p.2)]] = M at s3
  have hat : M[J2.length]? = some (.lst [.int (0 - p.1), .int (0 - p.2)]) := by rw [← hM]; simp
  have gM : Gw J2 M := by rw [← hM]; exact Gw.new _ _
  have i0 : L2.atI [U.int (0 - p.1), .int (0 - p.2)] 0 = some (.int (0 - p.1)) := rfl
  have i1 : L2.atI [U.int (0 - p.1), .int (0 - p.2)] 1 = some (.int (0 - p.2)) := rfl
  have s4 : (fAsg (fTup (fCons (f2 semAdd (f2 semIx (fVar 1) (fC (.int 0))) (f2 semIx (fVar 3) (fC (.int 0)))) (fCons (f2 semAdd (f2 semIx (fVar 1) (fC (.int 1))) (f2 semIx (fVar 3) (fC (.int 1)))) fNil))) (gN 4)) [some (pr p), some (pr q), some (pr r), some (.ref J2.length), none] M = some (.nx [some (pr p), some (pr q), some (pr r), some (.ref J2.length), some (pr (q.1 + (0 - p.1), q.2 + (0 - p.2)))], M) := by
    refine setN ?_
    have q0 : (f2 semIx (fVar 1) (fC (.int 0))) [some (pr p), some (pr q), some (pr r), some (.ref J2.length), none] M = some (.int q.1, M) := rfl
    have q1 : (f2 semIx (fVar 1) (fC (.int 1))) [some (pr p), some (pr q), some (pr r), some (.ref J2.length), none] M = some (.int q.2, M) := rfl
    have c0 : (f2 semIx (fVar 3) (fC (.int 0))) [some (pr p), some (pr q), some (pr r), some (.ref J2.length), none] M = some (.int (0 - p.1), M) := by
      simp only [f2_eq, fVar_eq, fC_eq, List.getElem?_cons_succ, List.getElem?_cons_zero, Option.join_some, Option.map_some, Option.bind_some, semIx_ref, seqAt_lst hat, i0]
    have c1 : (f2 semIx (fVar 3) (fC (.int 1))) [some (pr p), some (pr q), some (pr r), some (.ref J2.length), none] M = some (.int (0 - p.2), M) := by
      simp only [f2_eq, fVar_eq, fC_eq, List.getElem?_cons_succ, List.getElem?_cons_zero, Option.join_some, Option.map_some, Option.bind_some, semIx_ref, seqAt_lst hat, i1]
    have d0 : (f2 semAdd (f2 semIx (fVar 1) (fC (.int 0))) (f2 semIx (fVar 3) (fC (.int 0)))) [some (pr p), some (pr q), some (pr r), some (.ref J2.length), none] M = some (.int (q.1 + (0 - p.1)), M) := by
      rw [f2_eq, q0, Option.bind_some, c0]; rfl
    have d1 : (f2 semAdd (f2 semIx (fVar 1) (fC (.int 1))) (f2 semIx (fVar 3) (fC (.int 1)))) [some (pr p), some (pr q), some (pr r), some (.ref J2.length), none] M = some (.int (q.2 + (0 - p.2)), M) := by
      rw [f2_eq, q1, Option.bind_some, c1]; rfl
    rw [fTup_eq, fCons_eq, d0, Option.bind_some, fCons_eq, d1]
    simp only [Option.bind_some, fNil_eq, Option.map_some]
    rw [if_pos (sm2 _ _)]; rfl
  have hfar : ∃ far : Int × Int, far = (q.1 + (0 - p.1), q.2 + (0 - p.2)) := ⟨_, rfl⟩
  obtain ⟨far, hfar⟩ := hfar
  have hbs : below (0, 0) far = below p q := by rw [hfar]; exact below_sub p q
  rw [← hfar] at s4
  have A5 : ∃ M5, (fAnd (fTest (f2 semLt (fCall semMax (fCons (fCall semAbs (fCons (f2 semIx (fVar 4) (fC (.int 0))) fNil)) (fCons (fCall semAbs (fCons (f2 semIx (fVar 4) (fC (.int 1))) fNil)) fNil))) (f2 semPow (fC (.int 10)) (fC (.int 10))))) (fTest (f2 semNe (fOwn 2 m_lies_below (fCons (fTup (fCons (fC (.int 0)) (fCons (fC (.int 0)) fNil))) (fCons (fVar 4) fNil))) (fOwn 2 m_lies_below (fCons (fVar 0) (fCons (fVar 1) fNil)))))) [some (pr p), some (pr q), some (pr r), some (.ref J2.length), some (pr far)] M = some (false, M5) ∧ Gw M M5 := by
    have hb : ∃ b, (fTest (f2 semLt (fCall semMax (fCons (fCall semAbs (fCons (f2 semIx (fVar 4) (fC (.int 0))) fNil)) (fCons (fCall semAbs (fCons (f2 semIx (fVar 4) (fC (.int 1))) fNil)) fNil))) (f2 semPow (fC (.int 10)) (fC (.int 10))))) [some (pr p), some (pr q), some (pr r), some (.ref J2.length), some (pr far)] M = some (b, M) := by
      have c0 : (fCall semAbs (fCons (f2 semIx (fVar 4) (fC (.int 0))) fNil)) [some (pr p), some (pr q), some (pr r), some (.ref J2.length), some (pr far)] M = some (.int (if far.1 < 0 then -far.1 else far.1), M) := rfl
      have c1 : (fCall semAbs (fCons (f2 semIx (fVar 4) (fC (.int 1))) fNil)) [some (pr p), some (pr q), some (pr r), some (.ref J2.length), some (pr far)] M = some (.int (if far.2 < 0 then -far.2 else far.2), M) := rfl
      generalize (if far.1 < 0 then -far.1 else far.1) = u at c0
      generalize (if far.2 < 0 then -far.2 else far.2) = v at c1
      have hp10 : powOk 10 10 = true := rfl
      have cm : ∃ m : Int, (fCall semMax (fCons (fCall semAbs (fCons (f2 semIx (fVar 4) (fC (.int 0))) fNil)) (fCons (fCall semAbs (fCons (f2 semIx (fVar 4) (fC (.int 1))) fNil)) fNil))) [some (pr p), some (pr q), some (pr r), some (.ref J2.length), some (pr far)] M = some (.int m, M) := by
        refine ⟨if v > u then v else u, ?_⟩
        rw [fCall_eq, fCons_eq, c0, Option.bind_some, fCons_eq, c1]
        rfl
      obtain ⟨m, cm⟩ := cm
      refine ⟨decide (m < 10000000000), ?_⟩
      rw [fTest_eq, f2_eq, cm]
      simp only [Option.bind_some, f2_eq, fC_eq, semPow_int, hp10, if_true, semLt_int]
      rfl
    obtain ⟨b, hb⟩ := hb
    refine and_no hb fun _ => ?_
    have t0 : (fTup (fCons (fC (.int 0)) (fCons (fC (.int 0)) fNil))) [some (pr p), some (pr q), some (pr r), some (.ref J2.length), some (pr far)] M = some (pr (0, 0), M) := by
      simp only [fTup_eq, fCons_eq, fC_eq, fNil_eq, Option.bind_some, Option.map_some]
      rw [if_pos (sm2 _ _)]; rfl
    obtain ⟨x1, e1⟩ := lie2 (fa := fTup (fCons (fC (.int 0)) (fCons (fC (.int 0)) fNil))) (fb := fVar 4) (p := (0, 0)) (q := far) (δ := [some (pr p), some (pr q), some (pr r), some (.ref J2.length), some (pr far)]) (L := M) t0 rfl
    obtain ⟨x2, e2⟩ := lie2 (fa := fVar 0) (fb := fVar 1) (p := p) (q := q) (δ := [some (pr p), some (pr q), some (pr r), some (.ref J2.length), some (pr far)]) (L := M ++ x1) rfl rfl
    refine ⟨M ++ x1 ++ x2, ?_, (Gw.new _ _).trans (Gw.new _ _)⟩
    rw [fTest_eq, f2_eq, e1, Option.bind_some, e2, Option.bind_some, ne_bl, hbs]
    simp only [Option.bind_some, beq_self_eq_true, Bool.not_true]
  obtain ⟨M5, t5, g5⟩ := A5
  have r0 : (fRev (fVar 0)) [some (pr p), some (pr q), some (pr r), some (.ref J2.length), some (pr far)] M5 = some (pr (p.2, p.1), M5) := rfl
  have r1 : (fRev (fVar 1)) [some (pr p), some (pr q), some (pr r), some (.ref J2.length), some (pr far)] M5 = some (pr (q.2, q.1), M5) := rfl
  obtain ⟨x6, e6⟩ := lie2 r0 r1
  obtain ⟨x7, e7⟩ := lie2 (fa := fVar 0) (fb := fVar 1) (p := p) (q := q) (δ := [some (pr p), some (pr q), some (pr r), some (.ref J2.length), some (pr far)]) (L := M5 ++ x6) rfl rfl
  rw [below_rev] at e6
  have s6 : (f2 semEq (fOwn 2 m_lies_below (fCons (fRev (fVar 0)) (fCons (fRev (fVar 1)) fNil))) (fOwn 2 m_lies_below (fCons (fVar 0) (fCons (fVar 1) fNil)))) [some (pr p), some (pr q), some (pr r), some (.ref J2.length), some (pr far)] M5 = some (.bl true, M5 ++ x6 ++ x7) := by
    rw [f2_eq, e6, Option.bind_some, e7, Option.bind_some, eq_bl]
    simp only [beq_self_eq_true]
  refine ⟨M5 ++ x6 ++ x7, ?_, g1.trans (g2.trans (gM.trans (g5.trans ((Gw.new _ _).trans (Gw.new _ _)))))⟩
  unfold m_l_three_right fnU b_l_three_right
  simp only [List.length_cons, List.length_nil, if_true, List.map_cons, List.map_nil, List.replicate, List.cons_append, List.nil_append]
  rw [fSeq_nx (if_no t1), fSeq_nx (if_no t2), fSeq_nx s3, fSeq_nx s4, fSeq_nx (if_no t5), ret_ok s6]
  rfl

end Lw

set_option Elab.async false
set_option linter.all false
set_option maxRecDepth 100000
set_option maxHeartbeats 1000000
namespace Lw
open PySem L2 MR
theorem chain_lt {fa fb fc : FE} {δ : UE} {L : UH} {a b c : Int} (ha : fa δ L = some (.int a, L)) (hb : fb δ L = some (.int b, L)) (hc : fc δ L = some (.int c, L)) : fChain semLt semLt fa fb fc δ L = some (.bl (decide (a < b) && decide (b < c)), L) := by
  unfold fChain
  rw [ha, Option.bind_some, hb]
  cases h : decide (a < b) <;> simp [h, hc]
theorem slA_lo {l : List U} {k : Nat} (h : k ≤ l.length) (L : UH) : semSlA (.tup l) none (some (k : Int)) L = some (.tup (l.take k), L) := by
  have hs : cutU l none (some (k : Int)) = l.take k := by
    unfold cutU
    rw [HT.sIx_none, HT.sIx_nat, List.drop_zero, Nat.sub_zero, Nat.min_eq_left h]
  unfold semSlA
  simp only
  by_cases hk : k = l.length
  · rw [if_pos (by rw [HT.sIx_none, HT.sIx_nat, Nat.min_eq_left h]; exact ⟨rfl, hk⟩), List.take_of_length_le (by omega)]
  · rw [if_neg (by rw [HT.sIx_nat, Nat.min_eq_left h]; exact fun z => hk z.2), hs]
theorem slA_hi {l : List U} {k : Nat} (h : k ≤ l.length) (L : UH) : semSlA (.tup l) (some (k : Int)) none L = some (.tup (l.drop k), L) := by
  have hs : cutU l (some (k : Int)) none = l.drop k := by
    unfold cutU
    rw [HT.sIx_none, HT.sIx_nat, Nat.min_eq_left h, List.take_of_length_le (by rw [List.length_drop]; omega)]
  unfold semSlA
  simp only
  by_cases hk : k = 0
  · rw [if_pos (by rw [HT.sIx_none, HT.sIx_nat, Nat.min_eq_left h]; exact ⟨hk, rfl⟩), hk, List.drop_zero]
  · rw [if_neg (by rw [HT.sIx_nat, Nat.min_eq_left h]; exact fun z => hk z.1), hs]
theorem slA_mid {l : List U} {a b : Nat} (ha : a ≤ b) (h : b ≤ l.length) (L : UH) : semSlA (.tup l) (some (a : Int)) (some (b : Int)) L = some (.tup ((l.drop a).take (b - a)), L) := by
  have hs : cutU l (some (a : Int)) (some (b : Int)) = (l.drop a).take (b - a) := by
    unfold cutU
    rw [HT.sIx_nat, HT.sIx_nat, Nat.min_eq_left h, Nat.min_eq_left (by omega)]
  unfold semSlA
  simp only
  by_cases hk : a = 0 ∧ b = l.length
  · rw [if_pos (by rw [HT.sIx_nat, HT.sIx_nat, Nat.min_eq_left h, Nat.min_eq_left (by omega)]; exact hk), hk.1, hk.2, List.drop_zero, Nat.sub_zero, List.take_of_length_le (Nat.le_refl _)]
  · rw [if_neg (by rw [HT.sIx_nat, HT.sIx_nat, Nat.min_eq_left h, Nat.min_eq_left (by omega)]; exact hk), hs]
def lw (d s : Nat) (ps : List (Str × (Int × Int))) (x4 x5 x6 x7 x8 x9 : Option U) : UE := [some (.ref 0), some (.ref d), some (.ref s), some (tuU ps), x4, x5, x6, x7, x8, x9]
theorem lA {d s : Nat} {ps : List (Str × (Int × Int))} (P : Pts ps) (L : UH) (x5 x6 x7 x8 x9 : Option U) :
    ∃ L', (fIfS (fOr (fNot (fTru (fIsi "str" (fVar 4)))) (fOr (fTest (f2 semNe (fVar 4) (fOwn 1 m_l_text (fCons (fVar 3) fNil)))) (fTest (f2 semNe (fOwn 1 m_read_points (fCons (fVar 4) fNil)) (fVar 3))))) (fRet (fC (.bl false))) fNext) (lw d s ps (some (.str (txt ps))) x5 x6 x7 x8 x9) L = some (.nx (lw d s ps (some (.str (txt ps))) x5 x6 x7 x8 x9), L') ∧ Gw L L' := by
  obtain ⟨L1, e1, g1⟩ := text_ok P L
  obtain ⟨J2, e2, g2⟩ := read_ok P L1
  have ha := txt_asc P.nm
  refine ⟨J2, if_no ?_, g1.trans g2⟩
  have t1 : (fTru (fIsi "str" (fVar 4))) (lw d s ps (some (.str (txt ps))) x5 x6 x7 x8 x9) L = some (true, L) := rfl
  have o1 : (fOwn 1 m_l_text (fCons (fVar 3) fNil)) (lw d s ps (some (.str (txt ps))) x5 x6 x7 x8 x9) L = some (.str (txt ps), L1) := own1 rfl e1
  have o2 : (fOwn 1 m_read_points (fCons (fVar 4) fNil)) (lw d s ps (some (.str (txt ps))) x5 x6 x7 x8 x9) L1 = some (tuU ps, J2) := own1 rfl e2
  have h4 : fVar 4 (lw d s ps (some (.str (txt ps))) x5 x6 x7 x8 x9) L = some (.str (txt ps), L) := rfl
  have h3 : fVar 3 (lw d s ps (some (.str (txt ps))) x5 x6 x7 x8 x9) J2 = some (tuU ps, J2) := rfl
  have n1 := semNe_str ha ha L1
  have n2 := ne_pts P.nm P.nm J2
  rw [decide_eq_true rfl] at n1 n2
  have t2 : (fTest (f2 semNe (fVar 4) (fOwn 1 m_l_text (fCons (fVar 3) fNil)))) (lw d s ps (some (.str (txt ps))) x5 x6 x7 x8 x9) L = some (false, L1) := by
    rw [fTest_eq, f2_eq, h4, Option.bind_some, o1, Option.bind_some, n1]; rfl
  have t3 : (fTest (f2 semNe (fOwn 1 m_read_points (fCons (fVar 4) fNil)) (fVar 3))) (lw d s ps (some (.str (txt ps))) x5 x6 x7 x8 x9) L1 = some (false, J2) := by
    rw [fTest_eq, f2_eq, o2, Option.bind_some, h3, Option.bind_some, n2]; rfl
  rw [fOr_eq, not_bl t1]
  simp only [Option.bind_some, Bool.not_true, Bool.false_eq_true, if_false]
  rw [fOr_eq, t2]
  simp only [Option.bind_some, Bool.false_eq_true, if_false]
  exact t3
theorem lB {d s : Nat} {ps qs : List (Str × (Int × Int))} (P : Pts ps) (Q : Pts qs) (L : UH) (x6 x7 x8 x9 : Option U) :
    ∃ L', (fIfS (fOr (fTest (f2 semNe (fOwn 1 m_read_points (fCons (fOwn 1 m_points_shown (fCons (fVar 5) fNil)) fNil)) (fVar 5))) (fTest (f2 semNe (f2 semEq (fOwn 1 m_points_shown (fCons (fVar 5) fNil)) (fVar 4)) (f2 semEq (fVar 5) (fVar 3))))) (fRet (fC (.bl false))) fNext) (lw d s ps (some (.str (txt ps))) (some (tuU qs)) x6 x7 x8 x9) L = some (.nx (lw d s ps (some (.str (txt ps))) (some (tuU qs)) x6 x7 x8 x9), L') ∧ Gw L L' := by
  obtain ⟨L1, e1, g1⟩ := shown_ok Q.ptl L
  obtain ⟨J2, e2, g2⟩ := read_ok Q L1
  obtain ⟨L3, e3, g3⟩ := shown_ok Q.ptl J2
  refine ⟨L3, if_no ?_, g1.trans (g2.trans g3)⟩
  have o1 : (fOwn 1 m_read_points (fCons (fOwn 1 m_points_shown (fCons (fVar 5) fNil)) fNil)) (lw d s ps (some (.str (txt ps))) (some (tuU qs)) x6 x7 x8 x9) L = some (tuU qs, J2) := own1e (own1 rfl e1) e2
  have o3 : (fOwn 1 m_points_shown (fCons (fVar 5) fNil)) (lw d s ps (some (.str (txt ps))) (some (tuU qs)) x6 x7 x8 x9) J2 = some (.str (txt qs), L3) := own1 rfl e3
  have h5 : ∀ N, fVar 5 (lw d s ps (some (.str (txt ps))) (some (tuU qs)) x6 x7 x8 x9) N = some (tuU qs, N) := fun _ => rfl
  have h4 : ∀ N, fVar 4 (lw d s ps (some (.str (txt ps))) (some (tuU qs)) x6 x7 x8 x9) N = some (.str (txt ps), N) := fun _ => rfl
  have h3 : ∀ N, fVar 3 (lw d s ps (some (.str (txt ps))) (some (tuU qs)) x6 x7 x8 x9) N = some (tuU ps, N) := fun _ => rfl
  have n2 := ne_pts Q.nm Q.nm J2
  rw [decide_eq_true rfl] at n2
  have t1 : (fTest (f2 semNe (fOwn 1 m_read_points (fCons (fOwn 1 m_points_shown (fCons (fVar 5) fNil)) fNil)) (fVar 5))) (lw d s ps (some (.str (txt ps))) (some (tuU qs)) x6 x7 x8 x9) L = some (false, J2) := by
    rw [fTest_eq, f2_eq, o1, Option.bind_some, h5, Option.bind_some, n2]; rfl
  have q1 := semEq_str (txt_asc Q.nm) (txt_asc P.nm) L3
  have q2 := eq_pts Q.nm P.nm L3
  have hiff : decide (txt qs = txt ps) = decide (qs = ps) := by
    rw [Bool.eq_iff_iff, decide_eq_true_eq, decide_eq_true_eq]
    exact ⟨fun h => txt_inj Q.ptl P.ptl h, fun h => by rw [h]⟩
  rw [hiff] at q1
  have t2 : (fTest (f2 semNe (f2 semEq (fOwn 1 m_points_shown (fCons (fVar 5) fNil)) (fVar 4)) (f2 semEq (fVar 5) (fVar 3)))) (lw d s ps (some (.str (txt ps))) (some (tuU qs)) x6 x7 x8 x9) J2 = some (false, L3) := by
    rw [fTest_eq, f2_eq, f2_eq, o3, Option.bind_some, h4, Option.bind_some, q1, Option.bind_some, f2_eq, h5, Option.bind_some, h3, Option.bind_some, q2, Option.bind_some, ne_bl]
    simp only [Option.bind_some, beq_self_eq_true, Bool.not_true]
  rw [fOr_eq, t1]
  simp only [Option.bind_some, Bool.false_eq_true, if_false]
  exact t2
theorem lC {d s c : Nat} {ps : List (Str × (Int × Int))} (P : Pts ps) (hc : c ≤ ps.length) (L : UH) (x5 x7 x8 x9 : Option U) :
    ∃ (r : Nat) (L' : UH), (fAsg (fLst (fCons (fOwn 1 m_points_shown (fCons (fSl semSlA (fVar 3) fNoPart (fPart (fVar 6))) fNil)) (fCons (fOwn 1 m_points_shown (fCons (fSl semSlA (fVar 3) (fPart (fVar 6)) fNoPart) fNil)) fNil))) (gN 7)) (lw d s ps (some (.str (txt ps))) x5 (some (.int (c : Int))) x7 x8 x9) L = some (.nx (lw d s ps (some (.str (txt ps))) x5 (some (.int (c : Int))) (some (.ref r)) x8 x9), L') ∧ Gw L L' ∧ L'[r]? = some (.lst [.str (txt (ps.take c)), .str (txt (ps.drop c))]) := by
  have sm2 : ∀ x y : U, small [x, y].length = true := fun _ _ => small_of (by show 2 ≤ 16777216; decide)
  obtain ⟨L1, e1, g1⟩ := shown_ok (P.ptl.take c) L
  obtain ⟨J2, e2, g2⟩ := shown_ok (P.ptl.drop c) L1
  have c1 : (fSl semSlA (fVar 3) fNoPart (fPart (fVar 6))) (lw d s ps (some (.str (txt ps))) x5 (some (.int (c : Int))) x7 x8 x9) L = some (tuU (ps.take c), L) := by
    have h3 : fVar 3 (lw d s ps (some (.str (txt ps))) x5 (some (.int (c : Int))) x7 x8 x9) L = some (.tup (ps.map ptU), L) := rfl
    have h6 : fVar 6 (lw d s ps (some (.str (txt ps))) x5 (some (.int (c : Int))) x7 x8 x9) L = some (.int (c : Int), L) := rfl
    rw [fSl_eq, h3]
    simp only [Option.bind_some, fNoPart_eq, fPart_eq, h6, slA_lo (l := ps.map ptU) (by simpa using hc)]
    unfold tuU; rw [List.map_take]
  have c2 : (fSl semSlA (fVar 3) (fPart (fVar 6)) fNoPart) (lw d s ps (some (.str (txt ps))) x5 (some (.int (c : Int))) x7 x8 x9) L1 = some (tuU (ps.drop c), L1) := by
    have h3 : fVar 3 (lw d s ps (some (.str (txt ps))) x5 (some (.int (c : Int))) x7 x8 x9) L1 = some (.tup (ps.map ptU), L1) := rfl
    have h6 : fVar 6 (lw d s ps (some (.str (txt ps))) x5 (some (.int (c : Int))) x7 x8 x9) L1 = some (.int (c : Int), L1) := rfl
    rw [fSl_eq, h3]
    simp only [Option.bind_some, fNoPart_eq, fPart_eq, h6, slA_hi (l := ps.map ptU) (by simpa using hc)]
    unfold tuU; rw [List.map_drop]
  have o1 : (fOwn 1 m_points_shown (fCons (fSl semSlA (fVar 3) fNoPart (fPart (fVar 6))) fNil)) (lw d s ps (some (.str (txt ps))) x5 (some (.int (c : Int))) x7 x8 x9) L = some (.str (txt (ps.take c)), L1) := own1e c1 e1
  have o2 : (fOwn 1 m_points_shown (fCons (fSl semSlA (fVar 3) (fPart (fVar 6)) fNoPart) fNil)) (lw d s ps (some (.str (txt ps))) x5 (some (.int (c : Int))) x7 x8 x9) L1 = some (.str (txt (ps.drop c)), J2) := own1e c2 e2
  refine ⟨J2.length, J2 ++ [.lst [.str (txt (ps.take c)), .str (txt (ps.drop c))]], setN ?_, g1.trans (g2.trans (Gw.new _ _)), by simp⟩
  rw [fLst_eq, fCons_eq, o1, Option.bind_some, fCons_eq, o2]
  simp only [Option.bind_some, fNil_eq, Option.map_some]
  rw [if_pos (sm2 _ _)]
theorem txt_len' {ps : List (Str × (Int × Int))} (P : Ptl ps) : (txt ps).length ≤ 3000 := by
  have h := StrLaws.join_length_le ⟨#[10]⟩ (ps.map line)
  have hsum : (((ps.map line).map (·.length)).sum) ≤ 40 * ps.length := by
    rw [List.map_map]
    exact sum_le _ 40 ps fun p hp => line_len (P.nm p hp) (P.pb p hp)
  have h1 : Str.length (⟨#[10]⟩ : Str) = 1 := rfl
  have hlen := P.len
  rw [h1, List.length_map] at h
  unfold txt
  omega
theorem txt_cut {ps : List (Str × (Int × Int))} {c : Nat} (h0 : 0 < c) (h1 : c < ps.length) : Txt.join "\n" [txt (ps.take c), txt (ps.drop c)] = txt ps := by
  show Builtin.Str.glued "\n" [txt (ps.take c), txt (ps.drop c)] = _
  rw [StrLaws.glued_eq_join, nl_eq]
  apply str_ext
  rw [join_cons]
  have h := join_app 10 ((ps.take c).map line) ((ps.drop c).map line) (by simp; exact ⟨by omega, fun q => by rw [q] at h1; simp at h1⟩) (by simp; omega)
  rw [← List.map_append, List.take_append_drop] at h
  exact h.symm
theorem lD {d s c r : Nat} {ps : List (Str × (Int × Int))} (P : Pts ps) (L : UH) (hr : L[r]? = some (.lst [.str (txt (ps.take c)), .str (txt (ps.drop c))])) (x5 x8 x9 : Option U) :
    (fIfS (fAnd (fTest (fChain semLt semLt (fC (.int 0)) (fVar 6) (fCall semLen (fCons (fVar 3) fNil)))) (fTest (f2 semNe (fMeth "str" semJoin (fC (.str "\n")) (fCons (fVar 7) fNil)) (fVar 4)))) (fRet (fC (.bl false))) fNext) (lw d s ps (some (.str (txt ps))) x5 (some (.int (c : Int))) (some (.ref r)) x8 x9) L = some (.nx (lw d s ps (some (.str (txt ps))) x5 (some (.int (c : Int))) (some (.ref r)) x8 x9), L) := by
  have hlen : (fCall semLen (fCons (fVar 3) fNil)) (lw d s ps (some (.str (txt ps))) x5 (some (.int (c : Int))) (some (.ref r)) x8 x9) L = some (.int (ps.length : Int), L) := by
    have h3 : fVar 3 (lw d s ps (some (.str (txt ps))) x5 (some (.int (c : Int))) (some (.ref r)) x8 x9) L = some (.tup (ps.map ptU), L) := rfl
    rw [fCall_eq, fCons_eq, h3]
    simp [semLen, lenU]
  have tt : (fTest (fChain semLt semLt (fC (.int 0)) (fVar 6) (fCall semLen (fCons (fVar 3) fNil)))) (lw d s ps (some (.str (txt ps))) x5 (some (.int (c : Int))) (some (.ref r)) x8 x9) L = some (decide ((0 : Int) < c) && decide ((c : Int) < ps.length), L) := by
    have h6 : fVar 6 (lw d s ps (some (.str (txt ps))) x5 (some (.int (c : Int))) (some (.ref r)) x8 x9) L = some (.int (c : Int), L) := rfl
    rw [fTest_eq, chain_lt (a := 0) (b := c) (c := ps.length) rfl h6 hlen]
    rfl
  refine if_no ?_
  rw [fAnd_eq, tt]
  by_cases h : (decide ((0 : Int) < c) && decide ((c : Int) < ps.length)) = true
  · rw [h]
    simp only [Option.bind_some, if_true]
    simp only [Bool.and_eq_true, decide_eq_true_eq] at h
    have hnl : Str.length "\n" = 1 := by rw [len_cps, nl_cps]; rfl
    have l1 := txt_len' (P.ptl.take c)
    have l2 := txt_len' (P.ptl.drop c)
    have hj : semJoin (.str "\n") [.ref r] L = some (.str (txt ps), L) := by
      unfold semJoin
      have e : mapO toS [U.str (txt (ps.take c)), .str (txt (ps.drop c))] = some [txt (ps.take c), txt (ps.drop c)] := rfl
      simp only [lstAt_lst hr, Option.bind_some, e]
      rw [if_pos ⟨by omega, by simp; omega⟩, txt_cut (by omega) (by omega)]
    have h7 : fVar 7 (lw d s ps (some (.str (txt ps))) x5 (some (.int (c : Int))) (some (.ref r)) x8 x9) L = some (.ref r, L) := rfl
    have h4 : fVar 4 (lw d s ps (some (.str (txt ps))) x5 (some (.int (c : Int))) (some (.ref r)) x8 x9) L = some (.str (txt ps), L) := rfl
    have ty : tyU "str" (.str "\n") L = true := rfl
    have hm : (fMeth "str" semJoin (fC (.str "\n")) (fCons (fVar 7) fNil)) (lw d s ps (some (.str (txt ps))) x5 (some (.int (c : Int))) (some (.ref r)) x8 x9) L = some (.str (txt ps), L) := by
      rw [fMeth_eq, fC_eq, Option.bind_some]
      simp only [ty, if_true]
      rw [fCons_eq, h7]
      simp only [Option.bind_some, fNil_eq, Option.map_some, hj]
    have ha := txt_asc P.nm
    have n1 := semNe_str ha ha L
    rw [decide_eq_true rfl] at n1
    rw [fTest_eq, f2_eq, hm, Option.bind_some, h4, Option.bind_some, n1]; rfl
  · have h' : (decide ((0 : Int) < c) && decide ((c : Int) < ps.length)) = false := by simpa using h
    rw [h']; rfl

end Lw

set_option Elab.async false
set_option linter.all false
set_option maxRecDepth 100000
set_option maxHeartbeats 1000000
namespace Lw
open PySem L2 MR
theorem rng2_ok {g : FA} {δ : UE} {L L' : UH} {i j : Int} (hg : g δ L = some ([.int i, .int j], L')) (h0 : 0 ≤ i) (h1 : i < 1000000) (h2 : 0 ≤ j) (h3 : j < 1000000) : fRng2 g δ L = some (.seq (rangeU i (j - i).toNat), L') := by
  rw [fRng2_eq, hg]
  simp only [Option.bind_some]
  rw [if_pos ⟨⟨by omega, by omega⟩, by omega, by omega⟩]
theorem lE3 {d s k : Nat} {ps : List (Str × (Int × Int))} (hk : 2 ≤ k) (hk2 : k < ps.length) (hl : ps.length ≤ 60) (L : UH) (x4 x5 x6 x7 x9 : Option U) :
    ∃ (y9 : Option U) (L' : UH), b_law_2 (lw d s ps x4 x5 x6 x7 (some (.int (k : Int))) x9) L = some (.nx (lw d s ps x4 x5 x6 x7 (some (.int (k : Int))) y9), L') ∧ Gw L L' := by
  have hp0 : ps[k - 2]? = some ps[k - 2] := List.getElem?_eq_getElem (by omega)
  have hp1 : ps[k - 1]? = some ps[k - 1] := List.getElem?_eq_getElem (by omega)
  have hp2 : ps[k]? = some ps[k] := List.getElem?_eq_getElem hk2
  have hcut : (ps.drop (k - 2)).take 3 = [ps[k - 2], ps[k - 1], ps[k]] := by
    apply List.ext_getElem?
    intro i
    by_cases hi : i < 3
    · rw [List.getElem?_take_of_lt hi, List.getElem?_drop]
      have : i = 0 ∨ i = 1 ∨ i = 2 := by omega
      rcases this with rfl | rfl | rfl
      · exact hp0
      · have : k - 2 + 1 = k - 1 := by omega
        rw [this]; exact hp1
      · have : k - 2 + 2 = k := by omega
        rw [this]; exact hp2
    · rw [List.getElem?_eq_none (by rw [List.length_take]; omega), List.getElem?_eq_none (by simp; omega)]
  generalize ps[k - 2] = a at hcut
  generalize ps[k - 1] = b at hcut
  generalize ps[k] = c at hcut
  have h3 : fVar 3 (lw d s ps x4 x5 x6 x7 (some (.int (k : Int))) x9) L = some (.tup (ps.map ptU), L) := rfl
  have e1 : (f2 semSub (fVar 8) (fC (.int 2))) (lw d s ps x4 x5 x6 x7 (some (.int (k : Int))) x9) L = some (.int ((k - 2 : Nat) : Int), L) := by
    have : (k : Int) - 2 = ((k - 2 : Nat) : Int) := by omega
    rw [← this]; rfl
  have e2 : (f2 semAddA (fVar 8) (fC (.int 1))) (lw d s ps x4 x5 x6 x7 (some (.int (k : Int))) x9) L = some (.int ((k + 1 : Nat) : Int), L) := by
    have : (k : Int) + 1 = ((k + 1 : Nat) : Int) := by omega
    rw [← this]; rfl
  have hsl : (fSl semSlA (fVar 3) (fPart (f2 semSub (fVar 8) (fC (.int 2)))) (fPart (f2 semAddA (fVar 8) (fC (.int 1))))) (lw d s ps x4 x5 x6 x7 (some (.int (k : Int))) x9) L = some (.tup ([a, b, c].map ptU), L) := by
    rw [fSl_eq, h3]
    simp only [Option.bind_some, fPart_eq, e1, e2, slA_mid (l := ps.map ptU) (show k - 2 ≤ k + 1 by omega) (by simp; omega)]
    have : k + 1 - (k - 2) = 3 := by omega
    rw [this, ← List.map_drop, ← List.map_take, hcut]
  have hi : (fSeqI (fSl semSlA (fVar 3) (fPart (f2 semSub (fVar 8) (fC (.int 2)))) (fPart (f2 semAddA (fVar 8) (fC (.int 1)))))) (lw d s ps x4 x5 x6 x7 (some (.int (k : Int))) x9) L = some (.seq ([a, b, c].map ptU), L) := by
    rw [fSeqI_eq, hsl]; rfl
  have step1 : ∀ (q : Str × (Int × Int)) (N : UH), b_law_3e [some (ptU q)] N = some (pr q.2, N) := fun q N => by
    have := slA_hi (l := [U.str q.1, .int q.2.1, .int q.2.2]) (k := 1) (by simp) N
    unfold b_law_3e
    have hv : fVar 0 [some (ptU q)] N = some (.tup [U.str q.1, .int q.2.1, .int q.2.2], N) := rfl
    rw [fSl_eq, hv]
    simp only [Option.bind_some, fPart_eq, fC_eq, fNoPart_eq]
    exact this
  obtain ⟨x, e⟩ := comp_grow (ix := [none]) (it := .seq ([a, b, c].map ptU)) (g := gN 0) (tt := none) (fe := b_law_3e) (δ := lw d s ps x4 x5 x6 x7 (some (.int (k : Int))) x9) (L := L) (L0 := L)
    [a, b, c] ptU (fun _ => true) (fun q => pr q.2) (fun δ => ∃ y, δ = [y]) hi (by simp [IU.size]) (by simp) ⟨none, rfl⟩
    (fun k x => rfl)
    (fun q δ x _ ⟨y, hδ⟩ => by
      subst hδ
      exact ⟨[some (ptU q)], rfl, ⟨_, rfl⟩, [], by simp [testU], fun _ => ⟨[], by rw [List.append_nil, List.append_nil]; exact step1 q _⟩⟩)
  have hff : List.filter (fun _ => true) [a, b, c] = [a, b, c] := rfl
  rw [hff] at e
  have hat : (L ++ x ++ [HU.lst ([a, b, c].map fun q => pr q.2)])[(L ++ x).length]? = some (.lst [pr a.2, pr b.2, pr c.2]) := by simp
  have gM : Gw L (L ++ x ++ [HU.lst ([a, b, c].map fun q => pr q.2)]) := by rw [List.append_assoc]; exact Gw.new _ _
  have s1 : (fAsg (fComp [none] (fSeqI (fSl semSlA (fVar 3) (fPart (f2 semSub (fVar 8) (fC (.int 2)))) (fPart (f2 semAddA (fVar 8) (fC (.int 1)))))) (gN 0) none b_law_3e) (gN 9)) (lw d s ps x4 x5 x6 x7 (some (.int (k : Int))) x9) L = some (.nx (lw d s ps x4 x5 x6 x7 (some (.int (k : Int))) (some (.ref (L ++ x).length))), L ++ x ++ [HU.lst ([a, b, c].map fun q => pr q.2)]) := setN e
  generalize (L ++ x).length = r at s1 hat
  generalize L ++ x ++ [HU.lst ([a, b, c].map fun q => pr q.2)] = M at s1 hat gM
  have ix : ∀ (N : UH), Gw M N → ∀ (j : Nat) (q : Int × Int), [pr a.2, pr b.2, pr c.2][j]? = some (pr q) → (f2 semIx (fVar 9) (fC (.int (j : Int)))) (lw d s ps x4 x5 x6 x7 (some (.int (k : Int))) (some (.ref r))) N = some (pr q, N) := by
    intro N gN j q hj
    have hs := seqAt_lst (gN.get hat)
    have hix : L2.atI [pr a.2, pr b.2, pr c.2] (j : Int) = some (pr q) := by
      rw [atI_of (by omega) (by have := (List.getElem?_eq_some_iff.mp hj).1; omega), Int.toNat_natCast]; exact hj
    have hv : fVar 9 (lw d s ps x4 x5 x6 x7 (some (.int (k : Int))) (some (.ref r))) N = some (.ref r, N) := rfl
    rw [f2_eq, hv]
    simp only [Option.bind_some, fC_eq, semIx_ref, hs, hix, Option.map_some]
  have own3 : ∀ {fa fb fc : FE} {u v w z : U} {N N' : UH} {δ : UE}, fa δ N = some (u, N) → fb δ N = some (v, N) → fc δ N = some (w, N) → m_l_three_right [u, v, w] N = some (z, N') → (fOwn 3 m_l_three_right (fCons fa (fCons fb (fCons fc fNil)))) δ N = some (z, N') := by
    intro fa fb fc u v w z N N' δ h1 h2 h3 h4
    rw [fOwn_eq, fCons_eq, h1, Option.bind_some, fCons_eq, h2, Option.bind_some, fCons_eq, h3]
    simp only [Option.bind_some, fNil_eq, Option.map_some, List.length_cons, List.length_nil, if_true, h4]
  obtain ⟨M1, t1, g1⟩ := three_ok a.2 b.2 c.2 M
  obtain ⟨M2, t2, g2⟩ := three_ok c.2 a.2 b.2 M1
  have o1 : (fOwn 3 m_l_three_right (fCons (f2 semIx (fVar 9) (fC (.int 0))) (fCons (f2 semIx (fVar 9) (fC (.int 1))) (fCons (f2 semIx (fVar 9) (fC (.int 2))) fNil)))) (lw d s ps x4 x5 x6 x7 (some (.int (k : Int))) (some (.ref r))) M = some (.bl true, M1) :=
    own3 (ix M (.refl _) 0 a.2 rfl) (ix M (.refl _) 1 b.2 rfl) (ix M (.refl _) 2 c.2 rfl) t1
  have o2 : (fOwn 3 m_l_three_right (fCons (f2 semIx (fVar 9) (fC (.int 2))) (fCons (f2 semIx (fVar 9) (fC (.int 0))) (fCons (f2 semIx (fVar 9) (fC (.int 1))) fNil)))) (lw d s ps x4 x5 x6 x7 (some (.int (k : Int))) (some (.ref r))) M1 = some (.bl true, M2) :=
    own3 (ix M1 g1 2 c.2 rfl) (ix M1 g1 0 a.2 rfl) (ix M1 g1 1 b.2 rfl) t2
  refine ⟨some (.ref r), M2, ?_, gM.trans (g1.trans g2)⟩
  unfold b_law_2
  rw [fSeq_nx s1, fSeq_nx (if_no (not_bl (tru_bl o1))), if_no (not_bl (tru_bl o2))]
theorem asked4 {L : UH} {d s : Nat} {B : Int} {ps : List (Str × (Int × Int))} (P : Pts ps) (D : Deck L d B) (hB : B ≤ 100000000) (x4 x5 x6 x7 x8 x9 : Option U) :
    ∃ (y4 y5 y6 y7 y8 y9 : Option U) (L' : UH), b_law_1 (lw d s ps x4 x5 x6 x7 x8 x9) L = some (.nx (lw d s ps y4 y5 y6 y7 y8 y9), L') ∧ Deck L' d (B + 10) ∧ Ex d L L' := by
  have hlen := P.len
  obtain ⟨L1, e1, g1⟩ := shown_ok P.ptl L
  have s1 : (fAsg (fOwn 1 m_points_shown (fCons (fVar 3) fNil)) (gN 4)) (lw d s ps x4 x5 x6 x7 x8 x9) L = some (.nx (lw d s ps (some (.str (txt ps))) x5 x6 x7 x8 x9), L1) := setN (own1 rfl e1)
  obtain ⟨J2, s2, g2⟩ := lA (d := d) (s := s) P L1 x5 x6 x7 x8 x9
  have D2 := (g1.trans g2).deck D
  obtain ⟨qs, L3, e3, Q, D3, y3⟩ := changed_ok P D2 (by omega)
  have s3 : (fAsg (fOwn 2 m_l_changed (fCons (fVar 1) (fCons (fVar 3) fNil))) (gN 5)) (lw d s ps (some (.str (txt ps))) x5 x6 x7 x8 x9) J2 = some (.nx (lw d s ps (some (.str (txt ps))) (some (tuU qs)) x6 x7 x8 x9), L3) := setN (own2 (u := .ref d) (w := tuU ps) (L1 := J2) (L2 := J2) rfl rfl e3)
  obtain ⟨L4, s4, g4⟩ := lB (d := d) (s := s) P Q L3 x6 x7 x8 x9
  have D4 := g4.deck D3
  obtain ⟨i, L5, e5, a5, b5, D5, y5⟩ := next_ok (many := (ps.length : Int) + 1) D4 (by omega) (by omega) (by omega)
  obtain ⟨c, rfl⟩ : ∃ c : Nat, i = (c : Int) := ⟨i.toNat, by omega⟩
  have s5 : (fAsg (fOwn 2 m_l_next (fCons (fVar 1) (fCons (f2 semAddA (fCall semLen (fCons (fVar 3) fNil)) (fC (.int 1))) fNil))) (gN 6)) (lw d s ps (some (.str (txt ps))) (some (tuU qs)) x6 x7 x8 x9) L4 = some (.nx (lw d s ps (some (.str (txt ps))) (some (tuU qs)) (some (.int (c : Int))) x7 x8 x9), L5) := by
    refine setN (own2 (u := .ref d) (w := .int ((ps.length : Int) + 1)) (L1 := L4) (L2 := L4) rfl ?_ e5)
    have h3 : fVar 3 (lw d s ps (some (.str (txt ps))) (some (tuU qs)) x6 x7 x8 x9) L4 = some (.tup (ps.map ptU), L4) := rfl
    have hl : (fCall semLen (fCons (fVar 3) fNil)) (lw d s ps (some (.str (txt ps))) (some (tuU qs)) x6 x7 x8 x9) L4 = some (.int (ps.length : Int), L4) := by
      rw [fCall_eq, fCons_eq, h3]
      simp [semLen, lenU]
    rw [f2_eq, hl]; rfl
  obtain ⟨r, L6, s6, g6, hr⟩ := lC (d := d) (s := s) (c := c) P (by omega) L5 (some (tuU qs)) x7 x8 x9
  have s7 := lD (d := d) (s := s) (c := c) (r := r) P L6 hr (some (tuU qs)) x8 x9
  have D6 := g6.deck D5
  have hmin : ∃ m : Nat, m ≤ ps.length ∧ m ≤ 30 ∧ (fCons (fC (.int 2)) (fCons (fCall semMin (fCons (fCall semLen (fCons (fVar 3) fNil)) (fCons (fC (.int 30)) fNil))) fNil)) (lw d s ps (some (.str (txt ps))) (some (tuU qs)) (some (.int (c : Int))) (some (.ref r)) x8 x9) L6 = some ([.int 2, .int (m : Int)], L6) := by
    have h3 : fVar 3 (lw d s ps (some (.str (txt ps))) (some (tuU qs)) (some (.int (c : Int))) (some (.ref r)) x8 x9) L6 = some (.tup (ps.map ptU), L6) := rfl
    have hl : (fCall semLen (fCons (fVar 3) fNil)) (lw d s ps (some (.str (txt ps))) (some (tuU qs)) (some (.int (c : Int))) (some (.ref r)) x8 x9) L6 = some (.int (ps.length : Int), L6) := by
      rw [fCall_eq, fCons_eq, h3]
      simp [semLen, lenU]
    have hm : semMin [.int (ps.length : Int), .int 30] L6 = some (.int ((min ps.length 30 : Nat) : Int), L6) := by
      have : (if (30 : Int) < (ps.length : Int) then (30 : Int) else (ps.length : Int)) = ((min ps.length 30 : Nat) : Int) := by split <;> omega
      rw [← this]; rfl
    refine ⟨min ps.length 30, by omega, by omega, ?_⟩
    rw [fCons_eq, fC_eq, Option.bind_some, fCons_eq, fCall_eq, fCons_eq, hl]
    simp only [Option.bind_some, fCons_eq, fC_eq, fNil_eq, Option.map_some, hm]
  obtain ⟨m, hm1, hm2, hg⟩ := hmin
  have hi : fRng2 (fCons (fC (.int 2)) (fCons (fCall semMin (fCons (fCall semLen (fCons (fVar 3) fNil)) (fCons (fC (.int 30)) fNil))) fNil)) (lw d s ps (some (.str (txt ps))) (some (tuU qs)) (some (.int (c : Int))) (some (.ref r)) x8 x9) L6 = some (.seq (rangeU 2 ((m : Int) - 2).toNat), L6) := rng2_ok hg (by omega) (by omega) (by omega) (by omega)
  obtain ⟨δ', L', e, y8, y9, hδ, g⟩ := for_seq (us := rangeU 2 ((m : Int) - 2).toNat) (body := b_law_2) (g := gN 8)
    (fun k δ' L' => ∃ y8 y9, δ' = lw d s ps (some (.str (txt ps))) (some (tuU qs)) (some (.int (c : Int))) (some (.ref r)) y8 y9 ∧ Gw L6 L')
    hi ⟨_, _, rfl, .refl _⟩
    (fun k u δ M hu ⟨y8, y9, hδ, g⟩ => by
      subst hδ
      have hk := (List.getElem?_eq_some_iff.mp hu).1
      rw [rangeU_len] at hk
      have hu' : u = .int ((2 + k : Nat) : Int) := by
        unfold rangeU at hu
        rw [List.getElem?_map, List.getElem?_range hk] at hu
        have : (2 : Int) + (k : Int) = ((2 + k : Nat) : Int) := by omega
        rw [← this]
        simpa using hu.symm
      subst hu'
      obtain ⟨z9, M', e, g'⟩ := lE3 (d := d) (s := s) (k := 2 + k) (ps := ps) (by omega) (by omega) hlen M (some (.str (txt ps))) (some (tuU qs)) (some (.int (c : Int))) (some (.ref r)) y9
      exact ⟨lw d s ps (some (.str (txt ps))) (some (tuU qs)) (some (.int (c : Int))) (some (.ref r)) (some (.int ((2 + k : Nat) : Int))) y9, M, rfl, _, M', .inl e, _, _, rfl, g.trans g'⟩)
  rw [hδ] at e
  refine ⟨some (.str (txt ps)), some (tuU qs), some (.int (c : Int)), some (.ref r), y8, y9, L', ?_, g.deck (D6.mono (by omega)), ((((g1.trans g2).ex d).trans y3).trans (g4.ex d)).trans ((y5.trans (g6.ex d)).trans (g.ex d))⟩
  unfold b_law_1
  rw [fSeq_nx s1, fSeq_nx s2, fSeq_nx s3, fSeq_nx s4, fSeq_nx s5, fSeq_nx s6, fSeq_nx s7, e]
theorem add_lst {L : UH} {a b : Nat} {xs ys : List U} (h1 : L[a]? = some (.lst xs)) (h2 : L[b]? = some (.lst ys)) (hs : xs.length + ys.length ≤ 1000) : semAddA (.ref a) (.ref b) L = some (.ref L.length, L ++ [.lst (xs ++ ys)]) := by
  show semAdd (.ref a) (.ref b) L = _
  unfold semAdd
  simp only [lstAt_lst h1, lstAt_lst h2, Option.bind_some]
  rw [if_pos (small_of (by omega))]
theorem some_comp {L : UH} {d : Nat} (D : Deck L d 0) (x0 x2 x3 x4 x5 x6 x7 x8 x9 : Option U) :
    ∃ (M : UH) (qs : List (List (Str × (Int × Int)))), (fComp [none, some 1] (fRng1 (fCons (fC (.int 3)) fNil)) (gN 0) none b_law_4e) [x0, some (.ref d), x2, x3, x4, x5, x6, x7, x8, x9] L = some (.ref M.length, M ++ [.lst (qs.map tuU)]) ∧ qs.length = 3 ∧ (∀ ps ∈ qs, Pts ps) ∧ Deck M d 3000 := by
  have hi : fRng1 (fCons (fC (.int 3)) fNil) [x0, some (.ref d), x2, x3, x4, x5, x6, x7, x8, x9] L = some (.seq (rangeU 0 3), L) := rng1_nat (n := 3) rfl (by omega)
  obtain ⟨ys, δ', M, e, ⟨z, hδ⟩, qs, hqs, hlq, hP, DM⟩ := fcomp (ix := [none, some 1]) (it := .seq (rangeU 0 3)) (g := gN 0) (tt := none) (fe := b_law_4e) (us := rangeU 0 3) (δ := [x0, some (.ref d), x2, x3, x4, x5, x6, x7, x8, x9]) (L := L) (L0 := L)
      (fun k acc δ' M => (∃ z, δ' = [z, some (.ref d)]) ∧ ∃ (qs : List (List (Str × (Int × Int)))), acc = qs.map tuU ∧ qs.length = k ∧ (∀ ps ∈ qs, Pts ps) ∧ Deck M d (1000 * k))
      hi (by simp [IU.size]) ⟨⟨none, rfl⟩, [], rfl, rfl, by simp, by simpa using D⟩
      (fun k acc δ L _ _ => rfl)
      (fun k u acc δ M hu ⟨⟨z, hδ⟩, qs, hqs, hlq, hP, DM⟩ => by
        subst hδ
        obtain ⟨hk, rfl⟩ := rangeU_get hu
        obtain ⟨ps, M', e, P, D', x'⟩ := points_ok (most := 60) DM (by omega) ⟨by decide, by decide⟩
        have ha : acc.length < 16777216 := by rw [hqs, List.length_map, hlq]; omega
        refine ⟨[some (.int (0 + k)), some (.ref d)], M, rfl, true, M, rfl, fun _ => ⟨tuU ps, M', ?_, ha, ⟨_, rfl⟩, qs ++ [ps], by simp [hqs], by simp [hlq], fun q hq => ?_, ?_⟩, fun h => by cases h⟩
        · unfold b_law_4e
          exact own2 (u := .ref d) (w := .int 60) (L1 := M) (L2 := M) rfl rfl e
        · rcases List.mem_append.mp hq with h | h
          · exact hP q h
          · have : q = ps := by simpa using h
            rw [this]; exact P
        · have : (1000 : Int) * ((k + 1 : Nat) : Int) = 1000 * (k : Int) + 1000 := by omega
          rw [this]; exact D')
  rw [rangeU_len] at hlq DM
  exact ⟨M, qs, by rw [e, hqs], hlq, hP, DM⟩
theorem law_true (ns : List Int) (hl : ns.length ≤ 63) : ∃ L', m_law [.ref 0] [.ro (ns.map U.int)] = some (.bl true, L') := by
  obtain ⟨d, L1, e1, D1, hd1, _⟩ := Deck.start ns [.ro (ns.map U.int)] 0 rfl hl
  have s1 : (fAsg (fOwn 1 m_l_deck (fCons (fVar 0) fNil)) (gN 1)) [some (.ref 0), none, none, none, none, none, none, none, none, none] [.ro (ns.map U.int)] = some (.nx [some (.ref 0), some (.ref d), none, none, none, none, none, none, none, none], L1) := setN (own1 rfl e1)
  obtain ⟨M, qs, e2, hq3, hP, DM⟩ := some_comp D1 (some (.ref 0)) none none none none none none none none
  have s2 : (fAsg (fComp [none, some 1] (fRng1 (fCons (fC (.int 3)) fNil)) (gN 0) none b_law_4e) (gN 2)) [some (.ref 0), some (.ref d), none, none, none, none, none, none, none, none] L1 = some (.nx [some (.ref 0), some (.ref d), some (.ref M.length), none, none, none, none, none, none, none], M ++ [.lst (qs.map tuU)]) := setN e2
  have hat : (M ++ [HU.lst (qs.map tuU)])[M.length]? = some (.lst (qs.map tuU)) := by simp
  have DN : Deck (M ++ [HU.lst (qs.map tuU)]) d 3000 := DM.new _
  generalize M ++ [HU.lst (qs.map tuU)] = N at s2 hat DN
  have hrev : fRev (fVar 2) [some (.ref 0), some (.ref d), some (.ref M.length), none, none, none, none, none, none, none] N = some (.ref N.length, N ++ [.lst (qs.reverse.map tuU)]) := by
    simp only [fRev_eq, fVar_eq, List.getElem?_cons_succ, List.getElem?_cons_zero, Option.join_some, Option.map_some, Option.bind_some, seqAt_lst hat, List.map_reverse]
  have hat1 : (N ++ [HU.lst (qs.reverse.map tuU)])[M.length]? = some (.lst (qs.map tuU)) := (Gw.new N _).get hat
  have hat2 : (N ++ [HU.lst (qs.reverse.map tuU)])[N.length]? = some (.lst (qs.reverse.map tuU)) := by simp
  have hadd := add_lst hat1 hat2 (by simp; omega)
  rw [← List.map_append] at hadd
  have DK : Deck (N ++ [HU.lst (qs.reverse.map tuU)]) d 3000 := DN.new _
  generalize hK : N ++ [HU.lst (qs.reverse.map tuU)] = K at hadd hrev DK
  have hfe : (f2 semAddA (fVar 2) (fRev (fVar 2))) [some (.ref 0), some (.ref d), some (.ref M.length), none, none, none, none, none, none, none] N = some (.ref K.length, K ++ [.lst ((qs ++ qs.reverse).map tuU)]) := by
    rw [f2_eq]
    have h2 : fVar 2 [some (.ref 0), some (.ref d), some (.ref M.length), none, none, none, none, none, none, none] N = some (.ref M.length, N) := rfl
    rw [h2, Option.bind_some, hrev, Option.bind_some, hadd]
  have hat3 : (K ++ [HU.lst ((qs ++ qs.reverse).map tuU)])[K.length]? = some (.lst ((qs ++ qs.reverse).map tuU)) := by simp
  have hi : (fSeqI (f2 semAddA (fVar 2) (fRev (fVar 2)))) [some (.ref 0), some (.ref d), some (.ref M.length), none, none, none, none, none, none, none] N = some (.ref K.length, K ++ [.lst ((qs ++ qs.reverse).map tuU)]) := by
    have hs := iSeqU_ref (seqAt_lst hat3)
    rw [fSeqI_eq, hfe]
    simp only [Option.bind_some, hs, Option.map_some]
  have hdK : d < K.length := DK.lt
  obtain ⟨δ3, L3, e3, Q⟩ := for_ref (us := (qs ++ qs.reverse).map tuU) (body := b_law_1) (g := gN 3)
    (fun k δ' L' => (∃ y3 y4 y5 y6 y7 y8 y9, δ' = [some (.ref 0), some (.ref d), some (.ref M.length), y3, y4, y5, y6, y7, y8, y9]) ∧ Deck L' d (3000 + 10 * k) ∧ L'[K.length]? = some (.lst ((qs ++ qs.reverse).map tuU)))
    hi ⟨⟨none, none, none, none, none, none, none, rfl⟩, by simpa using DK.new _, hat3⟩ (fun k δ L' ⟨_, _, h⟩ => seqAt_lst h)
    (fun k u δ M' hu ⟨⟨y3, y4, y5, y6, y7, y8, y9, hδ⟩, D, h⟩ => by
      subst hδ
      have hk := (List.getElem?_eq_some_iff.mp hu).1
      rw [List.length_map, List.length_append, List.length_reverse, hq3] at hk
      rw [List.getElem?_map] at hu
      obtain ⟨ps, hps, rfl⟩ := Option.map_eq_some_iff.mp hu
      have hm : ps ∈ qs := by
        rcases List.mem_append.mp (List.mem_of_getElem? hps) with q | q
        · exact q
        · exact List.mem_reverse.mp q
      obtain ⟨z4, z5, z6, z7, z8, z9, M2, ea, Da, xa⟩ := asked4 (s := M.length) (hP ps hm) D (by omega) y4 y5 y6 y7 y8 y9
      refine ⟨lw d M.length ps y4 y5 y6 y7 y8 y9, M', rfl, _, M2, .inl ea, ⟨_, _, _, _, _, _, _, rfl⟩, ?_, xa.get h (by omega)⟩
      have : (3000 : Int) + 10 * ((k + 1 : Nat) : Int) = 3000 + 10 * (k : Int) + 10 := by omega
      rw [this]; exact Da)
  obtain ⟨⟨y3, y4, y5, y6, y7, y8, y9, hδ⟩, _, _⟩ := Q
  rw [hδ] at e3
  have P0 : Ptl [] := ⟨by simp, by simp, by simp⟩
  obtain ⟨L4, e4, _⟩ := shown_ok P0 L3
  have t0 : txt [] = "" := str_ext (by rw [empty_cps]; rfl)
  rw [t0] at e4
  have sm0 : small ([] : List U).length = true := small_of (by show 0 ≤ 16777216; decide)
  have t : (fTup fNil) [some (.ref 0), some (.ref d), some (.ref M.length), y3, y4, y5, y6, y7, y8, y9] L3 = some (.tup (([] : List (Str × (Int × Int))).map ptU), L3) := by rw [fTup_eq, fNil_eq, Option.bind_some, if_pos sm0]; rfl
  have c1 : (f2 semEq (fOwn 1 m_points_shown (fCons (fTup fNil) fNil)) (fC (.str ""))) [some (.ref 0), some (.ref d), some (.ref M.length), y3, y4, y5, y6, y7, y8, y9] L3 = some (.bl true, L4) := by
    rw [f2_eq, own1e t e4, Option.bind_some, fC_eq, Option.bind_some, semEq_str asc_empty asc_empty, decide_eq_true rfl]
  refine ⟨L4, fn1 (n := 9) ?_⟩
  unfold b_law
  show fSeq _ _ [some (.ref 0), none, none, none, none, none, none, none, none, none] _ = _
  rw [fSeq_nx s1, fSeq_nx s2, fSeq_nx e3]
  exact ret_ok c1

end Lw

namespace Lw
open PySem L2 MR
set_option maxHeartbeats 4000000
def top (i : Nat) : Stmt := PySem.Challenge.pw_belowpoints_k04_whole_texts_and_places.main.body.getD i (.Pass ⟨0, 0, 0, 0⟩)
abbrev s_l_mix : Stmt := top 15
theorem sc_l_mix : FnScope ["cell", "k", "number"] ["cell", "k"] (defScope s_l_mix) := ⟨rfl, rfl, rfl, by decide +kernel, rfl, by decide +kernel, by decide +kernel⟩
abbrev s_l_next : Stmt := top 17
theorem sc_l_next : FnScope ["deck", "many", "cell", "found"] ["deck", "many"] (defScope s_l_next) := ⟨rfl, rfl, rfl, by decide +kernel, rfl, by decide +kernel, by decide +kernel⟩
abbrev s_l_changed : Stmt := top 24
theorem sc_l_changed : FnScope ["deck", "points", "at", "there", "name", "x", "y", "way", "found"] ["deck", "points"] (defScope s_l_changed) := ⟨rfl, rfl, rfl, by decide +kernel, rfl, by decide +kernel, by decide +kernel⟩
abbrev s_l_deck : Stmt := top 16
theorem sc_l_deck : FnScope ["script"] ["script"] (defScope s_l_deck) := ⟨rfl, rfl, rfl, by decide +kernel, rfl, by decide +kernel, by decide +kernel⟩
abbrev s_l_names : Stmt := top 18
theorem sc_l_names : FnScope ["deck", "many", "letters", "pad", "begin", "way", "found", "k", "number", "name", "left", "told"] ["deck", "many"] (defScope s_l_names) := ⟨rfl, rfl, rfl, by decide +kernel, rfl, by decide +kernel, by decide +kernel⟩
abbrev s_l_number : Stmt := top 19
theorem sc_l_number : FnScope ["deck", "kind", "great"] ["deck", "kind"] (defScope s_l_number) := ⟨rfl, rfl, rfl, by decide +kernel, rfl, by decide +kernel, by decide +kernel⟩
abbrev s_l_places : Stmt := top 20
theorem sc_l_places : FnScope ["deck", "most", "many", "kind", "way", "some", "found", "k", "place"] ["deck", "most"] (defScope s_l_places) := ⟨rfl, rfl, rfl, by decide +kernel, rfl, by decide +kernel, by decide +kernel⟩
abbrev s_l_points : Stmt := top 21
theorem sc_l_points : FnScope ["deck", "most", "places", "names"] ["deck", "most"] (defScope s_l_points) := ⟨rfl, rfl, rfl, by decide +kernel, rfl, by decide +kernel, by decide +kernel⟩
abbrev s_l_figures : Stmt := top 22
theorem sc_l_figures : FnScope ["number", "sign", "text", "k"] ["number"] (defScope s_l_figures) := ⟨rfl, rfl, rfl, by decide +kernel, rfl, by decide +kernel, by decide +kernel⟩
abbrev s_l_text : Stmt := top 23
theorem sc_l_text : FnScope ["points"] ["points"] (defScope s_l_text) := ⟨rfl, rfl, rfl, by decide +kernel, rfl, by decide +kernel, by decide +kernel⟩
abbrev s_lies_below : Stmt := top 9
theorem sc_lies_below : FnScope ["one", "other"] ["one", "other"] (defScope s_lies_below) := ⟨rfl, rfl, rfl, by decide +kernel, rfl, by decide +kernel, by decide +kernel⟩
abbrev s_l_three_right : Stmt := top 25
theorem sc_l_three_right : FnScope ["one", "other", "third", "by", "far"] ["one", "other", "third"] (defScope s_l_three_right) := ⟨rfl, rfl, rfl, by decide +kernel, rfl, by decide +kernel, by decide +kernel⟩
abbrev s_points_shown : Stmt := top 8
theorem sc_points_shown : FnScope ["points"] ["points"] (defScope s_points_shown) := ⟨rfl, rfl, rfl, by decide +kernel, rfl, by decide +kernel, by decide +kernel⟩
abbrev s_holds_only : Stmt := top 13
theorem sc_holds_only : FnScope ["word", "signs"] ["word", "signs"] (defScope s_holds_only) := ⟨rfl, rfl, rfl, by decide +kernel, rfl, by decide +kernel, by decide +kernel⟩
abbrev s_is_name : Stmt := top 11
theorem sc_is_name : FnScope ["word"] ["word"] (defScope s_is_name) := ⟨rfl, rfl, rfl, by decide +kernel, rfl, by decide +kernel, by decide +kernel⟩
abbrev s_is_number : Stmt := top 12
theorem sc_is_number : FnScope ["word", "figures"] ["word"] (defScope s_is_number) := ⟨rfl, rfl, rfl, by decide +kernel, rfl, by decide +kernel, by decide +kernel⟩
abbrev s_point_in : Stmt := top 10
theorem sc_point_in : FnScope ["line", "words"] ["line"] (defScope s_point_in) := ⟨rfl, rfl, rfl, by decide +kernel, rfl, by decide +kernel, by decide +kernel⟩
abbrev s_read_points : Stmt := top 7
theorem sc_read_points : FnScope ["text", "points", "known", "row", "line", "point"] ["text"] (defScope s_read_points) := ⟨rfl, rfl, rfl, by decide +kernel, rfl, by decide +kernel, by decide +kernel⟩
abbrev s_law : Stmt := top 26
theorem sc_law : FnScope ["script", "deck", "some", "points", "text", "other", "cut", "parts", "k", "places"] ["script"] (defScope s_law) := ⟨rfl, rfl, rfl, by decide +kernel, rfl, by decide +kernel, by decide +kernel⟩
set_option genInjectivity false
set_option genSizeOf false
set_option genSizeOfSpec false
structure Defs (K : PySem.W.Frag) (mg : Str → Option Value) where
  f_l_mix : Addr
  d_l_mix : FuncData
  F_l_mix : Fun K "_law_mix" "_law_mix" s_l_mix f_l_mix d_l_mix
  b_l_mix : Binds K d_l_mix ["cell", "k"] []
  g_l_mix : mg "_law_mix" = some (.ref f_l_mix)
  f_l_next : Addr
  d_l_next : FuncData
  F_l_next : Fun K "_law_next" "_law_next" s_l_next f_l_next d_l_next
  b_l_next : Binds K d_l_next ["deck", "many"] []
  g_l_next : mg "_law_next" = some (.ref f_l_next)
  f_l_changed : Addr
  d_l_changed : FuncData
  F_l_changed : Fun K "_law_changed" "_law_changed" s_l_changed f_l_changed d_l_changed
  b_l_changed : Binds K d_l_changed ["deck", "points"] []
  g_l_changed : mg "_law_changed" = some (.ref f_l_changed)
  f_l_deck : Addr
  d_l_deck : FuncData
  F_l_deck : Fun K "_law_deck" "_law_deck" s_l_deck f_l_deck d_l_deck
  b_l_deck : Binds K d_l_deck ["script"] []
  g_l_deck : mg "_law_deck" = some (.ref f_l_deck)
  f_l_names : Addr
  d_l_names : FuncData
  F_l_names : Fun K "_law_names" "_law_names" s_l_names f_l_names d_l_names
  b_l_names : Binds K d_l_names ["deck", "many"] []
  g_l_names : mg "_law_names" = some (.ref f_l_names)
  f_l_number : Addr
  d_l_number : FuncData
  F_l_number : Fun K "_law_number" "_law_number" s_l_number f_l_number d_l_number
  b_l_number : Binds K d_l_number ["deck", "kind"] []
  g_l_number : mg "_law_number" = some (.ref f_l_number)
  f_l_places : Addr
  d_l_places : FuncData
  F_l_places : Fun K "_law_places" "_law_places" s_l_places f_l_places d_l_places
  b_l_places : Binds K d_l_places ["deck", "most"] []
  g_l_places : mg "_law_places" = some (.ref f_l_places)
  f_l_points : Addr
  d_l_points : FuncData
  F_l_points : Fun K "_law_points" "_law_points" s_l_points f_l_points d_l_points
  b_l_points : Binds K d_l_points ["deck", "most"] []
  g_l_points : mg "_law_points" = some (.ref f_l_points)
  f_l_figures : Addr
  d_l_figures : FuncData
  F_l_figures : Fun K "_law_figures" "_law_figures" s_l_figures f_l_figures d_l_figures
  b_l_figures : Binds K d_l_figures ["number"] []
  g_l_figures : mg "_law_figures" = some (.ref f_l_figures)
  f_l_text : Addr
  d_l_text : FuncData
  F_l_text : Fun K "_law_text" "_law_text" s_l_text f_l_text d_l_text
  b_l_text : Binds K d_l_text ["points"] []
  g_l_text : mg "_law_text" = some (.ref f_l_text)
  f_lies_below : Addr
  d_lies_below : FuncData
  F_lies_below : Fun K "lies_below" "lies_below" s_lies_below f_lies_below d_lies_below
  b_lies_below : Binds K d_lies_below ["one", "other"] []
  g_lies_below : mg "lies_below" = some (.ref f_lies_below)
  f_l_three_right : Addr
  d_l_three_right : FuncData
  F_l_three_right : Fun K "_law_three_right" "_law_three_right" s_l_three_right f_l_three_right d_l_three_right
  b_l_three_right : Binds K d_l_three_right ["one", "other", "third"] []
  g_l_three_right : mg "_law_three_right" = some (.ref f_l_three_right)
  f_points_shown : Addr
  d_points_shown : FuncData
  F_points_shown : Fun K "points_shown" "points_shown" s_points_shown f_points_shown d_points_shown
  b_points_shown : Binds K d_points_shown ["points"] []
  g_points_shown : mg "points_shown" = some (.ref f_points_shown)
  f_holds_only : Addr
  d_holds_only : FuncData
  F_holds_only : Fun K "holds_only" "holds_only" s_holds_only f_holds_only d_holds_only
  b_holds_only : Binds K d_holds_only ["word", "signs"] []
  g_holds_only : mg "holds_only" = some (.ref f_holds_only)
  f_is_name : Addr
  d_is_name : FuncData
  F_is_name : Fun K "is_name" "is_name" s_is_name f_is_name d_is_name
  b_is_name : Binds K d_is_name ["word"] []
  g_is_name : mg "is_name" = some (.ref f_is_name)
  f_is_number : Addr
  d_is_number : FuncData
  F_is_number : Fun K "is_number" "is_number" s_is_number f_is_number d_is_number
  b_is_number : Binds K d_is_number ["word"] []
  g_is_number : mg "is_number" = some (.ref f_is_number)
  f_point_in : Addr
  d_point_in : FuncData
  F_point_in : Fun K "point_in" "point_in" s_point_in f_point_in d_point_in
  b_point_in : Binds K d_point_in ["line"] []
  g_point_in : mg "point_in" = some (.ref f_point_in)
  f_read_points : Addr
  d_read_points : FuncData
  F_read_points : Fun K "read_points" "read_points" s_read_points f_read_points d_read_points
  b_read_points : Binds K d_read_points ["text"] []
  g_read_points : mg "read_points" = some (.ref f_read_points)
  f_law : Addr
  d_law : FuncData
  F_law : Fun K "law" "law" s_law f_law d_law
  b_law : Binds K d_law ["script"] []
  g_law : mg "law" = some (.ref f_law)
  v_FIGURES : ∃ t, mg "FIGURES" = some (.str "0123456789" t)
  v_LETTERS : ∃ t, mg "LETTERS" = some (.str "abcdefghijklmnopqrstuvwxyz" t)
  v_LONGEST_NAME : ∃ t, mg "LONGEST_NAME" = some (.int 8 t)
  n_abs : mg "abs" = none
  n_all : mg "all" = none
  n_enumerate : mg "enumerate" = none
  n_int : mg "int" = none
  n_isinstance : mg "isinstance" = none
  n_len : mg "len" = none
  n_list : mg "list" = none
  n_max : mg "max" = none
  n_min : mg "min" = none
  n_range : mg "range" = none
  n_str : mg "str" = none
  n_sum : mg "sum" = none
  n_tuple : mg "tuple" = none
  n_zip : mg "zip" = none
section
variable {P : Program} {w : World} {K : PySem.W.Frag} {mg : Str → Option Value} {base : Heap}
theorem ok_l_mix (C : Defs K mg) : FnOk P w K mg base CX0 1 C.f_l_mix C.d_l_mix ["cell", "k"] (spF K 2 m_l_mix) := by
  refine Fun.okF (N := ["cell", "k", "number"]) C.F_l_mix sc_l_mix (fun cdv A outer s H E hr => ?_)
  have hu := hr.units
  refine psf_cons ?s0 ?t0
  case s0 => exact (psf_set (i := 2) (by exact sc_l_mix.nd) (pf_op op_addA sem_add (pf_op op_mod sem_mod (pf_v 0) pf_int) (pf_op op_mulA sem_mul (pf_op op_mulA sem_mul pf_int (pf_v 1)) (pf_v 1))))
  refine psf_cons ?s1 ?t1
  case s1 => exact (psf_set (i := 2) (by exact sc_l_mix.nd) (pf_op op_mod sem_mod (pf_op op_addA sem_add (pf_v 2) (pf_op op_mulA sem_mul pf_int (pf_v 1))) pf_int))
  refine psf_cons ?s2 ?t2
  case s2 => exact (psf_set (i := 2) (by exact sc_l_mix.nd) (pf_op op_mod sem_mod (pf_op op_mulA sem_mul (pf_v 2) (pf_v 2)) pf_int))
  exact (psf_one (psf_ret (pf_op op_fdivW sem_div (pf_op op_mod sem_mod (pf_op op_mulA sem_mul (pf_v 2) (pf_op op_addA sem_add (pf_v 2) pf_int)) pf_int) pf_int)))
theorem ok_l_next (C : Defs K mg) : FnOk P w K mg base CX0 2 C.f_l_next C.d_l_next ["deck", "many"] (spF K 2 m_l_next) := by
  refine Fun.okF (N := ["deck", "many", "cell", "found"]) C.F_l_next sc_l_next (fun cdv A outer s H E hr => ?_)
  have hu := hr.units
  refine psf_cons ?s0 ?t0
  case s0 => exact (psf_if (PWF.pt (pwf_and (ptf_cmp (op_eqU hu) sem_eq (pf_ix ix_seq sem_ix (pf_v 0) pf_int (fun _ _ => rfl)) pf_int (nomark _)) (pwf_and1 (ptf_cmp op_lt sem_lt (pf_ix ix_seq sem_ix (pf_v 0) pf_int (fun _ _ => rfl)) (pf_callB call_len sem_len (by rfl) C.n_len PySem.boot_len (paf_cons (pf_ix ix_seq sem_ix (pf_v 0) pf_int (fun _ _ => rfl)) paf_nil)) (nomark _))))) (psf_cons (psf_set (i := 2) (by exact sc_l_next.nd) (pf_ix ix_seq sem_ix (pf_ix ix_seq sem_ix (pf_v 0) pf_int (fun _ _ => rfl)) (pf_ix ix_seq sem_ix (pf_v 0) pf_int (fun _ _ => rfl)) (fun _ _ => rfl))) (psf_cons (psf_asg (pf_op op_addA sem_add (pf_ix ix_seq sem_ix (pf_v 0) pf_int (fun _ _ => rfl)) pf_int) (pgf_sub (pf_v 0) pf_int)) (psf_cons (psf_if (ptf_cmp op_lt sem_lt (pf_v 2) (pf_op op_pow sem_pow pf_int pf_int) (nomark _)) (psf_one (psf_ret (pf_op op_mod sem_mod (pf_call (ok_l_mix C) (hr.mono (by decide)) (by rfl) C.g_l_mix C.F_l_mix.kp C.b_l_mix (paf_cons (pf_v 2) (paf_cons (pf_ix ix_seq sem_ix (pf_v 0) pf_int (fun _ _ => rfl)) paf_nil))) (pf_v 1)))) psf_nil) (psf_one (psf_asg (pf_v 2) (pgf_sub (pf_v 0) pf_int)))))) psf_nil)
  refine psf_cons ?s1 ?t1
  case s1 => exact (psf_if (ptf_cmp op_gt sem_gt (pf_ix ix_seq sem_ix (pf_v 0) pf_int (fun _ _ => rfl)) pf_int (nomark _)) (psf_cons (psf_set (i := 3) (by exact sc_l_next.nd) (pf_op op_mod sem_mod (pf_ix ix_seq sem_ix (pf_v 0) pf_int (fun _ _ => rfl)) (pf_v 1))) (psf_cons (psf_asg (pf_op op_fdivW sem_div (pf_ix ix_seq sem_ix (pf_v 0) pf_int (fun _ _ => rfl)) (pf_v 1)) (pgf_sub (pf_v 0) pf_int)) (psf_one (psf_ret (pf_v 3))))) psf_nil)
  refine psf_cons ?s2 ?t2
  case s2 => exact (psf_asg (pf_op op_addA sem_add (pf_ix ix_seq sem_ix (pf_v 0) pf_int (fun _ _ => rfl)) pf_int) (pgf_sub (pf_v 0) pf_int))
  exact (psf_one (psf_ret (pf_op op_mod sem_mod (pf_call (ok_l_mix C) (hr.mono (by decide)) (by rfl) C.g_l_mix C.F_l_mix.kp C.b_l_mix (paf_cons (pf_ix ix_seq sem_ix (pf_v 0) pf_int (fun _ _ => rfl)) (paf_cons (pf_op op_addA sem_add (pf_ix ix_seq sem_ix (pf_v 0) pf_int (fun _ _ => rfl)) pf_int) paf_nil))) (pf_v 1))))
theorem ok_l_changed (C : Defs K mg) : FnOk P w K mg base CX0 3 C.f_l_changed C.d_l_changed ["deck", "points"] (spF K 2 m_l_changed) := by
  refine Fun.okF (N := ["deck", "points", "at", "there", "name", "x", "y", "way", "found"]) C.F_l_changed sc_l_changed (fun cdv A outer s H E hr => ?_)
  have hu := hr.units
  refine psf_cons ?s0 ?t0
  case s0 => exact (psf_if (ptf_cmp (op_eqU hu) sem_eq (pf_v 1) (pf_tup paf_nil) (nomark _)) (psf_one (psf_ret (pf_tup (paf_cons (pf_tup (paf_cons pf_str (paf_cons pf_int (paf_cons pf_int paf_nil)))) paf_nil)))) psf_nil)
  refine psf_cons ?s1 ?t1
  case s1 => exact (psf_set (i := 2) (by exact sc_l_changed.nd) (pf_call (ok_l_next C) (hr.mono (by decide)) (by rfl) C.g_l_next C.F_l_next.kp C.b_l_next (paf_cons (pf_v 0) (paf_cons (pf_callB call_len sem_len (by rfl) C.n_len PySem.boot_len (paf_cons (pf_v 1) paf_nil)) paf_nil))))
  refine psf_cons ?s2 ?t2
  case s2 => exact (psf_set (i := 3) (by exact sc_l_changed.nd) (pf_call (ok_l_next C) (hr.mono (by decide)) (by rfl) C.g_l_next C.F_l_next.kp C.b_l_next (paf_cons (pf_v 0) (paf_cons (pf_callB call_len sem_len (by rfl) C.n_len PySem.boot_len (paf_cons (pf_v 1) paf_nil)) paf_nil))))
  refine psf_cons ?s3 ?t3
  case s3 => exact (psf_asg (pf_ix ix_seq sem_ix (pf_v 1) (pf_v 2) (fun _ _ => rfl)) (pgf_tup rfl (pgsf_cons (pgf_name (i := 4) (by exact sc_l_changed.nd)) (pgsf_cons (pgf_name (i := 5) (by exact sc_l_changed.nd)) (pgsf_cons (pgf_name (i := 6) (by exact sc_l_changed.nd)) pgsf_nil)))))
  refine psf_cons ?s4 ?t4
  case s4 => exact (psf_set (i := 7) (by exact sc_l_changed.nd) (pf_call (ok_l_next C) (hr.mono (by decide)) (by rfl) C.g_l_next C.F_l_next.kp C.b_l_next (paf_cons (pf_v 0) (paf_cons pf_int paf_nil))))
  refine psf_cons ?s5 ?t5
  case s5 => exact (psf_set (i := 8) (by exact sc_l_changed.nd) (pf_callTy call_list_of sem_list (by rfl) C.n_list (by decide +kernel) (paf_cons (pf_v 1) paf_nil)))
  refine psf_cons ?s6 ?t6
  case s6 => exact (psf_asg (pf_ix ix_seq sem_ix (pf_lst (paf_cons (pf_tup (paf_cons (pf_v 4) (paf_cons (pf_op op_sub sem_sub pf_int (pf_v 5)) (paf_cons (pf_v 6) paf_nil)))) (paf_cons (pf_tup (paf_cons (pf_v 4) (paf_cons (pf_v 6) (paf_cons (pf_v 5) paf_nil)))) (paf_cons (pf_tup (paf_cons (pf_op op_addE sem_addA (pf_slice sl_allZ sem_slZ (pf_v 4) pof_none (pof_some pf_int)) pf_str) (paf_cons (pf_v 5) (paf_cons (pf_v 6) paf_nil)))) paf_nil)))) (pf_op op_mod sem_mod (pf_v 7) pf_int) (fun _ _ => rfl)) (pgf_sub (pf_v 8) (pf_v 2)))
  refine psf_cons ?s7 ?t7
  case s7 => exact (psf_if (ptf_cmp op_inA (sem_in false) (pf_ix ix_seq sem_ix (pf_ix ix_seq sem_ix (pf_v 8) (pf_v 2) (fun _ _ => rfl)) pf_int (fun _ _ => rfl)) (pf_comp (N' := ["one"]) (ix := [none]) ⟨rfl, rfl, rfl, rfl, rfl, rfl⟩ rfl (pif_seq (pf_op op_addE sem_addA (pf_slice sl_allZ sem_slZ (pf_v 1) pof_none (pof_some (pf_v 2))) (pf_slice sl_allZ sem_slZ (pf_v 1) (pof_some (pf_op op_addE sem_addA (pf_v 2) pf_int)) pof_none))) (fun _ _ _ _ _ _ => (pgf_name (i := 0) (show List.Nodup (α := Str) ["one"] by decide +kernel))) (fun _ _ _ _ _ _ => (pf_ix ix_seq sem_ix (pf_v 0) pf_int (fun _ _ => rfl)))) (by with_unfolding_all rfl)) (psf_one (psf_asg (pf_tup (paf_cons (pf_v 4) (paf_cons (pf_v 5) (paf_cons (pf_ix ix_seq sem_ix (pf_lst (paf_cons pf_int (paf_cons pf_int paf_nil))) (pf_callTy call_int1 sem_int (by rfl) C.n_int (by decide +kernel) (paf_cons (pf_cmp (op_eqU hu) sem_eq (pf_v 6) pf_int (nomark _)) paf_nil)) (fun _ _ => rfl)) paf_nil)))) (pgf_sub (pf_v 8) (pf_v 2)))) psf_nil)
  refine psf_cons ?s8 ?t8
  case s8 => exact (psf_if (ptf_cmp (op_eqU hu) sem_eq (pf_v 7) pf_int (nomark _)) (psf_cons (psf_set (i := 8) (by exact sc_l_changed.nd) (pf_callTy call_list_of sem_list (by rfl) C.n_list (by decide +kernel) (paf_cons (pf_v 1) paf_nil))) (psf_one (psf_asg (pf_tup (paf_cons (pf_ix ix_seq sem_ix (pf_v 8) (pf_v 3) (fun _ _ => rfl)) (paf_cons (pf_ix ix_seq sem_ix (pf_v 8) (pf_v 2) (fun _ _ => rfl)) paf_nil))) (pgf_tup rfl (pgsf_cons (pgf_sub (pf_v 8) (pf_v 2)) (pgsf_cons (pgf_sub (pf_v 8) (pf_v 3)) pgsf_nil)))))) psf_nil)
  refine psf_cons ?s9 ?t9
  case s9 => exact (psf_if (ptf_cmp (op_eqU hu) sem_eq (pf_v 7) pf_int (nomark _)) (psf_cons (psf_set (i := 8) (by exact sc_l_changed.nd) (pf_callTy call_list_of sem_list (by rfl) C.n_list (by decide +kernel) (paf_cons (pf_v 1) paf_nil))) (psf_one (psf_expr (pf_bm PySem.F.plainAttrs_list PySem.F.slot_list_pop PySem.F.type_list_pop mt_popAt sem_pop (pf_v 8) (paf_cons (pf_v 2) paf_nil))))) psf_nil)
  exact (psf_one (psf_ret (pf_callTy call_tuple_of sem_tuple (by rfl) C.n_tuple (by decide +kernel) (paf_cons (pf_v 8) paf_nil))))
theorem ok_l_deck (C : Defs K mg) : FnOk P w K mg base CX0 1 C.f_l_deck C.d_l_deck ["script"] (spF K 1 m_l_deck) := by
  refine Fun.okF (N := ["script"]) C.F_l_deck sc_l_deck (fun cdv A outer s H E hr => ?_)
  have hu := hr.units
  exact (psf_one (psf_ret (pf_lst (by refine paf_cons (pf_slice sl_all sem_sl (pf_v 0) pof_none (pof_some pf_int)) ?_; refine paf_cons pf_int ?_; refine paf_cons pf_int ?_; refine paf_cons pf_int ?_; refine paf_cons (pf_callB (call_sumA rfl) sem_sum (by rfl) C.n_sum PyProof.Rows.boot_sum (paf_cons (pf_slice sl_all sem_sl (pf_v 0) pof_none (pof_some pf_int)) paf_nil)) ?_; exact paf_nil))))
theorem ok_l_names (C : Defs K mg) : FnOk P w K mg base CX0 3 C.f_l_names C.d_l_names ["deck", "many"] (spF K 2 m_l_names) := by
  refine Fun.okF (N := ["deck", "many", "letters", "pad", "begin", "way", "found", "k", "number", "name", "left", "told"]) C.F_l_names sc_l_names (fun cdv A outer s H E hr => ?_)
  have hu := hr.units
  refine psf_cons ?s0 ?t0
  case s0 => exact (psf_set (i := 2) (by exact sc_l_names.nd) pf_str)
  refine psf_cons ?s1 ?t1
  case s1 => exact (psf_set (i := 3) (by exact sc_l_names.nd) (pf_ix ix_seq sem_ix (pf_v 2) (pf_call (ok_l_next C) (hr.mono (by decide)) (by rfl) C.g_l_next C.F_l_next.kp C.b_l_next (paf_cons (pf_v 0) (paf_cons pf_int paf_nil))) (fun _ _ => rfl)))
  refine psf_cons ?s2 ?t2
  case s2 => exact (psf_set (i := 4) (by exact sc_l_names.nd) (pf_call (ok_l_next C) (hr.mono (by decide)) (by rfl) C.g_l_next C.F_l_next.kp C.b_l_next (paf_cons (pf_v 0) (paf_cons pf_int paf_nil))))
  refine psf_cons ?s3 ?t3
  case s3 => exact (psf_set (i := 5) (by exact sc_l_names.nd) (pf_call (ok_l_next C) (hr.mono (by decide)) (by rfl) C.g_l_next C.F_l_next.kp C.b_l_next (paf_cons (pf_v 0) (paf_cons pf_int paf_nil))))
  refine psf_cons ?s4 ?t4
  case s4 => exact (psf_set (i := 6) (by exact sc_l_names.nd) (pf_lst paf_nil))
  refine psf_cons ?s5 ?t5
  case s5 => exact (psf_for PassesOwn.never rfl (pif_range1 (by rfl) C.n_range (paf_cons (pf_v 1) paf_nil)) (pgf_name (i := 7) (by exact sc_l_names.nd)) (psf_cons (psf_set (i := 8) (by exact sc_l_names.nd) (pf_op op_addA sem_add (pf_v 4) (pf_op op_mulA sem_mul pf_int (pf_v 7)))) (psf_cons (psf_set (i := 9) (by exact sc_l_names.nd) (pf_op op_addA sem_add (pf_ix ix_seq sem_ix (pf_v 2) (pf_op op_mod sem_mod (pf_v 8) pf_int) (fun _ _ => rfl)) (pf_ix ix_seq sem_ix (pf_v 2) (pf_op op_mod sem_mod (pf_op op_fdivW sem_div (pf_v 8) pf_int) pf_int) (fun _ _ => rfl)))) (psf_cons (psf_set (i := 9) (by exact sc_l_names.nd) (pf_op op_addA sem_add (pf_v 9) (pf_ix ix_seq sem_ix (pf_v 2) (pf_op op_fdivW sem_div (pf_v 8) pf_int) (fun _ _ => rfl)))) (psf_cons (psf_if (ptf_cmp (op_eqU hu) sem_eq (pf_v 5) pf_int (nomark _)) (psf_one (psf_set (i := 9) (by exact sc_l_names.nd) (pf_op op_addA sem_add (pf_op op_mulA sem_mul (pf_v 3) (pf_op op_mod sem_mod (pf_v 7) pf_int)) (pf_v 9)))) psf_nil) (psf_cons (psf_if (ptf_cmp (op_eqU hu) sem_eq (pf_v 5) pf_int (nomark _)) (psf_one (psf_set (i := 9) (by exact sc_l_names.nd) (pf_op op_addA sem_add (pf_v 9) (pf_op op_mulA sem_mul (pf_v 3) (pf_op op_mod sem_mod (pf_v 7) pf_int))))) psf_nil) (psf_cons (psf_if (ptf_cmp (op_eqU hu) sem_eq (pf_v 5) pf_int (nomark _)) (psf_one (psf_set (i := 9) (by exact sc_l_names.nd) (pf_ix ix_seq sem_ix (pf_lst (paf_cons (pf_ix ix_seq sem_ix (pf_v 2) (pf_op op_mod sem_mod (pf_v 7) pf_int) (fun _ _ => rfl)) (paf_cons (pf_op op_addA sem_add (pf_ix ix_seq sem_ix (pf_v 2) (pf_op op_mod sem_mod (pf_v 7) pf_int) (fun _ _ => rfl)) pf_str) (paf_cons (pf_op op_addA sem_add (pf_ix ix_seq sem_ix (pf_v 2) (pf_op op_mod sem_mod (pf_v 7) pf_int) (fun _ _ => rfl)) pf_str) paf_nil)))) (pf_op op_fdivW sem_div (pf_v 7) pf_int) (fun _ _ => rfl)))) psf_nil) (psf_one (psf_expr (pf_bm PySem.F.plainAttrs_list PySem.F.slot_list_append PySem.F.type_list_append mt_append sem_append (pf_v 6) (paf_cons (pf_v 9) paf_nil)))))))))))
  refine psf_cons ?s6 ?t6
  case s6 => exact (psf_set (i := 10) (by exact sc_l_names.nd) (pf_callTy call_list_of sem_list (by rfl) C.n_list (by decide +kernel) (paf_cons (pf_v 6) paf_nil)))
  refine psf_cons ?s7 ?t7
  case s7 => exact (psf_set (i := 11) (by exact sc_l_names.nd) (pf_comp (N' := ["k", "left", "deck"]) (ix := [none, some 10, some 0]) ⟨rfl, rfl, rfl, rfl, rfl, rfl⟩ rfl (pif_range1 (by rfl) C.n_range (paf_cons (pf_v 1) paf_nil)) (fun _ _ _ _ _ _ => (pgf_name (i := 0) (show List.Nodup (α := Str) ["k", "left", "deck"] by decide +kernel))) (fun _ _ _ _ _ _ => (pf_bm PySem.F.plainAttrs_list PySem.F.slot_list_pop PySem.F.type_list_pop mt_popAt sem_pop (pf_v 1) (paf_cons (pf_call (ok_l_next C) (hr.mono (by decide)) (by rfl) C.g_l_next C.F_l_next.kp C.b_l_next (paf_cons (pf_v 2) (paf_cons (pf_callB call_len sem_len (by rfl) C.n_len PySem.boot_len (paf_cons (pf_v 1) paf_nil)) paf_nil))) paf_nil)))))
  exact (psf_one (psf_ret (pf_compT (N' := ["k", "one", "told"]) (ix := [none, none, some 11]) ⟨rfl, rfl, rfl, rfl, rfl, rfl⟩ rfl (pif_enum (by rfl) C.n_enumerate (paf_cons (pf_v 11) paf_nil)) (fun _ _ _ _ _ _ => (pgf_tup rfl (pgsf_cons (pgf_name (i := 0) (show List.Nodup (α := Str) ["k", "one", "told"] by decide +kernel)) (pgsf_cons (pgf_name (i := 1) (show List.Nodup (α := Str) ["k", "one", "told"] by decide +kernel)) pgsf_nil)))) (fun _ _ _ _ _ _ => (ptf_cmp op_notInA (sem_in true) (pf_v 1) (pf_slice sl_all sem_sl (pf_v 2) pof_none (pof_some (pf_v 0))) (by with_unfolding_all rfl))) (fun _ _ _ _ _ _ => (pf_v 1)))))
theorem ok_l_number (C : Defs K mg) : FnOk P w K mg base CX0 3 C.f_l_number C.d_l_number ["deck", "kind"] (spF K 2 m_l_number) := by
  refine Fun.okF (N := ["deck", "kind", "great"]) C.F_l_number sc_l_number (fun cdv A outer s H E hr => ?_)
  have hu := hr.units
  refine psf_cons ?s0 ?t0
  case s0 => exact (psf_if (ptf_cmp (op_eqU hu) sem_eq (pf_v 1) pf_int (nomark _)) (psf_cons (psf_set (i := 2) (by exact sc_l_number.nd) (pf_op op_addA sem_add (pf_op op_mulA sem_mul (pf_call (ok_l_next C) (hr.mono (by decide)) (by rfl) C.g_l_next C.F_l_next.kp C.b_l_next (paf_cons (pf_v 0) (paf_cons (pf_op op_mulA sem_mul pf_int (pf_op op_pow sem_pow pf_int pf_int)) paf_nil))) (pf_op op_pow sem_pow pf_int pf_int)) (pf_call (ok_l_next C) (hr.mono (by decide)) (by rfl) C.g_l_next C.F_l_next.kp C.b_l_next (paf_cons (pf_v 0) (paf_cons (pf_op op_pow sem_pow pf_int pf_int) paf_nil))))) (psf_cons (psf_set (i := 2) (by exact sc_l_number.nd) (pf_op op_addA sem_add (pf_op op_sub sem_sub (pf_op op_mod sem_mod (pf_v 2) (pf_op op_sub sem_sub (pf_op op_mulA sem_mul pf_int (pf_op op_pow sem_pow pf_int pf_int)) pf_int)) (pf_op op_pow sem_pow pf_int pf_int)) pf_int)) (psf_one (psf_ret (pf_ix ix_seq sem_ix (pf_lst (paf_cons (pf_v 2) (paf_cons (pf_op op_sub sem_sub (pf_op op_pow sem_pow pf_int pf_int) pf_int) (paf_cons (pf_op op_sub sem_sub pf_int (pf_op op_pow sem_pow pf_int pf_int)) paf_nil)))) (pf_callB (call_maxA rfl) sem_max (by rfl) C.n_max PyProof.Rows.boot_max (paf_cons pf_int (paf_cons (pf_op op_sub sem_sub (pf_call (ok_l_next C) (hr.mono (by decide)) (by rfl) C.g_l_next C.F_l_next.kp C.b_l_next (paf_cons (pf_v 0) (paf_cons pf_int paf_nil))) pf_int) paf_nil))) (fun _ _ => rfl)))))) psf_nil)
  exact (psf_one (psf_ret (pf_op op_sub sem_sub (pf_call (ok_l_next C) (hr.mono (by decide)) (by rfl) C.g_l_next C.F_l_next.kp C.b_l_next (paf_cons (pf_v 0) (paf_cons (pf_ix ix_seq sem_ix (pf_lst (paf_cons pf_int (paf_cons pf_int paf_nil))) (pf_v 1) (fun _ _ => rfl)) paf_nil))) (pf_ix ix_seq sem_ix (pf_lst (paf_cons pf_int (paf_cons pf_int paf_nil))) (pf_v 1) (fun _ _ => rfl)))))
theorem ok_l_places (C : Defs K mg) : FnOk P w K mg base CX0 4 C.f_l_places C.d_l_places ["deck", "most"] (spF K 2 m_l_places) := by
  refine Fun.okF (N := ["deck", "most", "many", "kind", "way", "some", "found", "k", "place"]) C.F_l_places sc_l_places (fun cdv A outer s H E hr => ?_)
  have hu := hr.units
  refine psf_cons ?s0 ?t0
  case s0 => exact (psf_set (i := 2) (by exact sc_l_places.nd) (pf_ix ix_seq sem_ix (pf_lst (paf_cons (pf_call (ok_l_next C) (hr.mono (by decide)) (by rfl) C.g_l_next C.F_l_next.kp C.b_l_next (paf_cons (pf_v 0) (paf_cons (pf_op op_addA sem_add (pf_v 1) pf_int) paf_nil))) (paf_cons (pf_call (ok_l_next C) (hr.mono (by decide)) (by rfl) C.g_l_next C.F_l_next.kp C.b_l_next (paf_cons (pf_v 0) (paf_cons pf_int paf_nil))) (paf_cons (pf_v 1) paf_nil)))) (pf_call (ok_l_next C) (hr.mono (by decide)) (by rfl) C.g_l_next C.F_l_next.kp C.b_l_next (paf_cons (pf_v 0) (paf_cons pf_int paf_nil))) (fun _ _ => rfl)))
  refine psf_cons ?s1 ?t1
  case s1 => exact (psf_set (i := 3) (by exact sc_l_places.nd) (pf_call (ok_l_next C) (hr.mono (by decide)) (by rfl) C.g_l_next C.F_l_next.kp C.b_l_next (paf_cons (pf_v 0) (paf_cons pf_int paf_nil))))
  refine psf_cons ?s2 ?t2
  case s2 => exact (psf_set (i := 4) (by exact sc_l_places.nd) (pf_call (ok_l_next C) (hr.mono (by decide)) (by rfl) C.g_l_next C.F_l_next.kp C.b_l_next (paf_cons (pf_v 0) (paf_cons pf_int paf_nil))))
  refine psf_cons ?s3 ?t3
  case s3 => exact (psf_comp (i := 5) (N' := ["k", "deck", "kind"]) (ix := [none, some 0, some 3]) (by exact sc_l_places.nd) ⟨rfl, rfl, rfl, rfl, rfl, rfl⟩ rfl (pif_range1 (by rfl) C.n_range (paf_cons pf_int paf_nil)) (fun _ _ _ _ _ _ => (pgf_name (i := 0) (show List.Nodup (α := Str) ["k", "deck", "kind"] by decide +kernel))) (fun _ _ _ _ _ _ => (pf_tup (paf_cons (pf_call (ok_l_number C) (hr.mono (by decide)) (by rfl) C.g_l_number C.F_l_number.kp C.b_l_number (paf_cons (pf_v 1) (paf_cons (pf_v 2) paf_nil))) (paf_cons (pf_call (ok_l_number C) (hr.mono (by decide)) (by rfl) C.g_l_number C.F_l_number.kp C.b_l_number (paf_cons (pf_v 1) (paf_cons (pf_v 2) paf_nil))) paf_nil)))))
  refine psf_cons ?s4 ?t4
  case s4 => exact (psf_set (i := 6) (by exact sc_l_places.nd) (pf_lst paf_nil))
  refine psf_cons ?s5 ?t5
  case s5 => exact (psf_for PassesOwn.never rfl (pif_range1 (by rfl) C.n_range (paf_cons (pf_v 2) paf_nil)) (pgf_name (i := 7) (by exact sc_l_places.nd)) (psf_cons (psf_set (i := 8) (by exact sc_l_places.nd) (pf_tup (paf_cons (pf_call (ok_l_number C) (hr.mono (by decide)) (by rfl) C.g_l_number C.F_l_number.kp C.b_l_number (paf_cons (pf_v 0) (paf_cons (pf_v 3) paf_nil))) (paf_cons (pf_call (ok_l_number C) (hr.mono (by decide)) (by rfl) C.g_l_number C.F_l_number.kp C.b_l_number (paf_cons (pf_v 0) (paf_cons (pf_v 3) paf_nil))) paf_nil)))) (psf_cons (psf_if (ptf_cmp (op_eqU hu) sem_eq (pf_v 4) pf_int (nomark _)) (psf_one (psf_set (i := 8) (by exact sc_l_places.nd) (pf_tup (paf_cons (pf_op op_fdivW sem_div (pf_v 7) pf_int) (paf_cons (pf_op op_sub sem_sub (pf_v 7) (pf_op op_fdivW sem_div (pf_v 7) pf_int)) paf_nil))))) psf_nil) (psf_cons (psf_if (ptf_cmp (op_eqU hu) sem_eq (pf_v 4) pf_int (nomark _)) (psf_one (psf_set (i := 8) (by exact sc_l_places.nd) (pf_tup (paf_cons (pf_op op_fdivW sem_div (pf_v 7) pf_int) (paf_cons (pf_op op_sub sem_sub pf_int (pf_v 7)) paf_nil))))) psf_nil) (psf_cons (psf_if (ptf_cmp (op_eqU hu) sem_eq (pf_v 4) pf_int (nomark _)) (psf_one (psf_set (i := 8) (by exact sc_l_places.nd) (pf_tup (paf_cons (pf_ix ix_seq sem_ix (pf_v 8) pf_int (fun _ _ => rfl)) (paf_cons (pf_ix ix_seq sem_ix (pf_ix ix_seq sem_ix (pf_v 5) pf_int (fun _ _ => rfl)) pf_int (fun _ _ => rfl)) paf_nil))))) psf_nil) (psf_cons (psf_if (ptf_cmp (op_eqU hu) sem_eq (pf_v 4) pf_int (nomark _)) (psf_one (psf_set (i := 8) (by exact sc_l_places.nd) (pf_ix ix_seq sem_ix (pf_v 5) (pf_call (ok_l_next C) (hr.mono (by decide)) (by rfl) C.g_l_next C.F_l_next.kp C.b_l_next (paf_cons (pf_v 0) (paf_cons pf_int paf_nil))) (fun _ _ => rfl)))) psf_nil) (psf_cons (psf_if (PWF.pt (pwf_and (ptf_cmp (op_eqU hu) sem_eq (pf_call (ok_l_next C) (hr.mono (by decide)) (by rfl) C.g_l_next C.F_l_next.kp C.b_l_next (paf_cons (pf_v 0) (paf_cons pf_int paf_nil))) pf_int (nomark _)) (pwf_and1 (ptf_cmp (op_neU hu) sem_ne (pf_v 6) (pf_lst paf_nil) (nomark _))))) (psf_one (psf_set (i := 8) (by exact sc_l_places.nd) (pf_ix ix_seq sem_ix (pf_v 6) (pf_call (ok_l_next C) (hr.mono (by decide)) (by rfl) C.g_l_next C.F_l_next.kp C.b_l_next (paf_cons (pf_v 0) (paf_cons (pf_callB call_len sem_len (by rfl) C.n_len PySem.boot_len (paf_cons (pf_v 6) paf_nil)) paf_nil))) (fun _ _ => rfl)))) psf_nil) (psf_one (psf_expr (pf_bm PySem.F.plainAttrs_list PySem.F.slot_list_append PySem.F.type_list_append mt_append sem_append (pf_v 6) (paf_cons (pf_v 8) paf_nil)))))))))))
  exact (psf_one (psf_ret (pf_v 6)))
theorem ok_l_points (C : Defs K mg) : FnOk P w K mg base CX0 5 C.f_l_points C.d_l_points ["deck", "most"] (spF K 2 m_l_points) := by
  refine Fun.okF (N := ["deck", "most", "places", "names"]) C.F_l_points sc_l_points (fun cdv A outer s H E hr => ?_)
  have hu := hr.units
  refine psf_cons ?s0 ?t0
  case s0 => exact (psf_set (i := 2) (by exact sc_l_points.nd) (pf_call (ok_l_places C) (hr.mono (by decide)) (by rfl) C.g_l_places C.F_l_places.kp C.b_l_places (paf_cons (pf_v 0) (paf_cons (pf_v 1) paf_nil))))
  refine psf_cons ?s1 ?t1
  case s1 => exact (psf_if (ptf_cmp (op_eqU hu) sem_eq (pf_call (ok_l_next C) (hr.mono (by decide)) (by rfl) C.g_l_next C.F_l_next.kp C.b_l_next (paf_cons (pf_v 0) (paf_cons pf_int paf_nil))) pf_int (nomark _)) (psf_one (psf_set (i := 2) (by exact sc_l_points.nd) (pf_comp (N' := ["k", "places", "deck"]) (ix := [none, some 2, some 0]) ⟨rfl, rfl, rfl, rfl, rfl, rfl⟩ rfl (pif_range1 (by rfl) C.n_range (paf_cons (pf_callB call_len sem_len (by rfl) C.n_len PySem.boot_len (paf_cons (pf_v 2) paf_nil)) paf_nil)) (fun _ _ _ _ _ _ => (pgf_name (i := 0) (show List.Nodup (α := Str) ["k", "places", "deck"] by decide +kernel))) (fun _ _ _ _ _ _ => (pf_bm PySem.F.plainAttrs_list PySem.F.slot_list_pop PySem.F.type_list_pop mt_popAt sem_pop (pf_v 1) (paf_cons (pf_call (ok_l_next C) (hr.mono (by decide)) (by rfl) C.g_l_next C.F_l_next.kp C.b_l_next (paf_cons (pf_v 2) (paf_cons (pf_callB call_len sem_len (by rfl) C.n_len PySem.boot_len (paf_cons (pf_v 1) paf_nil)) paf_nil))) paf_nil)))))) psf_nil)
  refine psf_cons ?s2 ?t2
  case s2 => exact (psf_set (i := 3) (by exact sc_l_points.nd) (pf_call (ok_l_names C) (hr.mono (by decide)) (by rfl) C.g_l_names C.F_l_names.kp C.b_l_names (paf_cons (pf_v 0) (paf_cons (pf_callB call_len sem_len (by rfl) C.n_len PySem.boot_len (paf_cons (pf_v 2) paf_nil)) paf_nil))))
  exact (psf_one (psf_ret (pf_callTy call_tuple_of sem_tuple (by rfl) C.n_tuple (by decide +kernel) (paf_cons (pf_comp (N' := ["name", "place"]) (ix := [none, none]) ⟨rfl, rfl, rfl, rfl, rfl, rfl⟩ rfl (pif_zip (by rfl) C.n_zip (paf_cons (pf_v 3) (paf_cons (pf_v 2) paf_nil))) (fun _ _ _ _ _ _ => (pgf_tup rfl (pgsf_cons (pgf_name (i := 0) (show List.Nodup (α := Str) ["name", "place"] by decide +kernel)) (pgsf_cons (pgf_name (i := 1) (show List.Nodup (α := Str) ["name", "place"] by decide +kernel)) pgsf_nil)))) (fun _ _ _ _ _ _ => (pf_tup (paf_cons (pf_v 0) (paf_cons (pf_ix ix_seq sem_ix (pf_v 1) pf_int (fun _ _ => rfl)) (paf_cons (pf_ix ix_seq sem_ix (pf_v 1) pf_int (fun _ _ => rfl)) paf_nil)))))) paf_nil))))
theorem ok_l_figures (C : Defs K mg) : FnOk P w K mg base CX0 1 C.f_l_figures C.d_l_figures ["number"] (spF K 1 m_l_figures) := by
  refine Fun.okF (N := ["number", "sign", "text", "k"]) C.F_l_figures sc_l_figures (fun cdv A outer s H E hr => ?_)
  have hu := hr.units
  refine psf_cons ?s0 ?t0
  case s0 => exact (psf_set (i := 1) (by exact sc_l_figures.nd) (pf_ix ix_seq sem_ix (pf_lst (paf_cons pf_str (paf_cons pf_str paf_nil))) (pf_callTy call_int1 sem_int (by rfl) C.n_int (by decide +kernel) (paf_cons (pf_cmp op_lt sem_lt (pf_v 0) pf_int (nomark _)) paf_nil)) (fun _ _ => rfl)))
  refine psf_cons ?s1 ?t1
  case s1 => exact (psf_set (i := 0) (by exact sc_l_figures.nd) (pf_callB call_abs sem_abs (by rfl) C.n_abs (by decide +kernel) (paf_cons (pf_v 0) paf_nil)))
  refine psf_cons ?s2 ?t2
  case s2 => exact (psf_set (i := 2) (by exact sc_l_figures.nd) (pf_ix ix_seq sem_ix pf_str (pf_op op_mod sem_mod (pf_v 0) pf_int) (fun _ _ => rfl)))
  refine psf_cons ?s3 ?t3
  case s3 => exact (psf_for PassesOwn.never rfl (pif_range1 (by rfl) C.n_range (paf_cons pf_int paf_nil)) (pgf_name (i := 3) (by exact sc_l_figures.nd)) (psf_one (psf_if (ptf_cmp op_gt sem_gt (pf_v 0) pf_int (nomark _)) (psf_cons (psf_set (i := 0) (by exact sc_l_figures.nd) (pf_op op_fdivW sem_div (pf_v 0) pf_int)) (psf_one (psf_set (i := 2) (by exact sc_l_figures.nd) (pf_op op_addA sem_add (pf_ix ix_seq sem_ix pf_str (pf_op op_mod sem_mod (pf_v 0) pf_int) (fun _ _ => rfl)) (pf_v 2))))) psf_nil)))
  exact (psf_one (psf_ret (pf_op op_addA sem_add (pf_v 1) (pf_v 2))))
theorem ok_l_text (C : Defs K mg) : FnOk P w K mg base CX0 2 C.f_l_text C.d_l_text ["points"] (spF K 1 m_l_text) := by
  refine Fun.okF (N := ["points"]) C.F_l_text sc_l_text (fun cdv A outer s H E hr => ?_)
  have hu := hr.units
  exact (psf_one (psf_ret (pf_bm PySem.F.plainAttrs_str PySem.F.slot_str_join PySem.F.type_str_join mt_join sem_join pf_str (paf_cons (pf_comp (N' := ["name", "x", "y"]) (ix := [none, none, none]) ⟨rfl, rfl, rfl, rfl, rfl, rfl⟩ rfl (pif_seq (pf_v 0)) (fun _ _ _ _ _ _ => (pgf_tup rfl (pgsf_cons (pgf_name (i := 0) (show List.Nodup (α := Str) ["name", "x", "y"] by decide +kernel)) (pgsf_cons (pgf_name (i := 1) (show List.Nodup (α := Str) ["name", "x", "y"] by decide +kernel)) (pgsf_cons (pgf_name (i := 2) (show List.Nodup (α := Str) ["name", "x", "y"] by decide +kernel)) pgsf_nil))))) (fun _ _ _ _ _ _ => (pf_op op_addA sem_add (pf_op op_addA sem_add (pf_op op_addA sem_add (pf_op op_addA sem_add (pf_v 0) pf_str) (pf_call (ok_l_figures C) (hr.mono (by decide)) (by rfl) C.g_l_figures C.F_l_figures.kp C.b_l_figures (paf_cons (pf_v 1) paf_nil))) pf_str) (pf_call (ok_l_figures C) (hr.mono (by decide)) (by rfl) C.g_l_figures C.F_l_figures.kp C.b_l_figures (paf_cons (pf_v 2) paf_nil))))) paf_nil))))
theorem ok_lies_below (C : Defs K mg) : FnOk P w K mg base CX0 1 C.f_lies_below C.d_lies_below ["one", "other"] (spF K 2 m_lies_below) := by
  refine Fun.okF (N := ["one", "other"]) C.F_lies_below sc_lies_below (fun cdv A outer s H E hr => ?_)
  have hu := hr.units
  exact (psf_one (psf_ret (pf_and (pf_cmp (op_neU hu) sem_ne (pf_v 0) (pf_v 1) (nomark _)) (pf_one (pf_callB (call_allL rfl) sem_all (by rfl) C.n_all PyProof.Rows.boot_all (paf_cons (pf_comp (N' := ["number", "above"]) (ix := [none, none]) ⟨rfl, rfl, rfl, rfl, rfl, rfl⟩ rfl (pif_zipA (by rfl) C.n_zip (paf_cons (pf_v 0) (paf_cons (pf_v 1) paf_nil))) (fun _ _ _ _ _ _ => (pgf_tup rfl (pgsf_cons (pgf_name (i := 0) (show List.Nodup (α := Str) ["number", "above"] by decide +kernel)) (pgsf_cons (pgf_name (i := 1) (show List.Nodup (α := Str) ["number", "above"] by decide +kernel)) pgsf_nil)))) (fun _ _ _ _ _ _ => (pf_cmp op_le sem_le (pf_v 0) (pf_v 1) (nomark _)))) paf_nil))))))
theorem ok_l_three_right (C : Defs K mg) : FnOk P w K mg base CX0 2 C.f_l_three_right C.d_l_three_right ["one", "other", "third"] (spF K 3 m_l_three_right) := by
  refine Fun.okF (N := ["one", "other", "third", "by", "far"]) C.F_l_three_right sc_l_three_right (fun cdv A outer s H E hr => ?_)
  have hu := hr.units
  refine psf_cons ?s0 ?t0
  case s0 => exact (psf_if (PWF.pt (pwf_and (ptf_tru (pf_call (ok_lies_below C) (hr.mono (by decide)) (by rfl) C.g_lies_below C.F_lies_below.kp C.b_lies_below (paf_cons (pf_v 0) (paf_cons (pf_v 1) paf_nil)))) (pwf_and (ptf_tru (pf_call (ok_lies_below C) (hr.mono (by decide)) (by rfl) C.g_lies_below C.F_lies_below.kp C.b_lies_below (paf_cons (pf_v 1) (paf_cons (pf_v 2) paf_nil)))) (pwf_and1 (ptf_not (ptf_tru (pf_call (ok_lies_below C) (hr.mono (by decide)) (by rfl) C.g_lies_below C.F_lies_below.kp C.b_lies_below (paf_cons (pf_v 0) (paf_cons (pf_v 2) paf_nil))))))))) (psf_one (psf_ret pf_bl)) psf_nil)
  refine psf_cons ?s1 ?t1
  case s1 => exact (psf_if (PWF.pt (pwf_or (ptf_tru (pf_call (ok_lies_below C) (hr.mono (by decide)) (by rfl) C.g_lies_below C.F_lies_below.kp C.b_lies_below (paf_cons (pf_v 0) (paf_cons (pf_v 0) paf_nil)))) (pwf_or1 (PWF.pt (pwf_and (ptf_tru (pf_call (ok_lies_below C) (hr.mono (by decide)) (by rfl) C.g_lies_below C.F_lies_below.kp C.b_lies_below (paf_cons (pf_v 0) (paf_cons (pf_v 1) paf_nil)))) (pwf_and1 (ptf_tru (pf_call (ok_lies_below C) (hr.mono (by decide)) (by rfl) C.g_lies_below C.F_lies_below.kp C.b_lies_below (paf_cons (pf_v 1) (paf_cons (pf_v 0) paf_nil)))))))))) (psf_one (psf_ret pf_bl)) psf_nil)
  refine psf_cons ?s2 ?t2
  case s2 => exact (psf_set (i := 3) (by exact sc_l_three_right.nd) (pf_lst (paf_cons (pf_op op_sub sem_sub pf_int (pf_ix ix_seq sem_ix (pf_v 0) pf_int (fun _ _ => rfl))) (paf_cons (pf_op op_sub sem_sub pf_int (pf_ix ix_seq sem_ix (pf_v 0) pf_int (fun _ _ => rfl))) paf_nil))))
  refine psf_cons ?s3 ?t3
  case s3 => exact (psf_set (i := 4) (by exact sc_l_three_right.nd) (pf_tup (paf_cons (pf_op op_addA sem_add (pf_ix ix_seq sem_ix (pf_v 1) pf_int (fun _ _ => rfl)) (pf_ix ix_seq sem_ix (pf_v 3) pf_int (fun _ _ => rfl))) (paf_cons (pf_op op_addA sem_add (pf_ix ix_seq sem_ix (pf_v 1) pf_int (fun _ _ => rfl)) (pf_ix ix_seq sem_ix (pf_v 3) pf_int (fun _ _ => rfl))) paf_nil))))
  refine psf_cons ?s4 ?t4
  case s4 => exact (psf_if (PWF.pt (pwf_and (ptf_cmp op_lt sem_lt (pf_callB (call_maxA rfl) sem_max (by rfl) C.n_max PyProof.Rows.boot_max (paf_cons (pf_callB call_abs sem_abs (by rfl) C.n_abs (by decide +kernel) (paf_cons (pf_ix ix_seq sem_ix (pf_v 4) pf_int (fun _ _ => rfl)) paf_nil)) (paf_cons (pf_callB call_abs sem_abs (by rfl) C.n_abs (by decide +kernel) (paf_cons (pf_ix ix_seq sem_ix (pf_v 4) pf_int (fun _ _ => rfl)) paf_nil)) paf_nil))) (pf_op op_pow sem_pow pf_int pf_int) (nomark _)) (pwf_and1 (ptf_cmp (op_neU hu) sem_ne (pf_call (ok_lies_below C) (hr.mono (by decide)) (by rfl) C.g_lies_below C.F_lies_below.kp C.b_lies_below (paf_cons (pf_tup (paf_cons pf_int (paf_cons pf_int paf_nil))) (paf_cons (pf_v 4) paf_nil))) (pf_call (ok_lies_below C) (hr.mono (by decide)) (by rfl) C.g_lies_below C.F_lies_below.kp C.b_lies_below (paf_cons (pf_v 0) (paf_cons (pf_v 1) paf_nil))) (nomark _))))) (psf_one (psf_ret pf_bl)) psf_nil)
  exact (psf_one (psf_ret (pf_cmp (op_eqU hu) sem_eq (pf_call (ok_lies_below C) (hr.mono (by decide)) (by rfl) C.g_lies_below C.F_lies_below.kp C.b_lies_below (paf_cons (pf_rev (pf_v 0)) (paf_cons (pf_rev (pf_v 1)) paf_nil))) (pf_call (ok_lies_below C) (hr.mono (by decide)) (by rfl) C.g_lies_below C.F_lies_below.kp C.b_lies_below (paf_cons (pf_v 0) (paf_cons (pf_v 1) paf_nil))) (nomark _))))
theorem ok_points_shown (C : Defs K mg) : FnOk P w K mg base CX0 1 C.f_points_shown C.d_points_shown ["points"] (spF K 1 m_points_shown) := by
  refine Fun.okF (N := ["points"]) C.F_points_shown sc_points_shown (fun cdv A outer s H E hr => ?_)
  have hu := hr.units
  exact (psf_one (psf_ret (pf_bm PySem.F.plainAttrs_str PySem.F.slot_str_join PySem.F.type_str_join mt_join sem_join pf_str (paf_cons (pf_comp (N' := ["name", "x", "y"]) (ix := [none, none, none]) ⟨rfl, rfl, rfl, rfl, rfl, rfl⟩ rfl (pif_seq (pf_v 0)) (fun _ _ _ _ _ _ => (pgf_tup rfl (pgsf_cons (pgf_name (i := 0) (show List.Nodup (α := Str) ["name", "x", "y"] by decide +kernel)) (pgsf_cons (pgf_name (i := 1) (show List.Nodup (α := Str) ["name", "x", "y"] by decide +kernel)) (pgsf_cons (pgf_name (i := 2) (show List.Nodup (α := Str) ["name", "x", "y"] by decide +kernel)) pgsf_nil))))) (fun _ _ _ _ _ _ => (pf_joined (.cons (pf_fmt (pf_v 0)) (.cons pf_str (.cons (pf_fmt (pf_v 1)) (.cons pf_str (.cons (pf_fmt (pf_v 2)) .nil)))))))) paf_nil))))
theorem ok_holds_only (C : Defs K mg) : FnOk P w K mg base CX0 1 C.f_holds_only C.d_holds_only ["word", "signs"] (spF K 2 m_holds_only) := by
  refine Fun.okF (N := ["word", "signs"]) C.F_holds_only sc_holds_only (fun cdv A outer s H E hr => ?_)
  have hu := hr.units
  exact (psf_one (psf_ret (pf_callB (call_allL rfl) sem_all (by rfl) C.n_all PyProof.Rows.boot_all (paf_cons (pf_comp (N' := ["sign", "signs"]) (ix := [none, some 1]) ⟨rfl, rfl, rfl, rfl, rfl, rfl⟩ rfl (pif_str (pf_v 0)) (fun _ _ _ _ _ _ => (pgf_name (i := 0) (show List.Nodup (α := Str) ["sign", "signs"] by decide +kernel))) (fun _ _ _ _ _ _ => (pf_cmp op_inA (sem_in false) (pf_v 0) (pf_v 1) (by with_unfolding_all rfl)))) paf_nil))))
theorem ok_is_name (C : Defs K mg) : FnOk P w K mg base CX0 2 C.f_is_name C.d_is_name ["word"] (spF K 1 m_is_name) := by
  refine Fun.okF (N := ["word"]) C.F_is_name sc_is_name (fun cdv A outer s H E hr => ?_)
  have hu := hr.units
  exact (psf_one (psf_ret (pf_and (pf_chain op_le op_le sem_le sem_le pf_int (pf_callB call_len sem_len (by rfl) C.n_len PySem.boot_len (paf_cons (pf_v 0) paf_nil)) (pf_globI (by rfl) C.v_LONGEST_NAME)) (pf_one (pf_call (ok_holds_only C) (hr.mono (by decide)) (by rfl) C.g_holds_only C.F_holds_only.kp C.b_holds_only (paf_cons (pf_v 0) (paf_cons (pf_globS (by rfl) C.v_LETTERS) paf_nil)))))))
theorem ok_is_number (C : Defs K mg) : FnOk P w K mg base CX0 2 C.f_is_number C.d_is_number ["word"] (spF K 1 m_is_number) := by
  refine Fun.okF (N := ["word", "figures"]) C.F_is_number sc_is_number (fun cdv A outer s H E hr => ?_)
  have hu := hr.units
  refine psf_cons ?s0 ?t0
  case s0 => exact (psf_set (i := 1) (by exact sc_is_number.nd) (pf_if (ptf_tru (pf_bm PySem.F.plainAttrs_str PySem.F.slot_str_startswith PySem.F.type_str_startswith mt_starts sem_starts (pf_v 0) (paf_cons pf_str paf_nil))) (pf_slice sl_allZ sem_slZ (pf_v 0) (pof_some pf_int) pof_none) (pf_v 0)))
  refine psf_cons ?s1 ?t1
  case s1 => exact (psf_if (PWF.pt (pwf_or (ptf_cmp (op_eqU hu) sem_eq (pf_v 1) pf_str (nomark _)) (pwf_or1 (ptf_not (ptf_tru (pf_call (ok_holds_only C) (hr.mono (by decide)) (by rfl) C.g_holds_only C.F_holds_only.kp C.b_holds_only (paf_cons (pf_v 1) (paf_cons (pf_globS (by rfl) C.v_FIGURES) paf_nil)))))))) (psf_one (psf_ret pf_bl)) psf_nil)
  exact (psf_one (psf_ret (pf_or (pf_cmp (op_neU hu) sem_ne (pf_ix ix_seq sem_ix (pf_v 1) pf_int (fun _ _ => rfl)) pf_str (nomark _)) (pf_one (pf_cmp (op_eqU hu) sem_eq (pf_v 0) pf_str (nomark _))))))
theorem ok_point_in (C : Defs K mg) : FnOk P w K mg base CX0 3 C.f_point_in C.d_point_in ["line"] (spF K 1 m_point_in) := by
  refine Fun.okF (N := ["line", "words"]) C.F_point_in sc_point_in (fun cdv A outer s H E hr => ?_)
  have hu := hr.units
  refine psf_cons ?s0 ?t0
  case s0 => exact (psf_set (i := 1) (by exact sc_point_in.nd) (pf_bm PySem.F.plainAttrs_str PySem.F.slot_str_split PySem.F.type_str_split mt_split sem_split (pf_v 0) (paf_cons pf_str paf_nil)))
  refine psf_cons ?s1 ?t1
  case s1 => exact (psf_if (PWF.pt (pwf_or (ptf_cmp (op_neU hu) sem_ne (pf_callB call_len sem_len (by rfl) C.n_len PySem.boot_len (paf_cons (pf_v 1) paf_nil)) pf_int (nomark _)) (pwf_or1 (ptf_not (ptf_tru (pf_call (ok_is_name C) (hr.mono (by decide)) (by rfl) C.g_is_name C.F_is_name.kp C.b_is_name (paf_cons (pf_ix ix_seq sem_ix (pf_v 1) pf_int (fun _ _ => rfl)) paf_nil))))))) (psf_one (psf_ret pf_non)) psf_nil)
  refine psf_cons ?s2 ?t2
  case s2 => exact (psf_if (PWF.pt (pwf_or (ptf_not (ptf_tru (pf_call (ok_is_number C) (hr.mono (by decide)) (by rfl) C.g_is_number C.F_is_number.kp C.b_is_number (paf_cons (pf_ix ix_seq sem_ix (pf_v 1) pf_int (fun _ _ => rfl)) paf_nil)))) (pwf_or1 (ptf_not (ptf_tru (pf_call (ok_is_number C) (hr.mono (by decide)) (by rfl) C.g_is_number C.F_is_number.kp C.b_is_number (paf_cons (pf_ix ix_seq sem_ix (pf_v 1) pf_int (fun _ _ => rfl)) paf_nil))))))) (psf_one (psf_ret pf_non)) psf_nil)
  exact (psf_one (psf_ret (pf_tup (paf_cons (pf_ix ix_seq sem_ix (pf_v 1) pf_int (fun _ _ => rfl)) (paf_cons (pf_callTy call_intT sem_intT (by rfl) C.n_int (by decide +kernel) (paf_cons (pf_ix ix_seq sem_ix (pf_v 1) pf_int (fun _ _ => rfl)) paf_nil)) (paf_cons (pf_callTy call_intT sem_intT (by rfl) C.n_int (by decide +kernel) (paf_cons (pf_ix ix_seq sem_ix (pf_v 1) pf_int (fun _ _ => rfl)) paf_nil)) paf_nil))))))
theorem ok_read_points (C : Defs K mg) : FnOk P w K mg base CX0 4 C.f_read_points C.d_read_points ["text"] (spF K 1 m_read_points) := by
  refine Fun.okF (N := ["text", "points", "known", "row", "line", "point"]) C.F_read_points sc_read_points (fun cdv A outer s H E hr => ?_)
  have hu := hr.units
  refine psf_cons ?s0 ?t0
  case s0 => exact (psf_if (ptf_cmp (op_eqU hu) sem_eq (pf_v 0) pf_str (nomark _)) (psf_one (psf_ret (pf_tup paf_nil))) psf_nil)
  refine psf_cons ?s1 ?t1
  case s1 => exact (psf_set (i := 1) (by exact sc_read_points.nd) (pf_lst paf_nil))
  refine psf_cons ?s2 ?t2
  case s2 => exact (psf_set (i := 2) (by exact sc_read_points.nd) pf_dnew)
  refine psf_cons ?s3 ?t3
  case s3 => exact (psf_for PassesOwn.never rfl (pif_enumA (by rfl) C.n_enumerate (paf_cons (pf_bm PySem.F.plainAttrs_str PySem.F.slot_str_split PySem.F.type_str_split mt_split sem_split (pf_v 0) (paf_cons pf_str paf_nil)) paf_nil)) (pgf_tup rfl (pgsf_cons (pgf_name (i := 3) (by exact sc_read_points.nd)) (pgsf_cons (pgf_name (i := 4) (by exact sc_read_points.nd)) pgsf_nil))) (psf_cons (psf_set (i := 5) (by exact sc_read_points.nd) (pf_call (ok_point_in C) (hr.mono (by decide)) (by rfl) C.g_point_in C.F_point_in.kp C.b_point_in (paf_cons (pf_v 4) paf_nil))) (psf_cons (psf_if (PWF.pt (pwf_or (ptf_cmp op_isU (sem_is false) (pf_v 5) pf_non (nomark _)) (pwf_or1 (ptf_cmp (op_din hu) sem_din (pf_ix ix_seq sem_ix (pf_v 5) pf_int (fun _ _ => rfl)) (pf_v 2) (by with_unfolding_all rfl))))) (psf_one psf_never) psf_nil) (psf_cons (psf_dput hu (pf_v 2) (pf_ix ix_seq sem_ix (pf_v 5) pf_int (fun _ _ => rfl)) pf_bl) (psf_one (psf_expr (pf_bm PySem.F.plainAttrs_list PySem.F.slot_list_append PySem.F.type_list_append mt_append sem_append (pf_v 1) (paf_cons (pf_v 5) paf_nil))))))))
  exact (psf_one (psf_ret (pf_callTy call_tuple_of sem_tuple (by rfl) C.n_tuple (by decide +kernel) (paf_cons (pf_v 1) paf_nil))))
theorem ok_law (C : Defs K mg) : FnOk P w K mg base CX0 6 C.f_law C.d_law ["script"] (spF K 1 m_law) := by
  refine Fun.okF (N := ["script", "deck", "some", "points", "text", "other", "cut", "parts", "k", "places"]) C.F_law sc_law (fun cdv A outer s H E hr => ?_)
  have hu := hr.units
  refine psf_cons ?s0 ?t0
  case s0 => exact (psf_set (i := 1) (by exact sc_law.nd) (pf_call (ok_l_deck C) (hr.mono (by decide)) (by rfl) C.g_l_deck C.F_l_deck.kp C.b_l_deck (paf_cons (pf_v 0) paf_nil)))
  refine psf_cons ?s1 ?t1
  case s1 => exact (psf_comp (i := 2) (N' := ["k", "deck"]) (ix := [none, some 1]) (by exact sc_law.nd) ⟨rfl, rfl, rfl, rfl, rfl, rfl⟩ rfl (pif_range1 (by rfl) C.n_range (paf_cons pf_int paf_nil)) (fun _ _ _ _ _ _ => (pgf_name (i := 0) (show List.Nodup (α := Str) ["k", "deck"] by decide +kernel))) (fun _ _ _ _ _ _ => (pf_call (ok_l_points C) (hr.mono (by decide)) (by rfl) C.g_l_points C.F_l_points.kp C.b_l_points (paf_cons (pf_v 1) (paf_cons pf_int paf_nil)))))
  refine psf_cons ?s2 ?t2
  case s2 => exact (psf_for PassesOwn.never rfl (pif_seq (pf_op op_addE sem_addA (pf_v 2) (pf_rev (pf_v 2)))) (pgf_name (i := 3) (by exact sc_law.nd)) (psf_cons (psf_set (i := 4) (by exact sc_law.nd) (pf_call (ok_points_shown C) (hr.mono (by decide)) (by rfl) C.g_points_shown C.F_points_shown.kp C.b_points_shown (paf_cons (pf_v 3) paf_nil))) (psf_cons (psf_if (PWF.pt (pwf_or (ptf_not (ptf_tru (pf_isi kit_str (pf_v 4) (by rfl) C.n_isinstance (by rfl) C.n_str (by decide +kernel)))) (pwf_or (ptf_cmp (op_neU hu) sem_ne (pf_v 4) (pf_call (ok_l_text C) (hr.mono (by decide)) (by rfl) C.g_l_text C.F_l_text.kp C.b_l_text (paf_cons (pf_v 3) paf_nil)) (nomark _)) (pwf_or1 (ptf_cmp (op_neU hu) sem_ne (pf_call (ok_read_points C) (hr.mono (by decide)) (by rfl) C.g_read_points C.F_read_points.kp C.b_read_points (paf_cons (pf_v 4) paf_nil)) (pf_v 3) (nomark _)))))) (psf_one (psf_ret pf_bl)) psf_nil) (psf_cons (psf_set (i := 5) (by exact sc_law.nd) (pf_call (ok_l_changed C) (hr.mono (by decide)) (by rfl) C.g_l_changed C.F_l_changed.kp C.b_l_changed (paf_cons (pf_v 1) (paf_cons (pf_v 3) paf_nil)))) (psf_cons (psf_if (PWF.pt (pwf_or (ptf_cmp (op_neU hu) sem_ne (pf_call (ok_read_points C) (hr.mono (by decide)) (by rfl) C.g_read_points C.F_read_points.kp C.b_read_points (paf_cons (pf_call (ok_points_shown C) (hr.mono (by decide)) (by rfl) C.g_points_shown C.F_points_shown.kp C.b_points_shown (paf_cons (pf_v 5) paf_nil)) paf_nil)) (pf_v 5) (nomark _)) (pwf_or1 (ptf_cmp (op_neU hu) sem_ne (pf_cmp (op_eqU hu) sem_eq (pf_call (ok_points_shown C) (hr.mono (by decide)) (by rfl) C.g_points_shown C.F_points_shown.kp C.b_points_shown (paf_cons (pf_v 5) paf_nil)) (pf_v 4) (nomark _)) (pf_cmp (op_eqU hu) sem_eq (pf_v 5) (pf_v 3) (nomark _)) (nomark _))))) (psf_one (psf_ret pf_bl)) psf_nil) (psf_cons (psf_set (i := 6) (by exact sc_law.nd) (pf_call (ok_l_next C) (hr.mono (by decide)) (by rfl) C.g_l_next C.F_l_next.kp C.b_l_next (paf_cons (pf_v 1) (paf_cons (pf_op op_addE sem_addA (pf_callB call_len sem_len (by rfl) C.n_len PySem.boot_len (paf_cons (pf_v 3) paf_nil)) pf_int) paf_nil)))) (psf_cons (psf_set (i := 7) (by exact sc_law.nd) (pf_lst (paf_cons (pf_call (ok_points_shown C) (hr.mono (by decide)) (by rfl) C.g_points_shown C.F_points_shown.kp C.b_points_shown (paf_cons (pf_slice sl_allA sem_slA (pf_v 3) pof_none (pof_some (pf_v 6))) paf_nil)) (paf_cons (pf_call (ok_points_shown C) (hr.mono (by decide)) (by rfl) C.g_points_shown C.F_points_shown.kp C.b_points_shown (paf_cons (pf_slice sl_allA sem_slA (pf_v 3) (pof_some (pf_v 6)) pof_none) paf_nil)) paf_nil)))) (psf_cons (psf_if (PWF.pt (pwf_and (ptf_chain op_lt op_lt sem_lt sem_lt pf_int (pf_v 6) (pf_callB call_len sem_len (by rfl) C.n_len PySem.boot_len (paf_cons (pf_v 3) paf_nil))) (pwf_and1 (ptf_cmp (op_neU hu) sem_ne (pf_bm PySem.F.plainAttrs_str PySem.F.slot_str_join PySem.F.type_str_join mt_join sem_join pf_str (paf_cons (pf_v 7) paf_nil)) (pf_v 4) (nomark _))))) (psf_one (psf_ret pf_bl)) psf_nil) (psf_one (psf_for PassesOwn.never rfl (pif_range2 (by rfl) C.n_range (paf_cons pf_int (paf_cons (pf_callB (call_minA rfl) sem_min (by rfl) C.n_min PyProof.Rows.boot_min (paf_cons (pf_callB call_len sem_len (by rfl) C.n_len PySem.boot_len (paf_cons (pf_v 3) paf_nil)) (paf_cons pf_int paf_nil))) paf_nil))) (pgf_name (i := 8) (by exact sc_law.nd)) (psf_cons (psf_comp (i := 9) (N' := ["point"]) (ix := [none]) (by exact sc_law.nd) ⟨rfl, rfl, rfl, rfl, rfl, rfl⟩ rfl (pif_seq (pf_slice sl_allA sem_slA (pf_v 3) (pof_some (pf_op op_sub sem_sub (pf_v 8) pf_int)) (pof_some (pf_op op_addE sem_addA (pf_v 8) pf_int)))) (fun _ _ _ _ _ _ => (pgf_name (i := 0) (show List.Nodup (α := Str) ["point"] by decide +kernel))) (fun _ _ _ _ _ _ => (pf_slice sl_allA sem_slA (pf_v 0) (pof_some pf_int) pof_none))) (psf_cons (psf_if (ptf_not (ptf_tru (pf_call (ok_l_three_right C) (hr.mono (by decide)) (by rfl) C.g_l_three_right C.F_l_three_right.kp C.b_l_three_right (paf_cons (pf_ix ix_seq sem_ix (pf_v 9) pf_int (fun _ _ => rfl)) (paf_cons (pf_ix ix_seq sem_ix (pf_v 9) pf_int (fun _ _ => rfl)) (paf_cons (pf_ix ix_seq sem_ix (pf_v 9) pf_int (fun _ _ => rfl)) paf_nil)))))) (psf_one (psf_ret pf_bl)) psf_nil) (psf_one (psf_if (ptf_not (ptf_tru (pf_call (ok_l_three_right C) (hr.mono (by decide)) (by rfl) C.g_l_three_right C.F_l_three_right.kp C.b_l_three_right (paf_cons (pf_ix ix_seq sem_ix (pf_v 9) pf_int (fun _ _ => rfl)) (paf_cons (pf_ix ix_seq sem_ix (pf_v 9) pf_int (fun _ _ => rfl)) (paf_cons (pf_ix ix_seq sem_ix (pf_v 9) pf_int (fun _ _ => rfl)) paf_nil)))))) (psf_one (psf_ret pf_bl)) psf_nil))))))))))))))
  exact (psf_one (psf_ret (pf_cmp (op_eqU hu) sem_eq (pf_call (ok_points_shown C) (hr.mono (by decide)) (by rfl) C.g_points_shown C.F_points_shown.kp C.b_points_shown (paf_cons (pf_tup paf_nil) paf_nil)) pf_str (nomark _))))
end
theorem all_mk {l : PySem.W.OpenLaw} {w : World} {K : PySem.W.Frag} {h : Heap} {mg : Str → Option Value} {fa : Addr} (X : K.In h) (G : h.Ns mainGlobals mg) (hfa : mg "law" = some (.ref fa))
    {od0 an0 : Option Addr} {sl0 : Array (Option Value)} {oc0 kV0 dc0 pm0 cd0 ct0 : Value} {f0 : Addr} {od1 an1 : Option Addr} {sl1 : Array (Option Value)} {oc1 kV1 dc1 pm1 cd1 ct1 : Value} {f1 : Addr} {od2 an2 : Option Addr} {sl2 : Array (Option Value)} {oc2 kV2 dc2 pm2 cd2 ct2 : Value} {f2 : Addr} {od3 an3 : Option Addr} {sl3 : Array (Option Value)} {oc3 kV3 dc3 pm3 cd3 ct3 : Value} {f3 : Addr} {od4 an4 : Option Addr} {sl4 : Array (Option Value)} {oc4 kV4 dc4 pm4 cd4 ct4 : Value} {f4 : Addr} {od5 an5 : Option Addr} {sl5 : Array (Option Value)} {oc5 kV5 dc5 pm5 cd5 ct5 : Value} {f5 : Addr} {od6 an6 : Option Addr} {sl6 : Array (Option Value)} {oc6 kV6 dc6 pm6 cd6 ct6 : Value} {f6 : Addr} {od7 an7 : Option Addr} {sl7 : Array (Option Value)} {oc7 kV7 dc7 pm7 cd7 ct7 : Value} {f7 : Addr} {od8 an8 : Option Addr} {sl8 : Array (Option Value)} {oc8 kV8 dc8 pm8 cd8 ct8 : Value} {f8 : Addr} {od9 an9 : Option Addr} {sl9 : Array (Option Value)} {oc9 kV9 dc9 pm9 cd9 ct9 : Value} {f9 : Addr} {od10 an10 : Option Addr} {sl10 : Array (Option Value)} {oc10 kV10 dc10 pm10 cd10 ct10 : Value} {f10 : Addr} {od11 an11 : Option Addr} {sl11 : Array (Option Value)} {oc11 kV11 dc11 pm11 cd11 ct11 : Value} {f11 : Addr} {od12 an12 : Option Addr} {sl12 : Array (Option Value)} {oc12 kV12 dc12 pm12 cd12 ct12 : Value} {f12 : Addr} {od13 an13 : Option Addr} {sl13 : Array (Option Value)} {oc13 kV13 dc13 pm13 cd13 ct13 : Value} {f13 : Addr} {od14 an14 : Option Addr} {sl14 : Array (Option Value)} {oc14 kV14 dc14 pm14 cd14 ct14 : Value} {f14 : Addr} {od15 an15 : Option Addr} {sl15 : Array (Option Value)} {oc15 kV15 dc15 pm15 cd15 ct15 : Value} {f15 : Addr} {od16 an16 : Option Addr} {sl16 : Array (Option Value)} {oc16 kV16 dc16 pm16 cd16 ct16 : Value} {f16 : Addr} {od17 an17 : Option Addr} {sl17 : Array (Option Value)} {oc17 kV17 dc17 pm17 cd17 ct17 : Value} {f17 : Addr} {od18 an18 : Option Addr} {sl18 : Array (Option Value)} {oc18 kV18 dc18 pm18 cd18 ct18 : Value} {f18 : Addr}
    (a0 : PySem.W.nsIn K mainGlobals "_law_mix" = some (some (.ref f0))) (l0 : K.lookup f0 = some ⟨oc0, od0, .func (PySem.W.fnOf "_law_mix" "_law_mix" (defArgs s_l_mix) (defBody s_l_mix) (defScope s_l_mix) .none kV0 dc0 pm0 an0 cd0 ct0), sl0⟩) (c0 : PySem.W.codeIn K cd0 "_law_mix" = true) (k0 : PySem.W.keepIn K (.ref f0) = true)
    (a1 : PySem.W.nsIn K mainGlobals "_law_next" = some (some (.ref f1))) (l1 : K.lookup f1 = some ⟨oc1, od1, .func (PySem.W.fnOf "_law_next" "_law_next" (defArgs s_l_next) (defBody s_l_next) (defScope s_l_next) .none kV1 dc1 pm1 an1 cd1 ct1), sl1⟩) (c1 : PySem.W.codeIn K cd1 "_law_next" = true) (k1 : PySem.W.keepIn K (.ref f1) = true)
    (a2 : PySem.W.nsIn K mainGlobals "_law_changed" = some (some (.ref f2))) (l2 : K.lookup f2 = some ⟨oc2, od2, .func (PySem.W.fnOf "_law_changed" "_law_changed" (defArgs s_l_changed) (defBody s_l_changed) (defScope s_l_changed) .none kV2 dc2 pm2 an2 cd2 ct2), sl2⟩) (c2 : PySem.W.codeIn K cd2 "_law_changed" = true) (k2 : PySem.W.keepIn K (.ref f2) = true)
    (a3 : PySem.W.nsIn K mainGlobals "_law_deck" = some (some (.ref f3))) (l3 : K.lookup f3 = some ⟨oc3, od3, .func (PySem.W.fnOf "_law_deck" "_law_deck" (defArgs s_l_deck) (defBody s_l_deck) (defScope s_l_deck) .none kV3 dc3 pm3 an3 cd3 ct3), sl3⟩) (c3 : PySem.W.codeIn K cd3 "_law_deck" = true) (k3 : PySem.W.keepIn K (.ref f3) = true)
    (a4 : PySem.W.nsIn K mainGlobals "_law_names" = some (some (.ref f4))) (l4 : K.lookup f4 = some ⟨oc4, od4, .func (PySem.W.fnOf "_law_names" "_law_names" (defArgs s_l_names) (defBody s_l_names) (defScope s_l_names) .none kV4 dc4 pm4 an4 cd4 ct4), sl4⟩) (c4 : PySem.W.codeIn K cd4 "_law_names" = true) (k4 : PySem.W.keepIn K (.ref f4) = true)
    (a5 : PySem.W.nsIn K mainGlobals "_law_number" = some (some (.ref f5))) (l5 : K.lookup f5 = some ⟨oc5, od5, .func (PySem.W.fnOf "_law_number" "_law_number" (defArgs s_l_number) (defBody s_l_number) (defScope s_l_number) .none kV5 dc5 pm5 an5 cd5 ct5), sl5⟩) (c5 : PySem.W.codeIn K cd5 "_law_number" = true) (k5 : PySem.W.keepIn K (.ref f5) = true)
    (a6 : PySem.W.nsIn K mainGlobals "_law_places" = some (some (.ref f6))) (l6 : K.lookup f6 = some ⟨oc6, od6, .func (PySem.W.fnOf "_law_places" "_law_places" (defArgs s_l_places) (defBody s_l_places) (defScope s_l_places) .none kV6 dc6 pm6 an6 cd6 ct6), sl6⟩) (c6 : PySem.W.codeIn K cd6 "_law_places" = true) (k6 : PySem.W.keepIn K (.ref f6) = true)
    (a7 : PySem.W.nsIn K mainGlobals "_law_points" = some (some (.ref f7))) (l7 : K.lookup f7 = some ⟨oc7, od7, .func (PySem.W.fnOf "_law_points" "_law_points" (defArgs s_l_points) (defBody s_l_points) (defScope s_l_points) .none kV7 dc7 pm7 an7 cd7 ct7), sl7⟩) (c7 : PySem.W.codeIn K cd7 "_law_points" = true) (k7 : PySem.W.keepIn K (.ref f7) = true)
    (a8 : PySem.W.nsIn K mainGlobals "_law_figures" = some (some (.ref f8))) (l8 : K.lookup f8 = some ⟨oc8, od8, .func (PySem.W.fnOf "_law_figures" "_law_figures" (defArgs s_l_figures) (defBody s_l_figures) (defScope s_l_figures) .none kV8 dc8 pm8 an8 cd8 ct8), sl8⟩) (c8 : PySem.W.codeIn K cd8 "_law_figures" = true) (k8 : PySem.W.keepIn K (.ref f8) = true)
    (a9 : PySem.W.nsIn K mainGlobals "_law_text" = some (some (.ref f9))) (l9 : K.lookup f9 = some ⟨oc9, od9, .func (PySem.W.fnOf "_law_text" "_law_text" (defArgs s_l_text) (defBody s_l_text) (defScope s_l_text) .none kV9 dc9 pm9 an9 cd9 ct9), sl9⟩) (c9 : PySem.W.codeIn K cd9 "_law_text" = true) (k9 : PySem.W.keepIn K (.ref f9) = true)
    (a10 : PySem.W.nsIn K mainGlobals "lies_below" = some (some (.ref f10))) (l10 : K.lookup f10 = some ⟨oc10, od10, .func (PySem.W.fnOf "lies_below" "lies_below" (defArgs s_lies_below) (defBody s_lies_below) (defScope s_lies_below) .none kV10 dc10 pm10 an10 cd10 ct10), sl10⟩) (c10 : PySem.W.codeIn K cd10 "lies_below" = true) (k10 : PySem.W.keepIn K (.ref f10) = true)
    (a11 : PySem.W.nsIn K mainGlobals "_law_three_right" = some (some (.ref f11))) (l11 : K.lookup f11 = some ⟨oc11, od11, .func (PySem.W.fnOf "_law_three_right" "_law_three_right" (defArgs s_l_three_right) (defBody s_l_three_right) (defScope s_l_three_right) .none kV11 dc11 pm11 an11 cd11 ct11), sl11⟩) (c11 : PySem.W.codeIn K cd11 "_law_three_right" = true) (k11 : PySem.W.keepIn K (.ref f11) = true)
    (a12 : PySem.W.nsIn K mainGlobals "points_shown" = some (some (.ref f12))) (l12 : K.lookup f12 = some ⟨oc12, od12, .func (PySem.W.fnOf "points_shown" "points_shown" (defArgs s_points_shown) (defBody s_points_shown) (defScope s_points_shown) .none kV12 dc12 pm12 an12 cd12 ct12), sl12⟩) (c12 : PySem.W.codeIn K cd12 "points_shown" = true) (k12 : PySem.W.keepIn K (.ref f12) = true)
    (a13 : PySem.W.nsIn K mainGlobals "holds_only" = some (some (.ref f13))) (l13 : K.lookup f13 = some ⟨oc13, od13, .func (PySem.W.fnOf "holds_only" "holds_only" (defArgs s_holds_only) (defBody s_holds_only) (defScope s_holds_only) .none kV13 dc13 pm13 an13 cd13 ct13), sl13⟩) (c13 : PySem.W.codeIn K cd13 "holds_only" = true) (k13 : PySem.W.keepIn K (.ref f13) = true)
    (a14 : PySem.W.nsIn K mainGlobals "is_name" = some (some (.ref f14))) (l14 : K.lookup f14 = some ⟨oc14, od14, .func (PySem.W.fnOf "is_name" "is_name" (defArgs s_is_name) (defBody s_is_name) (defScope s_is_name) .none kV14 dc14 pm14 an14 cd14 ct14), sl14⟩) (c14 : PySem.W.codeIn K cd14 "is_name" = true) (k14 : PySem.W.keepIn K (.ref f14) = true)
    (a15 : PySem.W.nsIn K mainGlobals "is_number" = some (some (.ref f15))) (l15 : K.lookup f15 = some ⟨oc15, od15, .func (PySem.W.fnOf "is_number" "is_number" (defArgs s_is_number) (defBody s_is_number) (defScope s_is_number) .none kV15 dc15 pm15 an15 cd15 ct15), sl15⟩) (c15 : PySem.W.codeIn K cd15 "is_number" = true) (k15 : PySem.W.keepIn K (.ref f15) = true)
    (a16 : PySem.W.nsIn K mainGlobals "point_in" = some (some (.ref f16))) (l16 : K.lookup f16 = some ⟨oc16, od16, .func (PySem.W.fnOf "point_in" "point_in" (defArgs s_point_in) (defBody s_point_in) (defScope s_point_in) .none kV16 dc16 pm16 an16 cd16 ct16), sl16⟩) (c16 : PySem.W.codeIn K cd16 "point_in" = true) (k16 : PySem.W.keepIn K (.ref f16) = true)
    (a17 : PySem.W.nsIn K mainGlobals "read_points" = some (some (.ref f17))) (l17 : K.lookup f17 = some ⟨oc17, od17, .func (PySem.W.fnOf "read_points" "read_points" (defArgs s_read_points) (defBody s_read_points) (defScope s_read_points) .none kV17 dc17 pm17 an17 cd17 ct17), sl17⟩) (c17 : PySem.W.codeIn K cd17 "read_points" = true) (k17 : PySem.W.keepIn K (.ref f17) = true)
    (a18 : PySem.W.nsIn K mainGlobals "law" = some (some (.ref f18))) (l18 : K.lookup f18 = some ⟨oc18, od18, .func (PySem.W.fnOf "law" "law" (defArgs s_law) (defBody s_law) (defScope s_law) .none kV18 dc18 pm18 an18 cd18 ct18), sl18⟩) (c18 : PySem.W.codeIn K cd18 "law" = true) (k18 : PySem.W.keepIn K (.ref f18) = true)
    {tk_FIGURES : Tok} (v_FIGURES : PySem.W.nsIn K mainGlobals "FIGURES" = some (some (.str "0123456789" tk_FIGURES)))
    {tk_LETTERS : Tok} (v_LETTERS : PySem.W.nsIn K mainGlobals "LETTERS" = some (some (.str "abcdefghijklmnopqrstuvwxyz" tk_LETTERS)))
    {tk_LONGEST_NAME : Tok} (v_LONGEST_NAME : PySem.W.nsIn K mainGlobals "LONGEST_NAME" = some (some (.int 8 tk_LONGEST_NAME)))
    (z_abs : PySem.W.nsIn K mainGlobals "abs" = some none)
    (z_all : PySem.W.nsIn K mainGlobals "all" = some none)
    (z_enumerate : PySem.W.nsIn K mainGlobals "enumerate" = some none)
    (z_int : PySem.W.nsIn K mainGlobals "int" = some none)
    (z_isinstance : PySem.W.nsIn K mainGlobals "isinstance" = some none)
    (z_len : PySem.W.nsIn K mainGlobals "len" = some none)
    (z_list : PySem.W.nsIn K mainGlobals "list" = some none)
    (z_max : PySem.W.nsIn K mainGlobals "max" = some none)
    (z_min : PySem.W.nsIn K mainGlobals "min" = some none)
    (z_range : PySem.W.nsIn K mainGlobals "range" = some none)
    (z_str : PySem.W.nsIn K mainGlobals "str" = some none)
    (z_sum : PySem.W.nsIn K mainGlobals "sum" = some none)
    (z_tuple : PySem.W.nsIn K mainGlobals "tuple" = some none)
    (z_zip : PySem.W.nsIn K mainGlobals "zip" = some none) :
    ∃ fd : FuncData, (∀ (s : Shared) (v : Value), BindsTo s fd ⟨[v], []⟩ [("script", v)]) ∧ ∀ base : Heap, K.In base → base.Ns mainGlobals mg → FnOk l.prog w K mg base CX0 6 fa fd ["script"] (spF K 1 m_law) := by
  have e := hfa.symm.trans (PySem.W.mg_of X G a18)
  cases e
  have F0 := fun_mk (st := s_l_mix) l0 c0 k0
  have b0 := F0.binds (ps := ["cell", "k"]) fun _ _ _ _ _ _ us hl => match us, hl with | [_, _], _ => rfl
  have F1 := fun_mk (st := s_l_next) l1 c1 k1
  have b1 := F1.binds (ps := ["deck", "many"]) fun _ _ _ _ _ _ us hl => match us, hl with | [_, _], _ => rfl
  have F2 := fun_mk (st := s_l_changed) l2 c2 k2
  have b2 := F2.binds (ps := ["deck", "points"]) fun _ _ _ _ _ _ us hl => match us, hl with | [_, _], _ => rfl
  have F3 := fun_mk (st := s_l_deck) l3 c3 k3
  have b3 := F3.binds (ps := ["script"]) fun _ _ _ _ _ _ us hl => match us, hl with | [_], _ => rfl
  have F4 := fun_mk (st := s_l_names) l4 c4 k4
  have b4 := F4.binds (ps := ["deck", "many"]) fun _ _ _ _ _ _ us hl => match us, hl with | [_, _], _ => rfl
  have F5 := fun_mk (st := s_l_number) l5 c5 k5
  have b5 := F5.binds (ps := ["deck", "kind"]) fun _ _ _ _ _ _ us hl => match us, hl with | [_, _], _ => rfl
  have F6 := fun_mk (st := s_l_places) l6 c6 k6
  have b6 := F6.binds (ps := ["deck", "most"]) fun _ _ _ _ _ _ us hl => match us, hl with | [_, _], _ => rfl
  have F7 := fun_mk (st := s_l_points) l7 c7 k7
  have b7 := F7.binds (ps := ["deck", "most"]) fun _ _ _ _ _ _ us hl => match us, hl with | [_, _], _ => rfl
  have F8 := fun_mk (st := s_l_figures) l8 c8 k8
  have b8 := F8.binds (ps := ["number"]) fun _ _ _ _ _ _ us hl => match us, hl with | [_], _ => rfl
  have F9 := fun_mk (st := s_l_text) l9 c9 k9
  have b9 := F9.binds (ps := ["points"]) fun _ _ _ _ _ _ us hl => match us, hl with | [_], _ => rfl
  have F10 := fun_mk (st := s_lies_below) l10 c10 k10
  have b10 := F10.binds (ps := ["one", "other"]) fun _ _ _ _ _ _ us hl => match us, hl with | [_, _], _ => rfl
  have F11 := fun_mk (st := s_l_three_right) l11 c11 k11
  have b11 := F11.binds (ps := ["one", "other", "third"]) fun _ _ _ _ _ _ us hl => match us, hl with | [_, _, _], _ => rfl
  have F12 := fun_mk (st := s_points_shown) l12 c12 k12
  have b12 := F12.binds (ps := ["points"]) fun _ _ _ _ _ _ us hl => match us, hl with | [_], _ => rfl
  have F13 := fun_mk (st := s_holds_only) l13 c13 k13
  have b13 := F13.binds (ps := ["word", "signs"]) fun _ _ _ _ _ _ us hl => match us, hl with | [_, _], _ => rfl
  have F14 := fun_mk (st := s_is_name) l14 c14 k14
  have b14 := F14.binds (ps := ["word"]) fun _ _ _ _ _ _ us hl => match us, hl with | [_], _ => rfl
  have F15 := fun_mk (st := s_is_number) l15 c15 k15
  have b15 := F15.binds (ps := ["word"]) fun _ _ _ _ _ _ us hl => match us, hl with | [_], _ => rfl
  have F16 := fun_mk (st := s_point_in) l16 c16 k16
  have b16 := F16.binds (ps := ["line"]) fun _ _ _ _ _ _ us hl => match us, hl with | [_], _ => rfl
  have F17 := fun_mk (st := s_read_points) l17 c17 k17
  have b17 := F17.binds (ps := ["text"]) fun _ _ _ _ _ _ us hl => match us, hl with | [_], _ => rfl
  have F18 := fun_mk (st := s_law) l18 c18 k18
  have b18 := F18.binds (ps := ["script"]) fun _ _ _ _ _ _ us hl => match us, hl with | [_], _ => rfl
  let C : Defs K mg := { f_l_mix := _, d_l_mix := _, F_l_mix := F0, b_l_mix := b0, g_l_mix := PySem.W.mg_of X G a0, f_l_next := _, d_l_next := _, F_l_next := F1, b_l_next := b1, g_l_next := PySem.W.mg_of X G a1, f_l_changed := _, d_l_changed := _, F_l_changed := F2, b_l_changed := b2, g_l_changed := PySem.W.mg_of X G a2, f_l_deck := _, d_l_deck := _, F_l_deck := F3, b_l_deck := b3, g_l_deck := PySem.W.mg_of X G a3, f_l_names := _, d_l_names := _, F_l_names := F4, b_l_names := b4, g_l_names := PySem.W.mg_of X G a4, f_l_number := _, d_l_number := _, F_l_number := F5, b_l_number := b5, g_l_number := PySem.W.mg_of X G a5, f_l_places := _, d_l_places := _, F_l_places := F6, b_l_places := b6, g_l_places := PySem.W.mg_of X G a6, f_l_points := _, d_l_points := _, F_l_points := F7, b_l_points := b7, g_l_points := PySem.W.mg_of X G a7, f_l_figures := _, d_l_figures := _, F_l_figures := F8, b_l_figures := b8, g_l_figures := PySem.W.mg_of X G a8, f_l_text := _, d_l_text := _, F_l_text := F9, b_l_text := b9, g_l_text := PySem.W.mg_of X G a9, f_lies_below := _, d_lies_below := _, F_lies_below := F10, b_lies_below := b10, g_lies_below := PySem.W.mg_of X G a10, f_l_three_right := _, d_l_three_right := _, F_l_three_right := F11, b_l_three_right := b11, g_l_three_right := PySem.W.mg_of X G a11, f_points_shown := _, d_points_shown := _, F_points_shown := F12, b_points_shown := b12, g_points_shown := PySem.W.mg_of X G a12, f_holds_only := _, d_holds_only := _, F_holds_only := F13, b_holds_only := b13, g_holds_only := PySem.W.mg_of X G a13, f_is_name := _, d_is_name := _, F_is_name := F14, b_is_name := b14, g_is_name := PySem.W.mg_of X G a14, f_is_number := _, d_is_number := _, F_is_number := F15, b_is_number := b15, g_is_number := PySem.W.mg_of X G a15, f_point_in := _, d_point_in := _, F_point_in := F16, b_point_in := b16, g_point_in := PySem.W.mg_of X G a16, f_read_points := _, d_read_points := _, F_read_points := F17, b_read_points := b17, g_read_points := PySem.W.mg_of X G a17, f_law := _, d_law := _, F_law := F18, b_law := b18, g_law := PySem.W.mg_of X G a18, v_FIGURES := ⟨_, PySem.W.mg_of X G v_FIGURES⟩, v_LETTERS := ⟨_, PySem.W.mg_of X G v_LETTERS⟩, v_LONGEST_NAME := ⟨_, PySem.W.mg_of X G v_LONGEST_NAME⟩, n_abs := PySem.W.mg_none_of X G z_abs, n_all := PySem.W.mg_none_of X G z_all, n_enumerate := PySem.W.mg_none_of X G z_enumerate, n_int := PySem.W.mg_none_of X G z_int, n_isinstance := PySem.W.mg_none_of X G z_isinstance, n_len := PySem.W.mg_none_of X G z_len, n_list := PySem.W.mg_none_of X G z_list, n_max := PySem.W.mg_none_of X G z_max, n_min := PySem.W.mg_none_of X G z_min, n_range := PySem.W.mg_none_of X G z_range, n_str := PySem.W.mg_none_of X G z_str, n_sum := PySem.W.mg_none_of X G z_sum, n_tuple := PySem.W.mg_none_of X G z_tuple, n_zip := PySem.W.mg_none_of X G z_zip }
  refine ⟨PySem.W.fnOf "law" "law" (defArgs s_law) (defBody s_law) (defScope s_law) .none kV18 dc18 pm18 an18 cd18 ct18, fun s v => .of_eq rfl, fun base _ _ => ?_⟩
  exact ok_law C
theorem walk {l : PySem.W.OpenLaw} {q : Program} {loose : List Str} {XP : (Str → Option Value) → Heap → Prop} {YP : World → Heap → Prop} {d : DefRec} {K : Params → PySem.W.Frag} (hn : l.most = some 63) (hdf : d.params.defaults = [])
    (hY : ∀ (w : World) (h : Heap), YP w h → (K w.params).In h)
    (F : ∀ (w : World) (mg : Str → Option Value) (fa : Addr) (h : Heap), (K w.params).In h → h.Ns mainGlobals mg → mg d.name = some (.ref fa) →
      ∃ fd : FuncData, (∀ (s : Shared) (u : Value), BindsTo s fd ⟨[u], []⟩ [("script", u)]) ∧ ∀ base : Heap, (K w.params).In base → base.Ns mainGlobals mg → FnOk l.prog w (K w.params) mg base CX0 6 fa fd ["script"] (spF (K w.params) 1 m_law)) :
    PySem.W.WalkO q loose XP YP l.row.toRowW d [] (fun f vs => PySem.call f vs) :=
  L2.walk_of (n := 63) (k := 6) (x := "script") (CX := fun _ => CX0) (sp := fun w => spF (K w.params) 1 m_law) hn (by decide) hdf ⟨rfl, by decide, by decide⟩ hY F (fun w H a ns hl ho hS => law_sp ho hS (law_true ns hl)) fun _ _ _ _ _ z => z
end Lw
open PySem PySem.W PyProof.Rows
set_option maxRecDepth 100000 in
set_option maxHeartbeats 0 in
theorem PySem.Challenge.cw_belowpoints_k04_whole_texts_and_places_holds : PySem.Challenge.rw_belowpoints_k04_whole_texts_and_places.Holds := by
  w_on; o_law; k_head; (case hw => w_witness2)
  k_fill
  refine Lw.walk (l := PySem.Challenge.rw_belowpoints_k04_whole_texts_and_places) rfl rfl (fun w h Y => PySem.W.kIn_of Y) ?F
  case F =>
    intro w mg fa h KX G hmg
    refine' Lw.all_mk KX G hmg  ?a0 ?l0 ?c0 ?k0 ?a1 ?l1 ?c1 ?k1 ?a2 ?l2 ?c2 ?k2 ?a3 ?l3 ?c3 ?k3 ?a4 ?l4 ?c4 ?k4 ?a5 ?l5 ?c5 ?k5 ?a6 ?l6 ?c6 ?k6 ?a7 ?l7 ?c7 ?k7 ?a8 ?l8 ?c8 ?k8 ?a9 ?l9 ?c9 ?k9 ?a10 ?l10 ?c10 ?k10 ?a11 ?l11 ?c11 ?k11 ?a12 ?l12 ?c12 ?k12 ?a13 ?l13 ?c13 ?k13 ?a14 ?l14 ?c14 ?k14 ?a15 ?l15 ?c15 ?k15 ?a16 ?l16 ?c16 ?k16 ?a17 ?l17 ?c17 ?k17 ?a18 ?l18 ?c18 ?k18 ?v_FIGURES ?v_LETTERS ?v_LONGEST_NAME ?z_abs ?z_all ?z_enumerate ?z_int ?z_isinstance ?z_len ?z_list ?z_max ?z_min ?z_range ?z_str ?z_sum ?z_tuple ?z_zip
    (case a0 => k_is); (case l0 => k_is); (case c0 => k_is); (case k0 => k_is)
    (case a1 => k_is); (case l1 => k_is); (case c1 => k_is); (case k1 => k_is)
    (case a2 => k_is); (case l2 => k_is); (case c2 => k_is); (case k2 => k_is)
    (case a3 => k_is); (case l3 => k_is); (case c3 => k_is); (case k3 => k_is)
    (case a4 => k_is); (case l4 => k_is); (case c4 => k_is); (case k4 => k_is)
    (case a5 => k_is); (case l5 => k_is); (case c5 => k_is); (case k5 => k_is)
    (case a6 => k_is); (case l6 => k_is); (case c6 => k_is); (case k6 => k_is)
    (case a7 => k_is); (case l7 => k_is); (case c7 => k_is); (case k7 => k_is)
    (case a8 => k_is); (case l8 => k_is); (case c8 => k_is); (case k8 => k_is)
    (case a9 => k_is); (case l9 => k_is); (case c9 => k_is); (case k9 => k_is)
    (case a10 => k_is); (case l10 => k_is); (case c10 => k_is); (case k10 => k_is)
    (case a11 => k_is); (case l11 => k_is); (case c11 => k_is); (case k11 => k_is)
    (case a12 => k_is); (case l12 => k_is); (case c12 => k_is); (case k12 => k_is)
    (case a13 => k_is); (case l13 => k_is); (case c13 => k_is); (case k13 => k_is)
    (case a14 => k_is); (case l14 => k_is); (case c14 => k_is); (case k14 => k_is)
    (case a15 => k_is); (case l15 => k_is); (case c15 => k_is); (case k15 => k_is)
    (case a16 => k_is); (case l16 => k_is); (case c16 => k_is); (case k16 => k_is)
    (case a17 => k_is); (case l17 => k_is); (case c17 => k_is); (case k17 => k_is)
    (case a18 => k_is); (case l18 => k_is); (case c18 => k_is); (case k18 => k_is)
    (case v_FIGURES => k_is)
    (case v_LETTERS => k_is)
    (case v_LONGEST_NAME => k_is)
    (case z_abs => k_is)
    (case z_all => k_is)
    (case z_enumerate => k_is)
    (case z_int => k_is)
    (case z_isinstance => k_is)
    (case z_len => k_is)
    (case z_list => k_is)
    (case z_max => k_is)
    (case z_min => k_is)
    (case z_range => k_is)
    (case z_str => k_is)
    (case z_sum => k_is)
    (case z_tuple => k_is)
    (case z_zip => k_is)

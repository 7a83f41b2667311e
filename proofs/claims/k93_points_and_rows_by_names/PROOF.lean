import PyProof.Rows.All
import Wide.All
import OpenK.AllK
import Wide.FinOn
import Lean
import PyProof.EqAt
import PyProof.EqKinds
import PyProof.TupleCall
import KE.KTurnsDict
import KE.KPairComp
import KE.KDictList
import KE.KSortTup
import KE.KIntText
import PySem.Challenge.RW_belowpoints_k93_points_and_rows_by_names
set_option Elab.async false
set_option linter.all false
set_option maxRecDepth 100000
namespace L2
open PySem PySem.Spec PyProof.Rows
abbrev Key := Sum Int Str
def keyIs : Key → Value → Bool
  | .inl k, v => Value.isInt k v
  | .inr x, v => Value.isStrOf x v
def keyH (w : World) : Key → Int
  | .inl k => hashInt k
  | .inr x => hashStr w x
theorem keyIs_shape : ∀ {k : Key} {v : Value}, keyIs k v = true → (∃ i t, k = Sum.inl i ∧ v = Value.int i t) ∨ (∃ x t, k = Sum.inr x ∧ v = Value.str x t)
  | .inl i, v, h => by
    obtain ⟨t, e⟩ := Value.isInt_shape (k := i) (v := v) h
    exact .inl ⟨i, t, rfl, e⟩
  | .inr x, v, h => by
    obtain ⟨t, e⟩ := Value.isStrOf_shape (x := x) (v := v) h
    exact .inr ⟨x, t, rfl, e⟩
theorem keyIs_int (i : Int) (t : Tok) : keyIs (.inl i) (.int i t) = true := by simp [keyIs, Value.isInt]
theorem keyIs_str (x : Str) (t : Tok) : keyIs (.inr x) (.str x t) = true := by simp [keyIs, Value.isStrOf]
theorem key_ll (a b : Int) : decide ((Sum.inl a : Key) = Sum.inl b) = (a == b) := by
  by_cases e : a = b
  · subst e; simp
  · have h : ¬ (Sum.inl a : Key) = Sum.inl b := fun q => e (Sum.inl.inj q)
    rw [decide_eq_false h]
    exact (beq_eq_false_iff_ne.mpr e).symm
theorem key_rr (a b : Str) : decide ((Sum.inr a : Key) = Sum.inr b) = decide (a = b) := by
  by_cases e : a = b
  · subst e; simp
  · have h : ¬ (Sum.inr a : Key) = Sum.inr b := fun q => e (Sum.inr.inj q)
    rw [decide_eq_false h, decide_eq_false e]
theorem key_lr (a : Int) (b : Str) : decide ((Sum.inl a : Key) = Sum.inr b) = false := decide_eq_false (fun q => nomatch q)
theorem key_rl (a : Str) (b : Int) : decide ((Sum.inr a : Key) = Sum.inl b) = false := decide_eq_false (fun q => nomatch q)
def mixKind (prog : Program) (w : World) : PySem.KeyKind prog w Key where
  is := keyIs
  hash := keyH w
  inj := fun v a b ha hb => by
    rcases keyIs_shape ha with ⟨i, t, rfl, rfl⟩ | ⟨x, t, rfl, rfl⟩
    · rcases keyIs_shape hb with ⟨j, u, rfl, e⟩ | ⟨y, u, rfl, e⟩
      · injection e with e1 _; rw [e1]
      · exact nomatch e
    · rcases keyIs_shape hb with ⟨j, u, rfl, e⟩ | ⟨y, u, rfl, e⟩
      · exact nomatch e
      · injection e with e1 _; rw [e1]
  byValue := fun k v h => by
    rcases keyIs_shape h with ⟨i, t, rfl, rfl⟩ | ⟨x, t, rfl, rfl⟩ <;> rfl
  pyHash := fun hv h => by
    rcases keyIs_shape hv with ⟨i, t, rfl, rfl⟩ | ⟨x, t, rfl, rfl⟩
    · exact wpAny_pyHash_int h
    · exact wpAny_pyHash_str h
  eqBool := fun hu hv h => by
    rcases keyIs_shape hu with ⟨i, t, rfl, rfl⟩ | ⟨x, t, rfl, rfl⟩
    · rcases keyIs_shape hv with ⟨j, u, rfl, rfl⟩ | ⟨y, u, rfl, rfl⟩
      · rw [key_ll] at h; exact wpAny_eqBool_int h
      · rw [key_lr] at h; exact SeqAt.EqAt.int_str i t y u _ _ _ _ h
    · rcases keyIs_shape hv with ⟨j, u, rfl, rfl⟩ | ⟨y, u, rfl, rfl⟩
      · rw [key_rl] at h; exact SeqAt.EqAt.str_int x t j u _ _ _ _ h
      · rw [key_rr] at h; exact wpAny_eqBool_str h
  «strs» := fun k x t v h => by
    rcases keyIs_shape h with ⟨i, u, rfl, e⟩ | ⟨y, u, rfl, e⟩
    · exact nomatch e
    · injection e with e1 _
      subst e1
      cases v <;> rfl
theorem mixKind_int (prog : Program) (w : World) (i : Int) (t : Tok) : (mixKind prog w).is (.inl i) (.int i t) = true := keyIs_int i t
theorem mixKind_str (prog : Program) (w : World) (x : Str) (t : Tok) : (mixKind prog w).is (.inr x) (.str x t) = true := keyIs_str x t
end L2
namespace L2
open PySem PySem.Spec PyProof.Rows
inductive V where
  | non | bl (b : Bool) | int (i : Int) | str (x : Str) | byt (b : Array UInt8) | flt (b : UInt64) | ref (a : Addr) | ty (n : String)
  deriving DecidableEq
def RelV : V → Value → Prop
  | .non, u => u = Value.none
  | .bl b, u => u = Value.bool b
  | .int i, u => ∃ t, u = Value.int i t
  | .str x, u => ∃ t, u = Value.str x t
  | .byt b, u => ∃ t, u = Value.bytes b t
  | .flt b, u => ∃ t, u = Value.float b t
  | .ref a, u => u = Value.ref a
  | .ty n, u => u = Value.type n
abbrev Vals : List V → List Value → Prop := Paired RelV
theorem Vals.length {xs : List V} {us : List Value} (r : Vals xs us) : xs.length = us.length := Paired.length r
theorem Vals.get : ∀ {xs : List V} {us : List Value} {i : Nat} {x : V}, Vals xs us → xs[i]? = some x → ∃ u, us[i]? = some u ∧ RelV x u
  | _, _, _, _, .nil, e => by simp at e
  | _, _, 0, _, .cons r _, e => by simp at e; subst e; exact ⟨_, rfl, r⟩
  | _, _, i + 1, x, .cons _ t, e => by
    obtain ⟨u, h1, h2⟩ := Vals.get (i := i) (x := x) t (by simpa using e)
    exact ⟨u, by simpa using h1, h2⟩
theorem Vals.set {x : V} {u : Value} (r : RelV x u) : ∀ {xs : List V} {us : List Value} (i : Nat), Vals xs us → Vals (xs.set i x) (us.set i u)
  | _, _, _, .nil => .nil
  | _, _, 0, .cons _ t => .cons r t
  | _, _, i + 1, .cons q t => .cons q (Vals.set r i t)
theorem Vals.append : ∀ {xs ys : List V} {us ws : List Value}, Vals xs us → Vals ys ws → Vals (xs ++ ys) (us ++ ws)
  | _, _, _, _, .nil, s => s
  | _, _, _, _, .cons r t, s => .cons r (Vals.append t s)
theorem Vals.take : ∀ {xs : List V} {us : List Value} (n : Nat), Vals xs us → Vals (xs.take n) (us.take n)
  | _, _, 0, _ => .nil
  | _, _, _ + 1, .nil => .nil
  | _, _, n + 1, .cons r t => .cons r (Vals.take n t)
theorem Vals.drop : ∀ {xs : List V} {us : List Value} (n : Nat), Vals xs us → Vals (xs.drop n) (us.drop n)
  | _, _, 0, r => r
  | _, _, _ + 1, .nil => .nil
  | _, _, n + 1, .cons _ t => Vals.drop n t
def RelO : Option V → Option Value → Prop
  | some v, some u => RelV v u
  | none, none => True
  | _, _ => False
def KV {κ : Type} : List (κ × V) → List (κ × Value) → Prop := Paired fun (p : κ × V) (q : κ × Value) => p.1 = q.1 ∧ RelV p.2 q.2
def kV : Key → V
  | .inl i => .int i
  | .inr x => .str x
inductive HO where
  | lst (xs : List V)
  | tup (xs : List V)
  | dK (kvs : List (Key × V)) | dT (kvs : List (List Key × V))
  | set (S : Int → Bool) (n : Nat)
  | ins (C dx : Addr) (fs : List (Str × V))
  | own (x : Addr)
  | xd (fs : List (Str × V))
  | met (f x : Addr)
  | rng (lo hi : Int)
  | frz (o : Obj) (u : HO)
  | tbl (ps : Array Value)
  | ext (φ : Heap → Prop)
abbrev Hp := Addr → Option HO
def upd (H : Hp) (a : Addr) (o : HO) : Hp := fun b => if b = a then some o else H b
theorem upd_same {H : Hp} {a : Addr} {o : HO} : upd H a o a = some o := by unfold upd; rw [if_pos rfl]
theorem upd_ne {H : Hp} {a b : Addr} {o : HO} (h : b ≠ a) : upd H a o b = H b := by unfold upd; rw [if_neg h]
theorem ne_of {H : Hp} {a b : Addr} {o u : HO} (h : H a = some o) (h' : H b = some u) (d : o ≠ u) : a ≠ b := by
  intro e; subst e; rw [h] at h'; exact d (Option.some.inj h')
theorem ne_of_none {H : Hp} {a b : Addr} {o : HO} (h : H a = some o) (h' : H b = none) : a ≠ b := by
  intro e; subst e; rw [h] at h'; cases h'
section
variable (P : Program) (w : World)
def ObjOk (H : Hp) (h : Heap) (a : Addr) : HO → Prop
  | .lst xs => xs.length ≤ sizeLine ∧ ∃ (its : List Value) (n : Nat), Vals xs its ∧ h.get? a = some { cls := .type "list", data := .seq its.toArray n }
  | .tup xs => xs.length ≤ sizeLine ∧ ∃ its : List Value, Vals xs its ∧ IsTup h a its.toArray
  | .dK kvs => kvs.length ≤ sizeLine ∧ (a == sysModules) = false ∧ ∃ vs, KV kvs vs ∧ h.DictOf (mixKind P w) a vs
  | .dT kvs => kvs.length ≤ sizeLine ∧ (a == sysModules) = false ∧ ∃ xs : List (List Key × Addr × Value),
      Paired (fun (p : List Key × V) (q : List Key × Addr × Value) => p.1 = q.1 ∧ H q.2.1 = some (.tup (p.1.map kV)) ∧ RelV p.2 q.2.2) kvs xs ∧
      ∃ o es ep, h.get? a = some o ∧ o.ExactDict ∧ o.data = .dict es ep ∧ es.toList = xs.map (entryOfKey (tupleKind (mixKind P w))) ∧ (xs.map (·.1)).Nodup
  | .set S n => h.SetOf (intKind P w) a S n
  | .ins C dx fs => H dx = some (.own a) ∧ fs.length ≤ 1000 ∧ dx ≠ a ∧ h.get? a = some (PySem.W.instObj C dx) ∧
      ∃ mA, h.Ns1 dx mA ∧ (∀ f, RelO (fs.lookup f) (mA f)) ∧ PySem.Within mA (fs.map (·.1))
  | .own _ => ∃ o, h.get? a = some o
  | .xd fs => ∃ mA, h.Ns1 a mA ∧ ∀ f, RelO (fs.lookup f) (mA f)
  | .rng lo hi => ∃ t u v, h.get? a = some { cls := .type "range", data := .fields #[.int lo t, .int hi u, .int 1 v] }
  | .frz o u => h.get? a = some o ∧ ObjOk H h a u
  | .tbl ps => h.get? a = some { cls := .none, data := .fields ps }
  | .met f x => h.get? a = some (PySem.W.methodObj (.ref f) (.ref x))
  | .ext φ => φ h ∧ (∃ o, h.get? a = some o) ∧ ∀ h1 h2 : Heap, φ h1 → (∀ o, h1.get? a = some o → h2.get? a = some o) → φ h2
def HOk (H : Hp) (h : Heap) : Prop := ∀ a o, H a = some o → ObjOk P w H h a o
end
section
variable {P : Program} {w : World} {H H' : Hp} {h h' : Heap} {a : Addr} {o : HO}
theorem ObjOk.lt (x : ObjOk P w H h a o) : a < h.objs.size := by
  cases o with
  | lst xs => obtain ⟨_, _, _, _, e⟩ := x; exact Heap.lt_size e
  | tup xs => obtain ⟨_, _, _, p⟩ := x; exact p.lt
  | dK kvs => obtain ⟨_, _, _, _, o, _, _, e, _⟩ := x; exact Heap.lt_size e
  | dT kvs => obtain ⟨_, _, _, _, o, _, _, e, _⟩ := x; exact Heap.lt_size e
  | set S n => obtain ⟨o, _, _, _, e, _⟩ := x; exact Heap.lt_size e
  | ins C dx fs => obtain ⟨_, _, _, e, _⟩ := x; exact Heap.lt_size e
  | own y => obtain ⟨_, e⟩ := x; exact Heap.lt_size e
  | xd fs => obtain ⟨_, ⟨_, _, _, e, _⟩, _⟩ := x; exact Heap.lt_size e
  | rng lo hi => obtain ⟨_, _, _, e⟩ := x; exact Heap.lt_size e
  | frz ob u => obtain ⟨e, _⟩ := x; exact Heap.lt_size e
  | tbl ps => exact Heap.lt_size (show h.get? a = some _ from x)
  | met f y => exact Heap.lt_size (show h.get? a = some _ from x)
  | ext φ => obtain ⟨_, ⟨_, e⟩, _⟩ := x; exact Heap.lt_size e
theorem Paired.mapP {α β : Type} {F G : α → β → Prop} : ∀ {l₁ : List α} {l₂ : List β}, Paired F l₁ l₂ → (∀ a b, F a b → G a b) → Paired G l₁ l₂
  | _, _, .nil, _ => .nil
  | _, _, .cons r t, f => .cons (f _ _ r) (Paired.mapP t f)
theorem ObjOk.stay (x : ObjOk P w H h a o) (k : ∀ b u, (b = a ∨ H b = some (.own a)) → h.get? b = some u → h'.get? b = some u)
    (ho : ∀ b, H b = some (.own a) → H' b = some (.own a)) (ht : ∀ b xs, H b = some (.tup xs) → H' b = some (.tup xs)) : ObjOk P w H' h' a o := by
  induction o with
  | lst xs => obtain ⟨z, its, n, r, e⟩ := x; exact ⟨z, its, n, r, k _ _ (.inl rfl) e⟩
  | tup xs => obtain ⟨z, its, r, ob, e, c⟩ := x; exact ⟨z, its, r, ob, k _ _ (.inl rfl) e, c⟩
  | dK kvs => obtain ⟨z, y, vs, r, ob, es, ep, e, c⟩ := x; exact ⟨z, y, vs, r, ob, es, ep, k _ _ (.inl rfl) e, c⟩
  | dT kvs =>
    obtain ⟨z, y, xs, r, ob, es, ep, e, c⟩ := x
    exact ⟨z, y, xs, Paired.mapP r fun p q z => ⟨z.1, ht _ _ z.2.1, z.2.2⟩, ob, es, ep, k _ _ (.inl rfl) e, c⟩
  | set S n => obtain ⟨ob, es, ep, t, e, c⟩ := x; exact ⟨ob, es, ep, t, k _ _ (.inl rfl) e, c⟩
  | ins C dx fs =>
    obtain ⟨d, z, ne, e, mA, ⟨od, es, ep, e2, c⟩, r⟩ := x
    exact ⟨ho _ d, z, ne, k _ _ (.inl rfl) e, mA, ⟨od, es, ep, k _ _ (.inr d) e2, c⟩, r⟩
  | own y => obtain ⟨ob, e⟩ := x; exact ⟨ob, k _ _ (.inl rfl) e⟩
  | xd fs => obtain ⟨mA, ⟨od, es, ep, e, c⟩, r⟩ := x; exact ⟨mA, ⟨od, es, ep, k _ _ (.inl rfl) e, c⟩, r⟩
  | rng lo hi => obtain ⟨t, u, v, e⟩ := x; exact ⟨t, u, v, k _ _ (.inl rfl) e⟩
  | frz ob u ih => obtain ⟨e, q⟩ := x; exact ⟨k _ _ (.inl rfl) e, ih q⟩
  | tbl ps =>
    have e : h.get? a = some { cls := .none, data := .fields ps } := x
    show h'.get? a = some { cls := .none, data := .fields ps }
    exact k a _ (.inl rfl) e
  | met f y =>
    have e : h.get? a = some (PySem.W.methodObj (.ref f) (.ref y)) := x
    show h'.get? a = some (PySem.W.methodObj (.ref f) (.ref y))
    exact k a _ (.inl rfl) e
  | ext φ => obtain ⟨p, ⟨o, e⟩, st⟩ := x; exact ⟨st _ _ p fun o q => k _ _ (.inl rfl) q, ⟨o, k _ _ (.inl rfl) e⟩, st⟩
theorem HOk.lt (x : HOk P w H h) (e : H a = some o) : a < h.objs.size := (x a o e).lt
theorem HOk.fresh (x : HOk P w H h) (e : h.objs.size ≤ a) : H a = none := by
  cases q : H a with
  | none => rfl
  | some u => exact absurd (Nat.lt_of_lt_of_le (x.lt q) e) (Nat.lt_irrefl _)
theorem HOk.kept (x : HOk P w H h) (k : ∀ b u, h.get? b = some u → h'.get? b = some u) : HOk P w H h' := fun a o e =>
  (x a o e).stay (fun b u _ q => k b u q) (fun _ q => q) fun _ _ q => q
theorem HOk.laid (x : HOk P w H h) (k : ∀ b u, h.get? b = some u → h'.get? b = some u) (hp : h.objs.size ≤ a) (new : ObjOk P w (upd H a o) h' a o) : HOk P w (upd H a o) h' := fun b u e => by
  have hn := x.fresh hp
  by_cases hb : b = a
  · subst hb; rw [upd_same] at e; cases e; exact new
  · rw [upd_ne hb] at e
    exact (x b u e).stay (fun c v _ q => k c v q) (fun c q => by rw [upd_ne (ne_of_none q hn)]; exact q) fun c xs q => by rw [upd_ne (ne_of_none q hn)]; exact q
end
def Rd (H : Hp) (a : Addr) (u : HO) : Prop := H a = some u ∨ ∃ o, H a = some (.frz o u)
theorem Rd.of {H : Hp} {a : Addr} {u : HO} (h : H a = some u) : Rd H a u := .inl h
theorem Rd.ok {P : Program} {w : World} {H : Hp} {h : Heap} {a : Addr} {u : HO} (r : Rd H a u) (x : HOk P w H h) : ObjOk P w H h a u := by
  rcases r with r | ⟨o, r⟩
  · exact x a u r
  · obtain ⟨_, q⟩ := x a _ r
    exact q
def Mut : Option HO → Prop
  | some (.lst _) => True
  | some (.dK _) => True
  | some (.dT _) => True
  | some (.set _ _) => True
  | some (.ins _ _ _) => True
  | some (.ext _) => True
  | _ => False
section
variable {P : Program} {w : World} {H : Hp} {h h' : Heap} {x e : Addr} {o' : HO}
theorem HOk.write (ok : HOk P w H h) (mu : Mut (H x)) (he : e = x ∨ H e = some (.own x)) (k : ∀ b u, b ≠ e → h.get? b = some u → h'.get? b = some u) (heo : ∃ u, h'.get? e = some u)
    (new : ObjOk P w (upd H x o') h' x o') : HOk P w (upd H x o') h' := fun b u q => by
  have nown : ∀ c y, H c = some (.own y) → c ≠ x := fun c y r z => by subst z; rw [r] at mu; exact mu
  have ntup : ∀ c xs, H c = some (.tup xs) → c ≠ x := fun c xs r z => by subst z; rw [r] at mu; exact mu
  by_cases hb : b = x
  · subst hb; rw [upd_same] at q; cases q; exact new
  · rw [upd_ne hb] at q
    by_cases hbe : b = e
    · have q' : H b = some (.own x) := by
        rcases he with z | z
        · exact absurd (hbe.trans z) hb
        · rw [hbe]; exact z
      rw [q] at q'; cases q'
      obtain ⟨v, hv⟩ := heo
      exact ⟨v, by rw [hbe]; exact hv⟩
    · refine (ok b u q).stay (fun c v hc r => k c v ?_ r) (fun c r => by rw [upd_ne (nown c b r)]; exact r) fun c xs r => by rw [upd_ne (ntup c xs r)]; exact r
      rcases hc with rfl | hc
      · exact hbe
      · rintro rfl
        rcases he with z | z
        · exact nown c b hc z
        · rw [hc] at z; cases z; exact hb rfl
end
structure Un (fs ex : List Addr) (H H' : Hp) (h h' : Heap) : Prop where
  keep : ∀ b o, h.get? b = some o → H b = none → b ∉ fs → b ∉ ex → h'.get? b = some o
  slot : ∀ b o, h.get? b = some o → H b = none → b ∈ fs → b ∉ ex → ∃ sl, h'.get? b = some { o with slots := sl }
  free : ∀ b o, h.get? b = some o → H b = none → b ∉ ex → H' b = none
  there : ∀ b o, h.get? b = some o → b ∉ ex → ∃ o', h'.get? b = some o'
  tups : ∀ b xs, H b = some (.tup xs) → H' b = some (.tup xs)
  frzs : ∀ b o u, H b = some (.frz o u) → H' b = some (.frz o u)
  tbls : ∀ b ps, H b = some (.tbl ps) → ∃ more, H' b = some (.tbl (ps ++ more))
section
variable {fs fs' ex ex' : List Addr} {H H1 H2 : Hp} {h h1 h2 h' : Heap} {a x e : Addr} {o : HO}
theorem Un.any (u : Un fs ex H H1 h h1) {b : Addr} {ob : Obj} (q : h.get? b = some ob) (n : H b = none) (hx : b ∉ ex) : ∃ sl, h1.get? b = some { ob with slots := sl } := by
  by_cases hb : b ∈ fs
  · exact u.slot b ob q n hb hx
  · exact ⟨ob.slots, u.keep b ob q n hb hx⟩
theorem Un.trans (a : Un fs ex H H1 h h1) (b : Un fs ex H1 H2 h1 h2) : Un fs ex H H2 h h2 where
  keep := fun c ob q n hc hx => b.keep c ob (a.keep c ob q n hc hx) (a.free c ob q n hx) hc hx
  slot := fun c ob q n hc hx => by
    obtain ⟨sl, e1⟩ := a.slot c ob q n hc hx
    obtain ⟨sl', e2⟩ := b.slot c _ e1 (a.free c ob q n hx) hc hx
    exact ⟨sl', e2⟩
  free := fun c ob q n hx => by
    obtain ⟨o', e1⟩ := a.there c ob q hx
    exact b.free c o' e1 (a.free c ob q n hx) hx
  there := fun c ob q hx => by
    obtain ⟨o', e1⟩ := a.there c ob q hx
    exact b.there c o' e1 hx
  tups := fun c xs q => b.tups c xs (a.tups c xs q)
  frzs := fun c ob xs q => b.frzs c ob xs (a.frzs c ob xs q)
  tbls := fun c ps q => by
    obtain ⟨m1, e1⟩ := a.tbls c ps q
    obtain ⟨m2, e2⟩ := b.tbls c _ e1
    exact ⟨m1 ++ m2, by rw [e2, Array.append_assoc]⟩
theorem Un.kept (k : ∀ b u, h.get? b = some u → h'.get? b = some u) : Un fs ex H H h h' :=
  ⟨fun b ob q _ _ _ => k b ob q, fun b ob q _ _ _ => ⟨ob.slots, k b ob q⟩, fun _ _ _ n _ => n, fun b ob q _ => ⟨ob, k b ob q⟩, fun _ _ q => q, fun _ _ _ q => q, fun _ ps q => ⟨#[], by rw [q]; simp⟩⟩
theorem Un.refl : Un fs ex H H h h := Un.kept fun _ _ q => q
theorem Un.laid (k : ∀ b u, h.get? b = some u → h'.get? b = some u) (hp : h.objs.size ≤ a) (hn : H a = none) : Un fs ex H (upd H a o) h h' where
  keep := fun b u q _ _ _ => k b u q
  slot := fun b u q _ _ _ => ⟨u.slots, k b u q⟩
  free := fun b u q n _ => by rw [upd_ne (Nat.ne_of_lt (Nat.lt_of_lt_of_le (Heap.lt_size q) hp))]; exact n
  there := fun b u q _ => ⟨u, k b u q⟩
  tups := fun b xs q => by rw [upd_ne (ne_of_none q hn)]; exact q
  frzs := fun b u xs q => by rw [upd_ne (ne_of_none q hn)]; exact q
  tbls := fun b ps q => ⟨#[], by rw [upd_ne (ne_of_none q hn), q]; simp⟩
theorem Un.write (mu : Mut (H x)) (he : e = x ∨ H e = some (.own x)) (k : ∀ b u, b ≠ e → h.get? b = some u → h'.get? b = some u) (heo : ∃ u, h'.get? e = some u) : Un fs ex H (upd H x o) h h' := by
  have hx : ∀ b, H b = none → b ≠ x := fun b n z => by subst z; rw [n] at mu; exact mu
  have hb : ∀ b, H b = none → b ≠ e := fun b n z => by
    subst z
    rcases he with r | r
    · exact hx b n r
    · rw [n] at r; cases r
  have hm : ∀ b u, H b = some u → ¬ Mut (some u) → b ≠ x := fun b u q nm z => by subst z; rw [q] at mu; exact nm mu
  refine ⟨fun b u q n _ _ => k b u (hb b n) q, fun b u q n _ _ => ⟨u.slots, k b u (hb b n) q⟩, fun b u q n _ => by rw [upd_ne (hx b n)]; exact n, fun b u q _ => ?_,
    fun b xs q => by rw [upd_ne (hm b _ q fun z => z)]; exact q, fun b u xs q => by rw [upd_ne (hm b _ q fun z => z)]; exact q, fun b ps q => ⟨#[], by rw [upd_ne (hm b _ q fun z => z), q]; simp⟩⟩
  by_cases hbe : b = e
  · subst hbe; exact heo
  · exact ⟨u, k b u hbe q⟩
theorem Un.mono (u : Un fs ex H H1 h h1) (hs : ∀ b ∈ fs, b ∈ fs') (hx : ∀ b ∈ ex, b ∈ ex') : Un fs' ex' H H1 h h1 :=
  ⟨fun b ob q n hb he => u.keep b ob q n (fun z => hb (hs b z)) fun z => he (hx b z), fun _ _ q n _ he => u.any q n fun z => he (hx _ z), fun b ob q n he => u.free b ob q n fun z => he (hx b z), fun b ob q he => u.there b ob q fun z => he (hx b z), u.tups, u.frzs, u.tbls⟩
end
def trk (h : Heap) (H : Hp) : List Addr := (List.range h.objs.size).filter fun a => (H a).isSome
def hidT (h : Heap) (H : Hp) : Heap := PySem.W.hideAll h (trk h H)
theorem hidT_size (h : Heap) (H : Hp) : (hidT h H).objs.size = h.objs.size := PySem.W.hideAll_size _ _
theorem hidT_get {h : Heap} {H : Hp} {b : Addr} {o : Obj} (e : h.get? b = some o) (n : H b = none) : (hidT h H).get? b = some o :=
  PySem.W.hideAll_get _ e fun hm => by
    have q : (H b).isSome = true := (List.mem_filter.mp hm).2
    rw [n] at q; simp at q
theorem of_hidT {h : Heap} {H : Hp} {b : Addr} {o : Obj} (e : (hidT h H).get? b = some o) : h.get? b = some o ∧ H b = none := by
  have e' : h.get? b = some o := PySem.W.of_hideAll (trk h H) e
  refine ⟨e', ?_⟩
  cases q : H b with
  | none => rfl
  | some x =>
    have hm : b ∈ trk h H := List.mem_filter.mpr ⟨List.mem_range.mpr (Heap.lt_size e'), by simp [q]⟩
    have z : (hidT h H).get? b = none := PySem.W.hideAll_none (trk h H) hm
    rw [z] at e; cases e
def allNews (g h : Heap) (L : Addr) : List (Addr × Obj) := (List.range h.objs.size).filterMap fun a => if a = L ∨ (g.get? a).isSome = true then none else (h.get? a).map fun o => (a, o)
def rest (g h : Heap) (L d : Addr) : List (Addr × Obj) := (allNews g h L).filter fun p => decide (p.1 ≠ d)
end L2
namespace L2
open PySem PySem.Spec PyProof.Rows
structure Mod (K : PySem.W.Frag) (mg : Str → Option Value) (base : Heap) : Prop where
  kin : K.In base
  glob : base.Ns mainGlobals mg
  blt : ∃ mb, base.Ns builtinsNs mb ∧ ∀ x : Str, x ≠ "__name__" → mb x = bootBuiltins x
  nolimit : base.NoLimit
structure Cx where
  prog : Program
  w : World
  K : PySem.W.Frag
  mg : Str → Option Value
  base : Heap
  A : Around
  N : List Str
  s₀ : Shared
  H₀ : Hp
  env : Env
  outer : List Env
  stack : List Env
  ex : List Addr
  fn : Str → Bool
  calm : Bool
  pn : List (Addr × Obj)
  xe : Value → Shared → Prop
def frs (l : List Env) : List Addr := l.filterMap (·.frame)
abbrev Cx.fs (X : Cx) : List Addr := frs X.outer
def Vis (sc : Scope) (x : Str) : Prop := sc.names.lookup x = some .local ∨ sc.names.lookup x = some .cell ∨ sc.names.lookup x = some .free
def Loc (sc : Scope) (x : Str) : Prop := sc.names.lookup x = some .local ∨ sc.names.lookup x = some .cell
def Look (env : Env) (h : Heap) (m : Str → Option Value) (x : Str) (u : Value) : Prop :=
  (env.kindOf x = some .local ∧ m x = some u) ∨ ((env.kindOf x = some .cell ∨ env.kindOf x = some .free) ∧ ∃ c, env.cells.lookup x = some c ∧ h.IsCell c (some u))
structure Cx.Ok (X : Cx) : Prop where
  mod : Mod X.K X.mg X.base
  kind : X.env.scope.kind = .function
  glob : X.env.globals = mainGlobals
  blt : X.env.builtins = builtinsNs
  above : X.s₀.heap.objs.size ≤ X.env.locals
  inj : ∀ x y c, X.env.cells.lookup x = some c → X.env.cells.lookup y = some c → x = y
  has : ∀ x, (X.env.kindOf x = some .cell ∨ X.env.kindOf x = some .free) → ∃ c, X.env.cells.lookup x = some c
  cab : ∀ x c, X.fn x = true → X.env.cells.lookup x = some c → X.s₀.heap.objs.size ≤ c
  hd : X.calm = true → X.A.handled = none
  frames : X.A.frames = some X.stack
  stk : X.stack = X.outer ∨ (X.stack = X.env :: X.outer ∧ X.env.frame = some X.env.locals)
  exf : ∀ b ∈ X.ex, b ≠ X.env.locals ∧ ∀ x c, X.env.cells.lookup x = some c → c ≠ b
  bs : ∀ b o, X.base.get? b = some o → X.s₀.heap.get? b = some o ∧ X.H₀ b = none
  bsz : X.base.objs.size ≤ X.s₀.heap.objs.size
  noex : ∀ b o, X.base.get? b = some o → b ∉ X.ex
  exfs : ∀ b ∈ X.ex, b ∉ X.fs
  funs : X.s₀.heap.FunFrames X.base X.outer
  frf : ∀ b ∈ X.fs, X.H₀ b = none
structure Inv (X : Cx) (pins : List (Addr × Obj)) (σ : List (Option V)) (H : Hp) (s : Shared) : Prop where
  ok : X.Ok
  os : s.os = X.s₀.os
  bare : AllBare s.gens
  base : Un X.fs X.ex X.H₀ H X.s₀.heap s.heap
  loc : ∃ m, s.heap.Ns X.env.locals m ∧ ∀ (i : Nat) (x : Str) (v : V), X.N[i]? = some x → σ[i]? = some (some v) → Vis X.env.scope x → ∃ u, RelV v u ∧ Look X.env s.heap m x u
  cell : ∀ x c, X.env.cells.lookup x = some c → ∃ v, s.heap.IsCell c v
  free : H X.env.locals = none
  freeC : ∀ x c, X.env.cells.lookup x = some c → H c = none
  pin : ∀ p ∈ X.pn ++ pins, s.heap.get? p.1 = some p.2 ∧ H p.1 = none ∧ p.1 ≠ X.env.locals ∧ p.1 ∉ X.fs ∧ ∀ v, p.2.data ≠ .cell v
  hok : HOk X.prog X.w H s.heap
  len : σ.length = X.N.length
section
variable {X : Cx} {pins : List (Addr × Obj)} {σ : List (Option V)} {H H' : Hp} {s : Shared} {h' : Heap}
theorem Cx.Ok.nofr (ok : X.Ok) {b : Addr} {o : Obj} (e : X.base.get? b = some o) : b ∉ X.fs := fun hb => by
  have := (ok.funs.mem hb).1
  rw [e] at this; cases this
theorem Inv.bs (I : Inv X pins σ H s) : ∀ b o, X.base.get? b = some o → s.heap.get? b = some o ∧ H b = none := fun b o e =>
  ⟨I.base.keep b o (I.ok.bs b o e).1 (I.ok.bs b o e).2 (I.ok.nofr e) (I.ok.noex b o e), I.base.free b o (I.ok.bs b o e).1 (I.ok.bs b o e).2 (I.ok.noex b o e)⟩
theorem Inv.bk (I : Inv X pins σ H s) : ∀ b o, X.base.get? b = some o → s.heap.get? b = some o := fun b o e => (I.bs b o e).1
theorem Inv.mod (I : Inv X pins σ H s) : Mod X.K X.mg X.base := I.ok.mod
theorem Inv.kIn (I : Inv X pins σ H s) : X.K.In s.heap := I.ok.mod.kin.keeps I.bk
theorem Inv.nolimit (I : Inv X pins σ H s) : s.heap.NoLimit := I.ok.mod.nolimit.keeps I.bk
theorem Inv.fr (I : Inv X pins σ H s) : ∃ m, Fr X.base X.env.locals s.heap m :=
  let ⟨m, hn, _⟩ := I.loc
  ⟨m, hn, I.bk, Nat.le_trans I.ok.bsz I.ok.above⟩
theorem Inv.lt (I : Inv X pins σ H s) : X.env.locals < s.heap.objs.size := let ⟨_, hn, _⟩ := I.loc; hn.lt
theorem Inv.sz (I : Inv X pins σ H s) : X.s₀.heap.objs.size ≤ s.heap.objs.size := Nat.le_trans I.ok.above (Nat.le_of_lt I.lt)
theorem Inv.nofs (I : Inv X pins σ H s) {a : Addr} (h : s.heap.objs.size ≤ a) : a ∉ X.fs := fun hb => by
  obtain ⟨_, o, ho, _⟩ := I.ok.funs.mem hb
  exact absurd (Nat.lt_of_lt_of_le (Heap.lt_size ho) (Nat.le_trans I.sz h)) (Nat.lt_irrefl _)
theorem Inv.cne (I : Inv X pins σ H s) : ∀ x c, X.env.cells.lookup x = some c → c ≠ X.env.locals := fun x c e z => by
  obtain ⟨v, o, ho, hd⟩ := I.cell x c e
  obtain ⟨m, ⟨o', es, ep, ho', hd', _⟩, _⟩ := I.loc
  rw [z, ho'] at ho; cases ho; rw [hd'] at hd; cases hd
theorem Inv.funs (I : Inv X pins σ H s) : s.heap.FunFrames X.base X.outer := by
  have all : ∀ (l : List Env), (∀ b ∈ frs l, b ∈ X.fs) → X.s₀.heap.FunFrames X.base l → s.heap.FunFrames X.base l := by
    intro l
    induction l with
    | nil => intro _ _; trivial
    | cons env r ih =>
      intro hs hl
      obtain ⟨hk, ⟨L, o, hf, hn, ho, hd⟩, hr⟩ := hl
      have hL : L ∈ X.fs := hs L (by unfold frs; rw [List.filterMap_cons, hf]; exact List.mem_cons_self)
      obtain ⟨sl, e⟩ := I.base.slot L o ho (I.ok.frf L hL) hL fun z => I.ok.exfs L z hL
      exact ⟨hk, ⟨L, _, hf, hn, e, hd⟩, ih (fun b hb => hs b (by unfold frs; rw [List.filterMap_cons, hf]; exact List.mem_cons_of_mem _ hb)) hr⟩
  exact all X.outer (fun _ hb => hb) I.ok.funs
theorem Inv.stack (I : Inv X pins σ H s) : s.heap.FunFrames X.base X.stack := by
  rcases I.ok.stk with e | ⟨e, hf⟩
  · rw [e]; exact I.funs
  · rw [e]
    obtain ⟨m, hn, _⟩ := I.loc
    refine .cons (by rw [I.ok.kind]; decide) hf hn ?_ I.funs
    exact Heap.get?_none_of_le (Nat.le_trans I.ok.bsz I.ok.above)
theorem Inv.stkSub (I : Inv X pins σ H s) : ∀ b ∈ frs X.stack, b ∈ X.env.locals :: X.fs := fun b hb => by
  rcases I.ok.stk with e | ⟨e, hf⟩
  · rw [e] at hb; exact List.mem_cons_of_mem _ hb
  · rw [e] at hb
    unfold frs at hb
    rw [List.filterMap_cons, hf] at hb
    exact hb
theorem Inv.stkFree (I : Inv X pins σ H s) : ∀ b ∈ frs X.stack, H b = none := fun b hb => by
  rcases List.mem_cons.mp (I.stkSub b hb) with e | hb
  · rw [e]; exact I.free
  · obtain ⟨_, o, ho, _⟩ := I.ok.funs.mem hb
    exact I.base.free b o ho (I.ok.frf b hb) fun z => I.ok.exfs b z hb
theorem Inv.step {g' : Array GenState} {t' : Nat} {d' : Drawn} {ch : List Addr} (I : Inv X pins σ H s)
    (hch : ∀ b ∈ ch, (b ∈ X.ex ∨ X.s₀.heap.objs.size ≤ b) ∧ b ≠ X.env.locals ∧ (∀ x c, X.env.cells.lookup x = some c → c ≠ b) ∧ ∀ p ∈ X.pn ++ pins, p.1 ≠ b)
    (keep : ∀ b o, b ≠ X.env.locals → b ∉ X.fs → b ∉ ch → s.heap.get? b = some o → H b = none → h'.get? b = some o)
    (slot : ∀ b o, b ≠ X.env.locals → b ∈ X.fs → b ∉ ch → s.heap.get? b = some o → H b = none → ∃ sl, h'.get? b = some { o with slots := sl }) (free : ∀ b o, b ∉ ch → s.heap.get? b = some o → H b = none → H' b = none)
    (there : ∀ b o, b ∉ ch → s.heap.get? b = some o → ∃ o', h'.get? b = some o')
    (tups : ∀ b xs, H b = some (.tup xs) → H' b = some (.tup xs)) (frzs : ∀ b o u, H b = some (.frz o u) → H' b = some (.frz o u)) (tbls : ∀ b ps, H b = some (.tbl ps) → ∃ more, H' b = some (.tbl (ps ++ more)))
    (ns : ∀ m, s.heap.Ns X.env.locals m → h'.Ns X.env.locals m) (hok : HOk X.prog X.w H' h') (hg : AllBare g') :
    Inv X pins σ H' { s with heap := h', gens := g', drawn := d', toks := t' } := by
  have neL : ∀ b o, X.s₀.heap.get? b = some o → b ≠ X.env.locals := fun b o e => Nat.ne_of_lt (Nat.lt_of_lt_of_le (Heap.lt_size e) I.ok.above)
  have neC : ∀ b o, X.s₀.heap.get? b = some o → b ∉ X.ex → b ∉ ch := fun b o e hx hb => by
    rcases (hch b hb).1 with z | z
    · exact hx z
    · exact absurd (Nat.lt_of_lt_of_le (Heap.lt_size e) z) (Nat.lt_irrefl _)
  have cellK : ∀ x c, X.env.cells.lookup x = some c → ∀ v, s.heap.IsCell c v → h'.IsCell c v := fun x c e v ⟨o, ho, hd⟩ => by
    have nch : c ∉ ch := fun z => (hch c z).2.2.1 x c e rfl
    by_cases hc : c ∈ X.fs
    · obtain ⟨sl, q⟩ := slot c o (I.cne x c e) hc nch ho (I.freeC x c e)
      exact ⟨_, q, hd⟩
    · exact ⟨o, keep c o (I.cne x c e) hc nch ho (I.freeC x c e), hd⟩
  refine ⟨I.ok, I.os, hg, ⟨fun b o e n hb hx => ?_, fun b o e n hb hx => ?_, fun b o e n hx => ?_, fun b o e hx => ?_, fun b xs e => tups b xs (I.base.tups b xs e), fun b o xs e => frzs b o xs (I.base.frzs b o xs e), fun b ps e => ?_⟩, ?_, fun x c e => ?_, ?_, fun x c e => ?_, fun p hp => ?_, hok, I.len⟩
  · exact keep b o (neL b o e) hb (neC b o e hx) (I.base.keep b o e n hb hx) (I.base.free b o e n hx)
  · obtain ⟨sl, e1⟩ := I.base.slot b o e n hb hx
    obtain ⟨sl', e2⟩ := slot b _ (neL b o e) hb (neC b o e hx) e1 (I.base.free b o e n hx)
    exact ⟨sl', e2⟩
  · obtain ⟨o', e1⟩ := I.base.there b o e hx
    exact free b o' (neC b o e hx) e1 (I.base.free b o e n hx)
  · obtain ⟨o', e1⟩ := I.base.there b o e hx
    exact there b o' (neC b o e hx) e1
  · obtain ⟨m1, e1⟩ := I.base.tbls b ps e
    obtain ⟨m2, e2⟩ := tbls b _ e1
    exact ⟨m1 ++ m2, by rw [e2, Array.append_assoc]⟩
  · obtain ⟨m, hn, hl⟩ := I.loc
    refine ⟨m, ns m hn, fun i x v e1 e2 e3 => ?_⟩
    obtain ⟨u, r, l⟩ := hl i x v e1 e2 e3
    refine ⟨u, r, ?_⟩
    rcases l with l | ⟨k, c, e, z⟩
    · exact .inl l
    · exact .inr ⟨k, c, e, cellK x c e _ z⟩
  · obtain ⟨v, z⟩ := I.cell x c e
    exact ⟨v, cellK x c e v z⟩
  · obtain ⟨m, ⟨o, _, _, ho, _⟩, _⟩ := I.loc
    exact free _ o (fun z => (hch _ z).2.1 rfl) ho I.free
  · obtain ⟨v, o, ho, hd⟩ := I.cell x c e
    exact free c o (fun z => (hch c z).2.2.1 x c e rfl) ho (I.freeC x c e)
  · obtain ⟨e, n, ne, nf, d⟩ := I.pin p hp
    have nch : p.1 ∉ ch := fun z => (hch p.1 z).2.2.2 p hp rfl
    exact ⟨keep p.1 p.2 ne nf nch e n, free p.1 p.2 nch e n, ne, nf, d⟩
theorem Inv.un {t' : Nat} (I : Inv X pins σ H s) (u : Un X.fs [] H H' s.heap h') (hok : HOk X.prog X.w H' h') : Inv X pins σ H' { s with heap := h', toks := t' } := by
  obtain ⟨m, ⟨o, es, ep, ho, r⟩, _⟩ := id I.loc
  obtain ⟨sl, hL⟩ := u.any ho I.free (by simp)
  exact I.step (g' := s.gens) (d' := s.drawn) (ch := []) (fun _ z => nomatch z) (fun b o _ hb _ e n => u.keep b o e n hb (by simp)) (fun b o _ hb _ e n => u.slot b o e n hb (by simp)) (fun b o _ e n => u.free b o e n (by simp)) (fun b o _ e => u.there b o e (by simp)) u.tups u.frzs u.tbls (fun m' hm => by
    obtain ⟨o', es', ep', ho', r'⟩ := hm
    rw [ho] at ho'; cases ho'
    exact ⟨_, es', ep', hL, r'⟩) hok I.bare
theorem Inv.call {g' : Array GenState} {t' : Nat} {d' : Drawn} {ch : List Addr} (I : Inv X pins σ H s) (u : Un (frs X.stack) ch H H' s.heap h') (hok : HOk X.prog X.w H' h') (hg : AllBare g')
    (hch : ∀ b ∈ ch, (b ∈ X.ex ∨ X.s₀.heap.objs.size ≤ b) ∧ b ≠ X.env.locals ∧ (∀ x c, X.env.cells.lookup x = some c → c ≠ b) ∧ ∀ p ∈ X.pn ++ pins, p.1 ≠ b) :
    Inv X pins σ H' { s with heap := h', gens := g', drawn := d', toks := t' } := by
  obtain ⟨m, ⟨o, es, ep, ho, r⟩, _⟩ := id I.loc
  obtain ⟨sl, hL⟩ := u.any ho I.free fun z => (hch _ z).2.1 rfl
  exact I.step (ch := ch) hch (fun b o hL hb hc e n => u.keep b o e n (fun z => (List.mem_cons.mp (I.stkSub b z)).elim hL hb) hc) (fun b o _ _ hc e n => u.any e n hc) (fun b o hc e n => u.free b o e n hc) (fun b o hc e => u.there b o e hc) u.tups u.frzs u.tbls (fun m' hm => by
    obtain ⟨o', es', ep', ho', r'⟩ := hm
    rw [ho] at ho'; cases ho'
    exact ⟨_, es', ep', hL, r'⟩) hok hg
theorem Inv.turned {t' : Nat} {it : Addr} (I : Inv X pins σ H s) (k : ∀ b o, b ≠ it → s.heap.get? b = some o → h'.get? b = some o) (hn : H it = none) (hL : it ≠ X.env.locals)
    (h1 : it ∈ X.ex ∨ X.s₀.heap.objs.size ≤ it) (h2 : ∀ x c, X.env.cells.lookup x = some c → c ≠ it) (h3 : ∀ p ∈ X.pn ++ pins, p.1 ≠ it) : Inv X pins σ H { s with heap := h', toks := t' } := by
  have nit : ∀ b u, H b = some u → b ≠ it := fun b u e z => by rw [z, hn] at e; cases e
  refine I.step (g' := s.gens) (d' := s.drawn) (ch := [it]) (fun b hb => ?_) (fun b o _ _ hc e _ => k b o (fun z => hc (by simp [z])) e) (fun b o _ _ hc e _ => ⟨o.slots, k b o (fun z => hc (by simp [z])) e⟩) (fun _ _ _ _ n => n)
    (fun b o hc e => ⟨o, k b o (fun z => hc (by simp [z])) e⟩) (fun _ _ e => e) (fun _ _ _ e => e) (fun b ps e => ⟨#[], by rw [e]; simp⟩) (fun m hm => ?_) (fun b u e => ?_) I.bare
  · have e : b = it := by simpa using hb
    subst e
    exact ⟨h1, hL, h2, h3⟩
  · obtain ⟨o, es, ep, ho, r⟩ := hm
    exact ⟨o, es, ep, k _ o (Ne.symm hL) ho, r⟩
  · refine (I.hok b u e).stay (fun c v hc q => k c v ?_ q) (fun _ q => q) fun _ _ q => q
    rcases hc with z | z
    · rw [z]; exact nit b u e
    · exact nit c _ z
theorem Inv.tok (I : Inv X pins σ H s) (t : Nat) : Inv X pins σ H { s with toks := t } := I.un (h' := s.heap) (t' := t) Un.refl I.hok
theorem Inv.kept {t' : Nat} (I : Inv X pins σ H s) (k : ∀ b u, s.heap.get? b = some u → h'.get? b = some u) : Inv X pins σ H { s with heap := h', toks := t' } := I.un (Un.kept k) (I.hok.kept k)
theorem Inv.laid {a : Addr} {o : HO} {t' : Nat} (I : Inv X pins σ H s) (k : ∀ b u, s.heap.get? b = some u → h'.get? b = some u) (hp : s.heap.objs.size ≤ a) (new : ObjOk X.prog X.w (upd H a o) h' a o) :
    Inv X pins σ (upd H a o) { s with heap := h', toks := t' } := I.un (Un.laid k hp (I.hok.fresh hp)) (I.hok.laid k hp new)
theorem Inv.write {x e : Addr} {o : HO} {t' : Nat} (I : Inv X pins σ H s) (mu : Mut (H x)) (he : e = x ∨ H e = some (.own x)) (k : ∀ b u, b ≠ e → s.heap.get? b = some u → h'.get? b = some u) (heo : ∃ u, h'.get? e = some u)
    (new : ObjOk X.prog X.w (upd H x o) h' x o) : Inv X pins σ (upd H x o) { s with heap := h', toks := t' } := I.un (Un.write mu he k heo) (I.hok.write mu he k heo new)
theorem Inv.pins_of {pins' : List (Addr × Obj)} (I : Inv X pins σ H s) (h : ∀ p ∈ pins', s.heap.get? p.1 = some p.2 ∧ H p.1 = none ∧ p.1 ≠ X.env.locals ∧ p.1 ∉ X.fs ∧ ∀ v, p.2.data ≠ .cell v) : Inv X pins' σ H s :=
  ⟨I.ok, I.os, I.bare, I.base, I.loc, I.cell, I.free, I.freeC, fun p hp => (List.mem_append.mp hp).elim (fun z => I.pin p (List.mem_append_left _ z)) (h p), I.hok, I.len⟩
theorem nodup_ix {N : List Str} (hN : N.Nodup) {i j : Nat} {x : Str} (a : N[i]? = some x) (b : N[j]? = some x) : i = j := by
  obtain ⟨h1, e1⟩ := List.getElem?_eq_some_iff.mp a
  obtain ⟨h2, e2⟩ := List.getElem?_eq_some_iff.mp b
  exact (List.getElem_inj hN).mp (e1.trans e2.symm)
theorem store_ok2 {M : Model} {A : Around} {E : Value → Shared → Prop} {i : Nat} {x : Str} {v : V} {u : Value} {Q : Unit → Shared → Prop} (I : Inv X pins σ H s) (hN : X.N.Nodup) (hi : X.N[i]? = some x) (hx : Loc X.env.scope x) (r : RelV v u)
    (h : ∀ s', Inv X pins (σ.set i (some v)) H s' → (∃ a, Heap.SameBut a s.heap s'.heap ∧ (a = X.env.locals ∨ X.env.cells.lookup x = some a)) → Q () s') (hf : X.fn x = true ∨ X.env.scope.names.lookup x = some .local := by first | exact .inl rfl | exact .inr rfl | assumption) : wpAny M A (storeName X.env x u) Q E s := by
  obtain ⟨m, hn, hl⟩ := id I.loc
  have hcls : (X.env.scope.kind == .class || (X.env.scope.kind == .module && X.env.locals != X.env.globals)) = false := by rw [I.ok.kind]; rfl
  have hiσ : i < σ.length := by rw [I.len]; exact (List.getElem?_eq_some_iff.mp hi).1
  have cne := I.cne
  have tracked : ∀ {a : Addr} {h' : Heap}, (∃ o, s.heap.get? a = some o ∧ H a = none) → Heap.SameBut a s.heap h' → HOk X.prog X.w H h' := fun {a h'} ha hs b ob e => by
    obtain ⟨_, _, hfree⟩ := ha
    refine (I.hok b ob e).stay (fun c w' hc q => (hs.2 c ?_).trans q) (fun _ q => q) fun _ _ q => q
    rintro rfl
    rcases hc with rfl | hc
    · rw [hfree] at e; cases e
    · rw [hfree] at hc; cases hc
  rcases hx with hk | hk
  · refine wpAny_storeName_local hk hn (fun h' hn' hs => ?_) hcls
    obtain ⟨oL, _, _, hoL, _⟩ := id hn
    refine h _ ⟨I.ok, I.os, I.bare, ⟨fun b o e n hb hx => ?_, fun b o e n hb hx => ?_, I.base.free, fun b o e hx => ?_, I.base.tups, I.base.frzs, I.base.tbls⟩, ⟨_, hn', fun j y v' e1 e2 e3 => ?_⟩, fun y c e => ?_, I.free, I.freeC, fun p hp => ?_, tracked ⟨oL, hoL, I.free⟩ hs, by simpa using I.len⟩ ⟨_, hs, .inl rfl⟩
    · exact (hs.2 b (Nat.ne_of_lt (Nat.lt_of_lt_of_le (Heap.lt_size e) I.ok.above))).trans (I.base.keep b o e n hb hx)
    · obtain ⟨sl, e1⟩ := I.base.slot b o e n hb hx
      exact ⟨sl, (hs.2 b (Nat.ne_of_lt (Nat.lt_of_lt_of_le (Heap.lt_size e) I.ok.above))).trans e1⟩
    · obtain ⟨o', e1⟩ := I.base.there b o e hx
      exact ⟨o', (hs.2 b (Nat.ne_of_lt (Nat.lt_of_lt_of_le (Heap.lt_size e) I.ok.above))).trans e1⟩
    · by_cases hj : j = i
      · subst hj
        rw [hi] at e1; cases e1
        rw [List.getElem?_set_self hiσ] at e2
        cases e2
        exact ⟨u, r, .inl ⟨hk, by simp⟩⟩
      · rw [List.getElem?_set_ne (Ne.symm hj)] at e2
        obtain ⟨u', r', q⟩ := hl j y v' e1 e2 e3
        refine ⟨u', r', ?_⟩
        rcases q with ⟨k, e⟩ | ⟨k, c, e, z⟩
        · refine .inl ⟨k, ?_⟩
          have : y ≠ x := fun e => hj (nodup_ix hN e1 (e ▸ hi))
          simp [this, e]
        · exact .inr ⟨k, c, e, z.sameBut hs (cne y c e)⟩
    · obtain ⟨w', z⟩ := I.cell y c e
      exact ⟨w', z.sameBut hs (cne y c e)⟩
    · obtain ⟨e, n, ne, nf, d⟩ := I.pin p hp
      exact ⟨(hs.2 p.1 ne).trans e, n, ne, nf, d⟩
  · have hfn : X.fn x = true := by
      rcases hf with z | z
      · exact z
      · rw [z] at hk; cases hk
    obtain ⟨c, hc⟩ := I.ok.has x (.inl hk)
    obtain ⟨w', z⟩ := I.cell x c hc
    refine wpAny_storeName_cell I.ok.kind hk hc z (fun h' hc' hs => ?_)
    obtain ⟨oc, hoc, hocd⟩ := id z
    refine h { s with heap := h' } ⟨I.ok, I.os, I.bare, ⟨fun b o e n hb hx => ?_, fun b o e n hb hx => ?_, I.base.free, fun b o e hx => ?_, I.base.tups, I.base.frzs, I.base.tbls⟩, ⟨m, hn.sameBut hs (Ne.symm (cne x c hc)), fun j y v' e1 e2 e3 => ?_⟩, fun y c' e => ?_, I.free, I.freeC, fun p hp => ?_, tracked ⟨oc, hoc, I.freeC x c hc⟩ hs, by simpa using I.len⟩ ⟨c, hs, .inr hc⟩
    · exact (hs.2 b (Nat.ne_of_lt (Nat.lt_of_lt_of_le (Heap.lt_size e) (I.ok.cab x c hfn hc)))).trans (I.base.keep b o e n hb hx)
    · obtain ⟨sl, e1⟩ := I.base.slot b o e n hb hx
      exact ⟨sl, (hs.2 b (Nat.ne_of_lt (Nat.lt_of_lt_of_le (Heap.lt_size e) (I.ok.cab x c hfn hc)))).trans e1⟩
    · obtain ⟨o', e1⟩ := I.base.there b o e hx
      exact ⟨o', (hs.2 b (Nat.ne_of_lt (Nat.lt_of_lt_of_le (Heap.lt_size e) (I.ok.cab x c hfn hc)))).trans e1⟩
    · by_cases hj : j = i
      · subst hj
        rw [hi] at e1; cases e1
        rw [List.getElem?_set_self hiσ] at e2
        cases e2
        exact ⟨u, r, .inr ⟨.inl hk, c, hc, hc'⟩⟩
      · rw [List.getElem?_set_ne (Ne.symm hj)] at e2
        obtain ⟨u', r', q⟩ := hl j y v' e1 e2 e3
        refine ⟨u', r', ?_⟩
        rcases q with q | ⟨k, c', e, z'⟩
        · exact .inl q
        · refine .inr ⟨k, c', e, z'.sameBut hs ?_⟩
          rintro rfl
          exact hj (nodup_ix hN e1 (I.ok.inj _ _ _ e hc ▸ hi))
    · by_cases hcc : c' = c
      · subst hcc; exact ⟨_, hc'⟩
      · obtain ⟨w2, z2⟩ := I.cell y c' e
        exact ⟨w2, z2.sameBut hs hcc⟩
    · obtain ⟨e, n, ne, nf, d⟩ := I.pin p hp
      refine ⟨(hs.2 p.1 ?_).trans e, n, ne, nf, d⟩
      intro q
      rw [q, hoc] at e
      have q' : oc = p.2 := Option.some.inj e
      exact d w' (by rw [← q']; exact hocd)
theorem store_ok {M : Model} {A : Around} {E : Value → Shared → Prop} {i : Nat} {x : Str} {v : V} {u : Value} {Q : Unit → Shared → Prop} (I : Inv X pins σ H s) (hN : X.N.Nodup) (hi : X.N[i]? = some x) (hx : Loc X.env.scope x) (r : RelV v u)
    (h : ∀ s', Inv X pins (σ.set i (some v)) H s' → Q () s') (hf : X.fn x = true ∨ X.env.scope.names.lookup x = some .local := by first | exact .inl rfl | exact .inr rfl | assumption) : wpAny M A (storeName X.env x u) Q E s :=
  store_ok2 I hN hi hx r (fun s' I' _ => h s' I') hf
theorem Inv.call' {s' : Shared} {ch : List Addr} (I : Inv X pins σ H s) (ho : s'.os = s.os) (u : Un (frs X.stack) ch H H' s.heap s'.heap) (hok : HOk X.prog X.w H' s'.heap) (hg : AllBare s'.gens)
    (hch : ∀ b ∈ ch, (b ∈ X.ex ∨ X.s₀.heap.objs.size ≤ b) ∧ b ≠ X.env.locals ∧ (∀ x c, X.env.cells.lookup x = some c → c ≠ b) ∧ ∀ p ∈ X.pn ++ pins, p.1 ≠ b) : Inv X pins σ H' s' := by
  obtain ⟨h', g', d', t', o'⟩ := s'
  have e : o' = s.os := ho
  subst e
  exact I.call (g' := g') (t' := t') (d' := d') u hok hg hch
end
abbrev XK := Value → Option Addr → Hp → Prop
abbrev St := List (Option V)
abbrev VK := V → Hp → Prop
abbrev TE := St → Hp → VK → Prop
abbrev TT := St → Hp → (Bool → Hp → Prop) → Prop
abbrev TA := St → Hp → (List V → Hp → Prop) → Prop
structure Ends where
  nx : St → Hp → Prop
  rt : VK
  bk : St → Hp → Prop := fun _ _ => False
  ct : St → Hp → Prop := fun _ _ => False
abbrev TS := Ends → St → Hp → Prop
def EP (X : Cx) (pins : List (Addr × Obj)) (σ : St) (Q : VK) (u : Value) (s' : Shared) : Prop := ∃ v H', Inv X pins σ H' s' ∧ RelV v u ∧ Q v H'
def TP (X : Cx) (pins : List (Addr × Obj)) (σ : St) (Q : Bool → Hp → Prop) (b : Bool) (s' : Shared) : Prop := ∃ H', Inv X pins σ H' s' ∧ Q b H'
def AP (X : Cx) (pins : List (Addr × Obj)) (σ : St) (Q : List V → Hp → Prop) (us : List Value) (s' : Shared) : Prop := ∃ vs H', Inv X pins σ H' s' ∧ Vals vs us ∧ Q vs H'
def SP (X : Cx) (pins : List (Addr × Obj)) (D : Ends) (f : Flow) (s' : Shared) : Prop :=
  match f with
  | .next => ∃ σ' H', Inv X pins σ' H' s' ∧ D.nx σ' H'
  | .brk => ∃ σ' H', Inv X pins σ' H' s' ∧ D.bk σ' H'
  | .cont => ∃ σ' H', Inv X pins σ' H' s' ∧ D.ct σ' H'
  | .ret u => ∃ v σ' H', Inv X pins σ' H' s' ∧ RelV v u ∧ D.rt v H'
def PE (X : Cx) (e : Expr) (t : TE) : Prop :=
  ∀ (pins : List (Addr × Obj)) (s : Shared) (σ : St) (H : Hp) (Q : VK), Inv X pins σ H s → t σ H Q → wpAny (model X.prog X.w) X.A (eval e X.env) (EP X pins σ Q) X.xe s
def PT (X : Cx) (e : Expr) (t : TT) : Prop :=
  ∀ (pins : List (Addr × Obj)) (s : Shared) (σ : St) (H : Hp) (Q : Bool → Hp → Prop), Inv X pins σ H s → t σ H Q → wpAny (model X.prog X.w) X.A (isTrue e X.env (eval e X.env)) (TP X pins σ Q) X.xe s
def PW (X : Cx) (e : Expr) (t : TT) : Prop :=
  ∀ (whole : Sem Value) (pins : List (Addr × Obj)) (s : Shared) (σ : St) (H : Hp) (Q : Bool → Hp → Prop), Inv X pins σ H s → t σ H Q → wpAny (model X.prog X.w) X.A (isTrue e X.env whole) (TP X pins σ Q) X.xe s
theorem PW.pt {X : Cx} {e : Expr} {t : TT} (h : PW X e t) : PT X e t := h _
def PA (X : Cx) (es : List Expr) (t : TA) : Prop :=
  ∀ (pos : Pos) (pins : List (Addr × Obj)) (s : Shared) (σ : St) (H : Hp) (Q : List V → Hp → Prop), Inv X pins σ H s → t σ H Q → wpAny (model X.prog X.w) X.A (spliced (backTo pos (starEach es X.env))) (AP X pins σ Q) X.xe s
def PS (X : Cx) (st : Stmt) (t : TS) : Prop :=
  ∀ (pins : List (Addr × Obj)) (s : Shared) (σ : St) (H : Hp) (D : Ends), Inv X pins σ H s → t D σ H → wpAny (model X.prog X.w) X.A (exec st X.env) (SP X pins D) X.xe s
def PSs (X : Cx) (st : List Stmt) (t : TS) : Prop :=
  ∀ (pins : List (Addr × Obj)) (s : Shared) (σ : St) (H : Hp) (D : Ends), Inv X pins σ H s → t D σ H → wpAny (model X.prog X.w) X.A (execs st X.env) (SP X pins D) X.xe s
theorem thn {α : Type} {t : Sem α} {Q Q' : α → Shared → Prop} {M : Model} {A : Around} {E : Value → Shared → Prop} {s : Shared} (h : wpAny M A t Q E s) (hQ : ∀ a s, Q a s → Q' a s) : wpAny M A t Q' E s := wpAny_mono h hQ fun _ _ x => x
end L2
namespace L2
open PySem PySem.Spec PyProof.Rows
section
variable {X : Cx}
def tVar (i : Nat) : TE := fun σ H Q => ∃ v, σ[i]? = some (some v) ∧ Q v H
def tC (v : V) : TE := fun _ H Q => Q v H
theorem pe_var {i : Nat} {x : Str} {pos : Pos} (hN : X.N[i]? = some x) (hv : Vis X.env.scope x) (hd : (x == ("__debug__" : Str)) = false := by decide) (hcd : (x == ("__classdict__" : Str)) = false := by decide) : PE X (.Name x pos) (tVar i) := by
  intro pins s σ H Q I h
  obtain ⟨v, e, h⟩ := h
  obtain ⟨m, hn, hl⟩ := I.loc
  obtain ⟨u, r, l⟩ := hl i x v hN e hv
  have fin : EP X pins σ Q u s := ⟨v, H, I, r, h⟩
  rcases l with ⟨hk, hm⟩ | ⟨hk, c, hc, hcell⟩
  · exact wpAny_Name (wpAny_loadName_local I.ok.kind hk hn hm fin) hd
  · rcases hk with hk | hk
    · exact wpAny_Name (wpAny_loadName_cell I.ok.kind hk hc hcell fin) hd
    · exact wpAny_Name (wpAny_loadName_free I.ok.kind hk hc hcell fin hcd) hd
theorem pe_int {i j pos} : PE X (.Constant (.int i) j pos) (tC (.int i)) := fun _ _ _ H _ I h => wpAny_Constant_int ⟨.int i, H, I.tok _, ⟨_, rfl⟩, h⟩
theorem pe_bl {b j pos} : PE X (.Constant (.bool b) j pos) (tC (.bl b)) := fun _ _ _ H _ I h => Constant_bool ⟨.bl b, H, I, rfl, h⟩
theorem pe_non {j pos} : PE X (.Constant .none j pos) (tC .non) := fun _ _ _ H _ I h => Constant_none ⟨.non, H, I, rfl, h⟩
theorem pe_str {x j pos} : PE X (.Constant (.str x) j pos) (tC (.str x)) := fun _ _ _ H _ I h => Calls.Constant_str ⟨.str x, H, I.tok _, ⟨_, rfl⟩, h⟩
def Gl (X : Cx) (x : Str) : Prop := X.env.kindOf x = some .globalImplicit
theorem ld_glob {E : Value → Shared → Prop} {pins : List (Addr × Obj)} {s : Shared} {σ : St} {H : Hp} {x : Str} {u : Value} {pos : Pos} {Q : Value → Shared → Prop} (I : Inv X pins σ H s) (hg : Gl X x) (hm : X.mg x = some u) (h : Q u s)
    (hd : (x == ("__debug__" : Str)) = false := by decide) : wpAny (model X.prog X.w) X.A (eval (.Name x pos) X.env) Q E s :=
  Calls.Name_function_global I.ok.kind hg (Calls.loadGlobal_global (by rw [I.ok.glob]; exact I.mod.glob.keeps I.bk) hm h) hd
theorem ld_blt {E : Value → Shared → Prop} {pins : List (Addr × Obj)} {s : Shared} {σ : St} {H : Hp} {x : Str} {u : Value} {pos : Pos} {Q : Value → Shared → Prop} (I : Inv X pins σ H s) (hg : Gl X x) (hm : X.mg x = none) (hv : bootBuiltins x = some u) (h : Q u s)
    (hn : x ≠ "__name__" := by decide) (hd : (x == ("__debug__" : Str)) = false := by decide) : wpAny (model X.prog X.w) X.A (eval (.Name x pos) X.env) Q E s := by
  obtain ⟨mb, h1, h2⟩ := I.mod.blt
  exact Calls.Name_function_global I.ok.kind hg (Calls.loadGlobal_builtin (by rw [I.ok.glob]; exact I.mod.glob.keeps I.bk) hm (by rw [I.ok.blt]; exact h1.keeps I.bk) ((h2 x hn).trans hv) h) hd
theorem pe_glob {x : Str} {v : V} {u : Value} {pos : Pos} (hg : Gl X x) (hm : X.mg x = some u) (r : RelV v u) (hd : (x == ("__debug__" : Str)) = false := by decide) : PE X (.Name x pos) (tC v) :=
  fun _ _ _ H _ I h => ld_glob I hg hm ⟨v, H, I, r, h⟩ hd
variable {a b : Expr} {ta tb : TE} {pos : Pos}
variable {tA tB' : TT} {rest : List Expr}
def tOr (t u : TT) : TT := fun σ H Q => t σ H fun c H1 => if c = true then Q true H1 else u σ H1 Q
def tNot (t : TT) : TT := fun σ H Q => t σ H fun c H1 => Q (!c) H1
theorem pw_or1 (ha : PT X a tA) : PW X (.BoolOp .Or [a] pos) tA := by
  intro wh pins s σ H Q I h
  refine isTrue_or (thn (ha pins s σ H Q I h) fun c s1 e => ?_)
  cases c with
  | false => exact isTrue_or_nil e
  | true => exact e
theorem pw_or (ha : PT X a tA) (hb : PW X (.BoolOp .Or (b :: rest) pos) tB') : PW X (.BoolOp .Or (a :: b :: rest) pos) (tOr tA tB') := by
  intro wh pins s σ H Q I h
  refine isTrue_or (thn (ha pins s σ H _ I h) fun c s1 ⟨H1, I1, q1⟩ => ?_)
  cases c with
  | true => exact ⟨H1, I1, q1⟩
  | false => exact hb wh pins s1 σ H1 Q I1 q1
theorem pt_not (ha : PT X a tA) : PT X (.UnaryOp .Not a pos) (tNot tA) := by
  intro pins s σ H Q I h
  exact isTrue_not (ha pins s σ H (fun c H1 => Q (!c) H1) I h)
def tAndV (ta tb : TE) : TE := fun σ H Q => ta σ H fun x H1 => ∃ c, x = .bl c ∧ if c = true then tb σ H1 Q else Q (.bl false) H1
def tOrV (ta tb : TE) : TE := fun σ H Q => ta σ H fun x H1 => ∃ c, x = .bl c ∧ if c = true then Q (.bl true) H1 else tb σ H1 Q
theorem pe_one {op} {t : TE} (h : PE X a t) : PE X (.BoolOp op [a] pos) t := fun pins s σ H Q I hw => BoolOp_one (h pins s σ H Q I hw)
theorem pe_and (ha : PE X a ta) (hb : PE X (.BoolOp .And (b :: rest) pos) tb) : PE X (.BoolOp .And (a :: b :: rest) pos) (tAndV ta tb) := by
  intro pins s σ H Q I h
  refine BoolOp_and (thn (ha pins s σ H _ I h) fun v s1 ⟨x, H1, I1, r1, q1⟩ => ?_)
  obtain ⟨c, rfl, q1⟩ := q1
  cases r1
  refine wpAny_truthy_bool ?_
  cases c with
  | true => exact hb pins s1 σ H1 Q I1 q1
  | false => exact ⟨.bl false, H1, I1, rfl, q1⟩
theorem pe_or (ha : PE X a ta) (hb : PE X (.BoolOp .Or (b :: rest) pos) tb) : PE X (.BoolOp .Or (a :: b :: rest) pos) (tOrV ta tb) := by
  intro pins s σ H Q I h
  refine BoolOp_or (thn (ha pins s σ H _ I h) fun v s1 ⟨x, H1, I1, r1, q1⟩ => ?_)
  obtain ⟨c, rfl, q1⟩ := q1
  cases r1
  refine wpAny_truthy_bool ?_
  cases c with
  | false => exact hb pins s1 σ H1 Q I1 q1
  | true => exact ⟨.bl true, H1, I1, rfl, q1⟩
def tIf (t : TT) (ta tb : TE) : TE := fun σ H Q => t σ H fun c H1 => if c = true then ta σ H1 Q else tb σ H1 Q
theorem pe_ifExp {c : Expr} (hc : PT X c tA) (ha : PE X a ta) (hb : PE X b tb) : PE X (.IfExp c a b pos) (tIf tA ta tb) := by
  intro pins s σ H Q I h
  refine wpAny_IfExp (thn (hc pins s σ H _ I h) fun d s1 ⟨H1, I1, q1⟩ => ?_)
  cases d with
  | true => exact ha pins s1 σ H1 Q I1 q1
  | false => exact hb pins s1 σ H1 Q I1 q1
end
end L2
namespace L2
open PySem PySem.Spec PyProof.Rows
def SqL (K : PySem.W.Frag) (H : Hp) (a : Addr) (xs : List V) : Prop :=
  Rd H a (.lst xs) ∨
    ∃ (o : Obj) (its : Array Value) (n : Nat), K.lookup a = some o ∧ o.cls = .type "list" ∧ o.dict = none ∧ o.data = .seq its n ∧ its.size ≤ sizeLine ∧ Vals xs its.toList
def SqT (K : PySem.W.Frag) (H : Hp) (a : Addr) (xs : List V) : Prop :=
  Rd H a (.tup xs) ∨
    ∃ (o : Obj) (its : Array Value) (n : Nat), K.lookup a = some o ∧ o.cls = .type "tuple" ∧ o.data = .seq its n ∧ its.size ≤ sizeLine ∧ Vals xs its.toList
def absV : Value → Option V
  | .none => some .non
  | .bool b => some (.bl b)
  | .int i _ => some (.int i)
  | .str x _ => some (.str x)
  | .bytes b _ => some (.byt b)
  | .float b _ => some (.flt b)
  | .ref a => some (.ref a)
  | .type n => some (.ty n)
  | _ => none
theorem RelV.abs {x : V} {u : Value} (r : RelV x u) : absV u = some x := by
  cases x with
  | non => cases r; rfl
  | bl _ => cases r; rfl
  | int _ => obtain ⟨t, rfl⟩ := r; rfl
  | str _ => obtain ⟨t, rfl⟩ := r; rfl
  | byt _ => obtain ⟨t, rfl⟩ := r; rfl
  | flt _ => obtain ⟨t, rfl⟩ := r; rfl
  | ref _ => cases r; rfl
  | ty _ => cases r; rfl
theorem RelV.inj {x y : V} {u : Value} (r : RelV x u) (q : RelV y u) : x = y := Option.some.inj (r.abs.symm.trans q.abs)
theorem Vals.inj : ∀ {xs ys : List V} {us : List Value}, Vals xs us → Vals ys us → xs = ys
  | _, _, _, .nil, .nil => rfl
  | _, _, _, .cons r t, .cons r' t' => by rw [r.inj r', Vals.inj t t']
section
variable {X : Cx} {pins : List (Addr × Obj)} {σ : St} {H : Hp} {s : Shared} {a : Addr} {xs ys : List V}
theorem SqL.of {K : PySem.W.Frag} (h : H a = some (.lst xs)) : SqL K H a xs := .inl (.inl h)
theorem SqT.of {K : PySem.W.Frag} (h : H a = some (.tup xs)) : SqT K H a xs := .inl (.inl h)
theorem Inv.list (I : Inv X pins σ H s) (h : SqL X.K H a xs) : ∃ its : List Value, Vals xs its ∧ PlainL s.heap a its.toArray ∧ xs.length ≤ sizeLine := by
  rcases h with h | ⟨o, its, n, hk, hc, hd, hs, hz, r⟩
  · obtain ⟨z, its, n, r, e⟩ := h.ok I.hok
    exact ⟨its, r, ⟨_, n, e, rfl, rfl, rfl⟩, z⟩
  · refine ⟨its.toList, r, ⟨o, n, I.kIn a o hk, hc, hd, by simpa using hs⟩, ?_⟩
    have e := r.length
    simp only [Array.length_toList] at e
    omega
theorem Inv.tuple (I : Inv X pins σ H s) (h : SqT X.K H a xs) : ∃ its : List Value, Vals xs its ∧ IsTup s.heap a its.toArray ∧ xs.length ≤ sizeLine := by
  rcases h with h | ⟨o, its, n, hk, hc, hs, hz, r⟩
  · obtain ⟨z, its, r, p⟩ := h.ok I.hok
    exact ⟨its, r, p, z⟩
  · refine ⟨its.toList, r, ⟨o, I.kIn a o hk, hc, n, by simpa using hs⟩, ?_⟩
    have e := r.length
    simp only [Array.length_toList] at e
    omega
theorem Inv.list_inj (I : Inv X pins σ H s) (h : SqL X.K H a xs) (h' : SqL X.K H a ys) : xs = ys := by
  obtain ⟨its, r, ⟨o, n, e, _, _, d⟩, _⟩ := I.list h
  obtain ⟨its', r', ⟨o', n', e', _, _, d'⟩, _⟩ := I.list h'
  rw [e] at e'; cases e'
  rw [d] at d'
  injection d' with d1 _
  have : its = its' := by simpa using congrArg Array.toList d1
  subst this
  exact r.inj r'
theorem Inv.tuple_inj (I : Inv X pins σ H s) (h : SqT X.K H a xs) (h' : SqT X.K H a ys) : xs = ys := by
  obtain ⟨its, r, ⟨o, e, _, n, d⟩, _⟩ := I.tuple h
  obtain ⟨its', r', ⟨o', e', _, n', d'⟩, _⟩ := I.tuple h'
  rw [e] at e'; cases e'
  rw [d] at d'
  injection d' with d1 _
  have : its = its' := by simpa using congrArg Array.toList d1
  subst this
  exact r.inj r'
end
abbrev Cx.wish (X : Cx) (E : Value → Shared → Prop) : Cx := { X with xe := E }
abbrev Cx.nox (X : Cx) : Cx := X.wish fun _ _ => False
theorem Cx.Ok.wish {X : Cx} (ok : X.Ok) (E : Value → Shared → Prop) : (X.wish E).Ok :=
  ⟨ok.mod, ok.kind, ok.glob, ok.blt, ok.above, ok.inj, ok.has, ok.cab, ok.hd, ok.frames, ok.stk, ok.exf, ok.bs, ok.bsz, ok.noex, ok.exfs, ok.funs, ok.frf⟩
theorem Cx.Ok.unwish {X : Cx} {E : Value → Shared → Prop} (ok : (X.wish E).Ok) : X.Ok :=
  ⟨ok.mod, ok.kind, ok.glob, ok.blt, ok.above, ok.inj, ok.has, ok.cab, ok.hd, ok.frames, ok.stk, ok.exf, ok.bs, ok.bsz, ok.noex, ok.exfs, ok.funs, ok.frf⟩
section
variable {X : Cx} {pins : List (Addr × Obj)} {σ : St} {H : Hp} {s : Shared} {E : Value → Shared → Prop}
theorem Inv.wish (I : Inv X pins σ H s) (E : Value → Shared → Prop) : Inv (X.wish E) pins σ H s := ⟨I.ok.wish E, I.os, I.bare, I.base, I.loc, I.cell, I.free, I.freeC, I.pin, I.hok, I.len⟩
theorem Inv.unwish (I : Inv (X.wish E) pins σ H s) : Inv X pins σ H s := ⟨I.ok.unwish, I.os, I.bare, I.base, I.loc, I.cell, I.free, I.freeC, I.pin, I.hok, I.len⟩
theorem SP.unwish {D : Ends} {f : Flow} {s' : Shared} (h : SP (X.wish E) pins D f s') : SP X pins D f s' := by
  cases f with
  | next => obtain ⟨σ', H', I, q⟩ := h; exact ⟨σ', H', I.unwish, q⟩
  | brk => obtain ⟨σ', H', I, q⟩ := h; exact ⟨σ', H', I.unwish, q⟩
  | cont => obtain ⟨σ', H', I, q⟩ := h; exact ⟨σ', H', I.unwish, q⟩
  | ret u => obtain ⟨v, σ', H', I, r, q⟩ := h; exact ⟨v, σ', H', I.unwish, r, q⟩
theorem PE.nox {e : Expr} {t : TE} (h : PE X.nox e t) : PE X e t := fun pins s σ H Q I hw =>
  wpAny_mono (h pins s σ H Q (I.wish _) hw) (fun _ _ ⟨v, H', I', r, q⟩ => ⟨v, H', I'.unwish, r, q⟩) fun _ _ z => False.elim z
theorem PT.nox {e : Expr} {t : TT} (h : PT X.nox e t) : PT X e t := fun pins s σ H Q I hw =>
  wpAny_mono (h pins s σ H Q (I.wish _) hw) (fun _ _ ⟨H', I', q⟩ => ⟨H', I'.unwish, q⟩) fun _ _ z => False.elim z
theorem PSs.nox {st : List Stmt} {t : TS} (h : PSs X.nox st t) : PSs X st t := fun pins s σ H D I hw =>
  wpAny_mono (h pins s σ H D (I.wish _) hw) (fun _ _ q => q.unwish) fun _ _ z => False.elim z
end
section
variable {X : Cx} {st : Stmt} {rest : List Stmt} {t u : TS} {e : Expr} {te : TE} {pos : Pos}
def tNext : TS := fun D σ H => D.nx σ H
def tSeq (t u : TS) : TS := fun D σ H => t { D with nx := u D } σ H
theorem pss_nil : PSs X [] tNext := fun _ _ σ H _ I h => wpAny_execs_nil ⟨σ, H, I, h⟩
theorem pss_cons (h1 : PS X st t) (h2 : PSs X rest u) : PSs X (st :: rest) (tSeq t u) := by
  intro pins s σ H D I h
  refine wpAny_execs_cons (thn (h1 pins s σ H { D with nx := u D } I h) fun f s1 q => ?_)
  cases f with
  | next =>
    obtain ⟨σ', H', I', q⟩ := q
    exact h2 pins s1 σ' H' D I' q
  | ret v => exact q
  | brk => exact q
  | cont => exact q
theorem pss_one (h1 : PS X st t) : PSs X [st] t := by
  intro pins s σ H D I h
  refine wpAny_execs_cons (thn (h1 pins s σ H D I h) fun f s1 q => ?_)
  cases f with
  | next => exact wpAny_execs_nil q
  | ret v => exact q
  | brk => exact q
  | cont => exact q
theorem Inv.quiet {pins : List (Addr × Obj)} {σ : St} {H : Hp} {s : Shared} (I : Inv X pins σ H s) : interactive X.env = false := by simp [interactive, I.ok.kind]
def tDrop (te : TE) : TS := fun D σ H => te σ H fun _ H1 => D.nx σ H1
theorem ps_expr (he : PE X e te) (hs : swapsWith e none pos.line X.env = pure false := by rfl) : PS X (.Expr e pos) (tDrop te) := by
  intro pins s σ H D I h
  exact wpAny_Expr_any (thn (he pins s σ H _ I h) fun v s1 ⟨x, H1, I1, r1, q1⟩ => ⟨σ, H1, I1, q1⟩) I.quiet hs
def tRet (te : TE) : TS := fun D σ H => te σ H D.rt
theorem ps_ret (he : PE X e te) : PS X (.Return (some e) pos) (tRet te) := by
  intro pins s σ H D I h
  exact wpAny_Return_some (thn (he pins s σ H _ I h) fun v s1 ⟨x, H1, I1, r1, q1⟩ => ⟨x, σ, H1, I1, r1, q1⟩)
def tIfS (c : TT) (t u : TS) : TS := fun D σ H => c σ H fun b H1 => if b = true then t D σ H1 else u D σ H1
theorem ps_if {c : Expr} {a b : List Stmt} {tc : TT} (hc : PT X c tc) (ha : PSs X a t) (hb : PSs X b u) : PS X (.If c a b pos) (tIfS tc t u) := by
  intro pins s σ H D I h
  refine wpAny_If (thn (hc pins s σ H _ I h) fun d s1 ⟨H1, I1, q1⟩ => ?_)
  cases d with
  | true => exact ha pins s1 σ H1 D I1 q1
  | false => exact hb pins s1 σ H1 D I1 q1
def tNever : TS := fun _ _ _ => False
theorem ps_never : PS X st tNever := fun _ _ _ _ _ _ h => h.elim
end
abbrev TG := V → St → Hp → (St → Hp → Prop) → Prop
abbrev TGs := List V → St → Hp → (St → Hp → Prop) → Prop
def PG (X : Cx) (target : Expr) (t : TG) : Prop :=
  ∀ (pins : List (Addr × Obj)) (s : Shared) (σ : St) (H : Hp) (v : V) (u : Value) (Q : St → Hp → Prop), Inv X pins σ H s → RelV v u → t v σ H Q →
    wpAny (model X.prog X.w) X.A (assign target X.env u) (fun _ s' => ∃ σ' H', Inv X pins σ' H' s' ∧ Q σ' H') X.xe s
def PGs (X : Cx) (ts : List Expr) (t : TGs) : Prop :=
  ∀ (pins : List (Addr × Obj)) (s : Shared) (σ : St) (H : Hp) (vs : List V) (us : List Value) (Q : St → Hp → Prop), Inv X pins σ H s → Vals vs us → t vs σ H Q →
    wpAny (model X.prog X.w) X.A (assignInOrder ((assignEach ts X.env).map (·.2)) us) (fun _ s' => ∃ σ' H', Inv X pins σ' H' s' ∧ Q σ' H') X.xe s
abbrev TSet := V → V → V → Hp → (Hp → Prop) → Prop
section
variable {X : Cx} {pos : Pos}
def gName (i : Nat) : TG := fun v σ H Q => Q (σ.set i (some v)) H
theorem pg_name {i : Nat} {x : Str} (hN : X.N.Nodup) (hi : X.N[i]? = some x) (hx : Loc X.env.scope x) (hf : X.fn x = true ∨ X.env.scope.names.lookup x = some .local := by first | exact .inl rfl | exact .inr rfl | assumption) : PG X (.Name x pos) (gName i) := by
  intro pins s σ H v u Q I r h
  exact wpAny_assign_Name (store_ok I hN hi hx r (fun s' I' => ⟨_, H, I', h⟩) hf)
def gNil : TGs := fun vs σ H Q => vs = [] ∧ Q σ H
def gCons (t : TG) (u : TGs) : TGs := fun vs σ H Q => ∃ v r, vs = v :: r ∧ t v σ H fun σ' H' => u r σ' H' Q
theorem pgs_nil : PGs X [] gNil := by
  intro pins s σ H vs us Q I r h
  obtain ⟨e, h⟩ := h
  subst e
  cases r
  exact assignInOrder_nil ⟨σ, H, I, h⟩
theorem pgs_cons {e : Expr} {es : List Expr} {t : TG} {u : TGs} (h1 : PG X e t) (h2 : PGs X es u)
    (hs : (assignEach (e :: es) X.env).map (·.2) = assign e X.env :: (assignEach es X.env).map (·.2) := by rfl) : PGs X (e :: es) (gCons t u) := by
  intro pins s σ H vs us Q I r h
  obtain ⟨v, vr, e1, h⟩ := h
  subst e1
  cases r with
  | cons r rr =>
    rw [hs]
    refine assignInOrder_cons (thn (h1 pins s σ H _ _ _ I r h) fun _ s1 ⟨σ1, H1, I1, q1⟩ => ?_)
    exact h2 pins s1 σ1 H1 _ _ Q I1 rr q1
def gTup (K : PySem.W.Frag) (n : Nat) (t : TGs) : TG := fun v σ H Q => ∃ a xs, v = .ref a ∧ SqT K H a xs ∧ xs.length = n ∧ t xs σ H Q
theorem pg_tup {es : List Expr} {k : Nat} {t : TGs} {n : Nat} (hc : X.calm = true) (h : PGs X es t)
    (hn : (assignEach es X.env).length = n := by rfl) (hst : (assignEach es X.env).findIdx? (·.1) = none := by rfl) : PG X (.Tuple es k pos) (gTup X.K n t) := by
  intro pins s σ H v u Q I r hw
  obtain ⟨a, xs, e1, hq, hl, hw⟩ := hw
  subst e1
  cases r
  obtain ⟨its, rv, ht, hz⟩ := I.tuple hq
  refine assign_Tuple_tuple (I.ok.hd hc) ht (by simp [hn, ← hl, rv.length]) hst fun h' hx => ?_
  have I1 : Inv X pins σ H { s with heap := h' } := I.kept (t' := s.toks) fun b o e => hx b o (Nat.ne_of_lt (Heap.lt_size e)) e
  exact h pins _ σ H xs _ Q I1 (by simpa using rv) hw
def gSub (to ti : TE) (t : TSet) : TG := fun v σ H Q => to σ H fun o H1 => ti σ H1 fun i H2 => t o i v H2 fun H3 => Q σ H3
def tAsg (te : TE) (g : TG) : TS := fun D σ H => te σ H fun x H1 => g x σ H1 D.nx
theorem ps_set {i : Nat} {x : Str} {e : Expr} {te : TE} {pos' : Pos} (hN : X.N.Nodup) (hi : X.N[i]? = some x) (hx : Loc X.env.scope x) (he : PE X e te) (hs : swapsWith e (some (.Name x pos')) pos.line X.env = pure false := by rfl) (hf : X.fn x = true ∨ X.env.scope.names.lookup x = some .local := by first | exact .inl rfl | exact .inr rfl | assumption) :
    PS X (.Assign [.Name x pos'] e pos) (tAsg te (gName i)) := by
  intro pins s σ H D I h
  refine wpAny_Assign_Name (thn (he pins s σ H _ I h) fun v s1 ⟨y, H1, I1, r1, q1⟩ => ?_) hs
  exact store_ok I1 hN hi hx r1 (fun s2 I2 => ⟨_, H1, I2, q1⟩) hf
end
section
variable {X : Cx} {pos : Pos}
def tWhile (c : TT) (tb : TS) : TS := fun D σ H => ∃ W : Nat → St → Hp → Prop, (∃ m, W m σ H) ∧ ∀ m σ H, W m σ H →
  c σ H fun b H1 => if b = true then ∃ N : St → Hp → Prop, (∀ σ' H', N σ' H' → ∃ m', m' < m ∧ W m' σ' H') ∧ tb { D with nx := N, ct := N, bk := D.nx } σ H1 else D.nx σ H1
theorem ps_while {c : Expr} {body : List Stmt} {tc : TT} {tb : TS} (hp : PassesOwn (model X.prog X.w) X.A X.env X.xe) (hc : PT X c tc) (hb : PSs X body tb) : PS X (.While c body [] pos) (tWhile tc tb) := by
  intro pins s σ H D I h
  obtain ⟨W, ⟨m0, w0⟩, turn⟩ := h
  refine wpAny_While (codeAny_whileLoop (fun n s' => ∃ σ' H', Inv X pins σ' H' s' ∧ W n σ' H') ?_ m0 ⟨σ, H, I, w0⟩)
  rintro n s1 ⟨σ1, H1, I1, w1⟩
  refine wpAny_passesOwn hp (thn (hc pins s1 σ1 H1 _ I1 (turn n σ1 H1 w1)) fun b s2 ⟨H2, I2, q2⟩ => ?_)
  cases b with
  | true =>
    obtain ⟨N, hN, q2⟩ := q2
    rw [if_pos rfl]
    refine wpAny_passesOwn hp (thn (hb pins s2 σ1 H2 _ I2 q2) fun f s3 q3 => ?_)
    cases f with
    | next =>
      obtain ⟨σ3, H3, I3, n3⟩ := q3
      obtain ⟨m', hm, w3⟩ := hN σ3 H3 n3
      exact ⟨m', hm, σ3, H3, I3, w3⟩
    | cont =>
      obtain ⟨σ3, H3, I3, n3⟩ := q3
      obtain ⟨m', hm, w3⟩ := hN σ3 H3 n3
      exact ⟨m', hm, σ3, H3, I3, w3⟩
    | brk => exact q3
    | ret v => exact q3
  | false =>
    rw [if_neg Bool.false_ne_true]
    exact wpAny_execs_nil ⟨σ1, H2, I2, q2⟩
end
structure It where
  go : Nat → Hp → Prop
  yld : Nat → Hp → V → Hp → Prop
  stop : Nat → Hp → Prop
def FpOk (X : Cx) (pins : List (Addr × Obj)) (H : Hp) (b : Addr) : Prop :=
  H b = none ∧ b ≠ X.env.locals ∧ b ∉ X.fs ∧ (b ∈ X.ex ∨ X.s₀.heap.objs.size ≤ b) ∧ (∀ x c, X.env.cells.lookup x = some c → c ≠ b) ∧ ∀ p ∈ X.pn ++ pins, p.1 ≠ b
theorem Inv.fpOk {X : Cx} {pins : List (Addr × Obj)} {σ : St} {H H' : Hp} {s : Shared} {b : Addr} (I : Inv X pins σ H s) (hb : s.heap.objs.size ≤ b) (hn : H' b = none) : FpOk X pins H' b := by
  refine ⟨hn, Nat.ne_of_gt (Nat.lt_of_lt_of_le I.lt hb), I.nofs hb, .inr (Nat.le_trans I.sz hb), fun x c e z => ?_, fun p hp z => ?_⟩
  · obtain ⟨v, q⟩ := I.cell x c e
    exact absurd (Nat.lt_of_lt_of_le q.lt (by rw [z]; exact hb)) (Nat.lt_irrefl _)
  · exact absurd (Nat.lt_of_lt_of_le (Heap.lt_size (I.pin p hp).1) (by rw [z]; exact hb)) (Nat.lt_irrefl _)
structure Turn (P : Program) (w : World) (K : PySem.W.Frag) (tg : Expr) (J : It) (fp : List Addr) (it : Addr) (tn : Nat → Heap → Prop) : Prop where
  mem : it ∈ fp
  obj : ∀ i h, tn i h → ∀ b ∈ fp, ∃ o, h.get? b = some o ∧ ∀ v, o.data ≠ .cell v
  keep : ∀ i h h', tn i h → (∀ b ∈ fp, ∀ o, h.get? b = some o → h'.get? b = some o) → tn i h'
  item : ∀ (X : Cx), X.prog = P → X.w = w → X.K = K → X.calm = true → ∀ (i : Nat) (pins : List (Addr × Obj)) (s : Shared) (σ : St) (H : Hp) (E : Value → Shared → Prop), Inv X pins σ H s → (∀ b ∈ fp, FpOk X pins H b) → tn i s.heap → J.go i H →
    wpAny (model P w) X.A (pyNext (.ref it)) (fun r s1 => ∃ u, r = some u ∧
      wpAny (model P w) X.A (letOwnedTupleGo tg (.ref it) u) (fun _ s2 => ∃ x H', Inv X pins σ H' s2 ∧ RelV x u ∧ J.yld i H x H' ∧ tn (i + 1) s2.heap ∧ ∀ b ∈ fp, H' b = none) E s1) E s
  done : ∀ (X : Cx), X.prog = P → X.w = w → X.K = K → X.calm = true → ∀ (i : Nat) (pins : List (Addr × Obj)) (s : Shared) (σ : St) (H : Hp) (E : Value → Shared → Prop), Inv X pins σ H s → (∀ b ∈ fp, FpOk X pins H b) → tn i s.heap → J.stop i H →
    wpAny (model P w) X.A (pyNext (.ref it)) (fun r s1 => r = none ∧ Inv X pins σ H s1) E s
  self : ∀ (A : Around) (i : Nat) (s : Shared) (Q : Value → Shared → Prop) (E : Value → Shared → Prop), tn i s.heap → Q (.ref it) s → wpAny (model P w) A (pyIter (.ref it)) Q E s
abbrev TI := St → Hp → (It → Hp → Prop) → Prop
def PIE (X : Cx) (pins : List (Addr × Obj)) (σ : St) (tg : Expr) (R : It → Hp → Prop) (itv : Value) (s2 : Shared) : Prop :=
  ∃ (it : Addr) (fp : List Addr) (tn : Nat → Heap → Prop) (J : It) (H' : Hp), itv = .ref it ∧ Inv X pins σ H' s2 ∧ Turn X.prog X.w X.K tg J fp it tn ∧ tn 0 s2.heap ∧ (∀ b ∈ fp, FpOk X pins H' b) ∧ R J H'
def PI (X : Cx) (tg iter : Expr) (wi : TI) : Prop :=
  ∀ (pins : List (Addr × Obj)) (s : Shared) (σ : St) (H : Hp) (R : It → Hp → Prop), Inv X pins σ H s → wi σ H R →
    wpAny (model X.prog X.w) X.A (eval iter X.env) (fun v s1 => wpAny (model X.prog X.w) X.A (pyIter v) (PIE X pins σ tg R) X.xe s1) X.xe s
theorem go_of {M : Model} {A : Around} {E : Value → Shared → Prop} {s : Shared} {tg : Expr} {it : Addr} {u : Value} {o : Obj} {n : String} {vs : Array Value} {Q : Unit → Shared → Prop} (ho : s.heap.get? it = some o) (hc : o.cls = .type n) (hd : o.data = .fields vs)
    (hn : ["enumerate", "zip", "dict_itemiterator", "dict_reverseitemiterator", "odict_iterator", "itertools.zip_longest", "itertools.pairwise"].contains n = false) (hQ : Q () s) : wpAny M A (letOwnedTupleGo tg (.ref it) u) Q E s := by
  unfold letOwnedTupleGo
  cases tg <;> first
    | exact wpAny_pure hQ
    | (cases u <;> first
        | exact wpAny_pure hQ
        | (refine wpAny_bind (wpAny_load ho ?_)
           rw [hc, hd]
           show wpAny M A (if (["enumerate", "zip", "dict_itemiterator", "dict_reverseitemiterator", "odict_iterator", "itertools.zip_longest", "itertools.pairwise"].contains n && vs[0]? == some (rawInt _)) = true then _ else _) Q E s
           rw [if_neg (by intro h; rw [hn, Bool.false_and] at h; cases h)]
           exact wpAny_pure hQ))
def Itl (K : PySem.W.Frag) (a : Addr) : It :=
  ⟨fun i H => ∃ xs x, SqL K H a xs ∧ xs[i]? = some x, fun i H x H' => H' = H ∧ ∀ xs, SqL K H a xs → xs[i]? = some x, fun i H => ∃ xs, SqL K H a xs ∧ xs.length ≤ i⟩
def Itt (K : PySem.W.Frag) (a : Addr) : It :=
  ⟨fun i H => ∃ xs x, SqT K H a xs ∧ xs[i]? = some x, fun i H x H' => H' = H ∧ ∀ xs, SqT K H a xs → xs[i]? = some x, fun i H => ∃ xs, SqT K H a xs ∧ xs.length ≤ i⟩
def Itr (lo : Int) (n : Nat) : It := ⟨fun i _ => i < n, fun i H x H' => H' = H ∧ x = .int (lo + i), fun i _ => n ≤ i⟩
theorem turn_list {P : Program} {w : World} {K : PySem.W.Frag} {tg : Expr} (a it : Addr) : Turn P w K tg (Itl K a) [it] it (fun i h => h.IsListIter it a i) where
  mem := by simp
  obj := fun i h st b hb => by
    have e : b = it := by simpa using hb
    subst e
    obtain ⟨o, e, c, d⟩ := st
    exact ⟨o, e, fun v z => by rw [d] at z; cases z⟩
  keep := fun i h h' st k => st.at fun o e => k it (by simp) o e
  item := by
    intro X hP hw hK hc i pins s σ H E I hf st hg
    subst hP hw hK
    obtain ⟨xs, x, hq, hx⟩ := hg
    obtain ⟨its, rv, p, hz⟩ := I.list hq
    obtain ⟨u, hu, ru⟩ := rv.get hx
    obtain ⟨f0, f1, f2, f3, f4, f5⟩ := hf it (by simp)
    refine wpAny_pyNext_list_item st p.isList (x := u) (by simpa using hu) fun h' st' sb => ?_
    have I1 : Inv X pins σ H { s with heap := h' } := I.turned (t' := s.toks) (fun b o hb e => (sb.2 b hb).trans e) f0 f1 f3 f4 f5
    obtain ⟨o, e, c, d⟩ := id st'
    exact ⟨u, rfl, go_of (s := { s with heap := h' }) e c d (by decide) ⟨x, H, I1, ru, ⟨rfl, fun ys hy => by rw [I.list_inj hy hq]; exact hx⟩, st', fun b hb => (hf b hb).1⟩⟩
  done := by
    intro X hP hw hK hc i pins s σ H E I hf st hg
    subst hP hw hK
    obtain ⟨xs, hq, hx⟩ := hg
    obtain ⟨its, rv, p, hz⟩ := I.list hq
    obtain ⟨f0, f1, f2, f3, f4, f5⟩ := hf it (by simp)
    have hl := rv.length
    exact wpAny_pyNext_list_end (I.ok.hd hc) st p.isList (by simp; omega) fun h' eb => ⟨rfl, I.turned (t' := s.toks) (fun b o hb e => eb b o hb e) f0 f1 f3 f4 f5⟩
  self := fun _ _ _ _ _ st h => wpAny_pyIter_listiter st h
theorem turn_tuple {P : Program} {w : World} {K : PySem.W.Frag} {tg : Expr} (a it : Addr) : Turn P w K tg (Itt K a) [it] it (fun i h => h.IsTupleIter it a i) where
  mem := by simp
  obj := fun i h st b hb => by
    have e : b = it := by simpa using hb
    subst e
    obtain ⟨o, e, c, d⟩ := st
    exact ⟨o, e, fun v z => by rw [d] at z; cases z⟩
  keep := fun i h h' st k => st.at fun o e => k it (by simp) o e
  item := by
    intro X hP hw hK hc i pins s σ H E I hf st hg
    subst hP hw hK
    obtain ⟨xs, x, hq, hx⟩ := hg
    obtain ⟨its, rv, p, hz⟩ := I.tuple hq
    obtain ⟨u, hu, ru⟩ := rv.get hx
    obtain ⟨f0, f1, f2, f3, f4, f5⟩ := hf it (by simp)
    refine wpAny_pyNext_tuple_item st (show s.heap.IsTuple a its.toArray from p) (x := u) (by simpa using hu) fun h' st' sb => ?_
    have I1 : Inv X pins σ H { s with heap := h' } := I.turned (t' := s.toks) (fun b o hb e => (sb.2 b hb).trans e) f0 f1 f3 f4 f5
    obtain ⟨o, e, c, d⟩ := id st'
    exact ⟨u, rfl, go_of (s := { s with heap := h' }) e c d (by decide) ⟨x, H, I1, ru, ⟨rfl, fun ys hy => by rw [I.tuple_inj hy hq]; exact hx⟩, st', fun b hb => (hf b hb).1⟩⟩
  done := by
    intro X hP hw hK hc i pins s σ H E I hf st hg
    subst hP hw hK
    obtain ⟨xs, hq, hx⟩ := hg
    obtain ⟨its, rv, p, hz⟩ := I.tuple hq
    obtain ⟨f0, f1, f2, f3, f4, f5⟩ := hf it (by simp)
    have hl := rv.length
    exact wpAny_pyNext_tuple_end (I.ok.hd hc) st (show s.heap.IsTuple a its.toArray from p) (by simp; omega) fun h' eb => ⟨rfl, I.turned (t' := s.toks) (fun b o hb e => eb b o hb e) f0 f1 f3 f4 f5⟩
  self := fun _ _ _ _ _ st h => wpAny_pyIter_tupleiter st h
theorem turn_range {P : Program} {w : World} {K : PySem.W.Frag} {tg : Expr} (it : Addr) (lo : Int) (n : Nat) : Turn P w K tg (Itr lo n) [it] it (fun i h => IsRangeIter h it (lo + (i : Nat) * 1) ((n : Int) - (i : Nat)) 1) where
  mem := by simp
  obj := fun i h st b hb => by
    have e : b = it := by simpa using hb
    subst e
    exact ⟨_, st, fun v z => by
      have z' : Data.fields _ = Data.cell v := z
      cases z'⟩
  keep := fun i h h' st k => k it (by simp) _ st
  item := by
    intro X hP hw hK hc i pins s σ H E I hf st hg
    subst hP hw hK
    obtain ⟨f0, f1, f2, f3, f4, f5⟩ := hf it (by simp)
    have W := Walks.range (prog := X.prog) (w := X.w) (I.ok.hd hc) it lo 1 n
    refine W.item i s _ _ hg st fun v h' tk hv st' kk => ?_
    obtain ⟨t, rfl⟩ := hv
    have I1 : Inv X pins σ H { s with heap := h', toks := tk } := I.turned (fun b o hb e => kk b o (by simpa using hb) e) f0 f1 f3 f4 f5
    refine ⟨_, rfl, go_of (s := { s with heap := h', toks := tk }) (n := "range_iterator") st' rfl rfl (by decide) ⟨.int (lo + i), H, I1, ⟨t, ?_⟩, ⟨rfl, rfl⟩, st', fun b hb => (hf b hb).1⟩⟩
    rw [Int.mul_one]
  done := by
    intro X hP hw hK hc i pins s σ H E I hf st hg
    subst hP hw hK
    obtain ⟨f0, f1, f2, f3, f4, f5⟩ := hf it (by simp)
    exact wpAny_pyNext_range_end (I.ok.hd hc) st (by have : n ≤ i := hg; omega) fun h' eb => ⟨rfl, I.turned (t' := s.toks) (fun b o hb e => eb b o hb e) f0 f1 f3 f4 f5⟩
  self := fun _ _ _ _ _ st h => wpAny_pyIter_rangeiter st h
end L2
namespace L2
open PySem PySem.Spec PyProof.Rows
section
variable {X : Cx} {tg : Expr}
def iList (K : PySem.W.Frag) (tl : TE) : TI := fun σ H R => tl σ H fun x H1 => ∃ a, x = .ref a ∧ (∃ xs, SqL K H1 a xs) ∧ R (Itl K a) H1
def iTup (K : PySem.W.Frag) (tl : TE) : TI := fun σ H R => tl σ H fun x H1 => ∃ a, x = .ref a ∧ (∃ xs, SqT K H1 a xs) ∧ R (Itt K a) H1
theorem pi_list {l : Expr} {tl : TE} (hl : PE X l tl) : PI X tg l (iList X.K tl) := by
  intro pins s σ H R I h
  refine thn (hl pins s σ H _ I h) fun v s1 ⟨x, H1, I1, r1, q1⟩ => ?_
  obtain ⟨a, e, ⟨xs, hq⟩, q⟩ := q1
  subst e
  cases r1
  obtain ⟨its, rv, p, hz⟩ := I1.list hq
  refine wpAny_pyIter_list p.isList ?_
  refine ⟨s1.heap.objs.size, [s1.heap.objs.size], _, _, H1, rfl, I1.kept (t' := s1.toks) fun b o e => Heap.get?_push_of_some _ e, turn_list a _, ⟨_, Heap.get?_push_size _ rfl, rfl, rfl⟩, fun b hb => ?_, q⟩
  have e : b = s1.heap.objs.size := by simpa using hb
  subst e
  exact I1.fpOk (Nat.le_refl _) (I1.hok.fresh (Nat.le_refl _))
theorem pi_tup {l : Expr} {tl : TE} (hl : PE X l tl) : PI X tg l (iTup X.K tl) := by
  intro pins s σ H R I h
  refine thn (hl pins s σ H _ I h) fun v s1 ⟨x, H1, I1, r1, q1⟩ => ?_
  obtain ⟨a, e, ⟨xs, hq⟩, q⟩ := q1
  subst e
  cases r1
  obtain ⟨its, rv, p, hz⟩ := I1.tuple hq
  refine wpAny_pyIter_tuple (show s1.heap.IsTuple a its.toArray from p) ?_
  refine ⟨s1.heap.objs.size, [s1.heap.objs.size], _, _, H1, rfl, I1.kept (t' := s1.toks) fun b o e => Heap.get?_push_of_some _ e, turn_tuple a _, ⟨_, Heap.get?_push_size _ rfl, rfl, rfl⟩, fun b hb => ?_, q⟩
  have e : b = s1.heap.objs.size := by simpa using hb
  subst e
  exact I1.fpOk (Nat.le_refl _) (I1.hok.fresh (Nat.le_refl _))
theorem range_it {pins : List (Addr × Obj)} {σ : St} {H : Hp} {s : Shared} {R : It → Hp → Prop} {E : Value → Shared → Prop} {lo hi : Int} {t u v : Tok} {tk : Nat} (I : Inv X pins σ H s) (h1 : -(2 ^ 62) ≤ lo) (h2 : lo < 2 ^ 62) (h3 : -(2 ^ 62) ≤ hi) (h4 : hi < 2 ^ 62)
    (q : R (Itr lo (hi - lo).toNat) H) : wpAny (model X.prog X.w) X.A (pyIter (.ref s.heap.objs.size)) (PIE X pins σ tg R) E { s with heap := s.heap.push { cls := .type "range", data := .fields #[.int lo t, .int hi u, .int 1 v] }, toks := tk } := by
  refine wpAny_pyIter_range (IsRange.new ..) (small_one h1 h2 h3 h4) ?_
  have I1 : Inv X pins σ H { s with heap := s.heap.push { cls := .type "range", data := .fields #[.int lo t, .int hi u, .int 1 v] }, toks := tk } := I.kept fun b o e => Heap.get?_push_of_some _ e
  refine ⟨(s.heap.push { cls := .type "range", data := .fields #[.int lo t, .int hi u, .int 1 v] }).objs.size, [(s.heap.push { cls := .type "range", data := .fields #[.int lo t, .int hi u, .int 1 v] }).objs.size], _, _, H, rfl,
    I1.kept (t' := tk) fun b o e => Heap.get?_push_of_some _ e, turn_range _ lo (hi - lo).toNat, ?_, fun b hb => ?_, q⟩
  · have e1 : lo + ((0 : Nat) : Int) * 1 = lo := by simp
    have e2 : (((hi - lo).toNat : Nat) : Int) - ((0 : Nat) : Int) = Builtin.Range.rangeSize lo hi 1 := by rw [rangeSize_one]; split <;> omega
    show IsRangeIter _ _ (lo + ((0 : Nat) : Int) * 1) ((((hi - lo).toNat : Nat) : Int) - ((0 : Nat) : Int)) 1
    rw [e1, e2]
    exact Heap.get?_push_size _ rfl
  · have e : b = (s.heap.push { cls := .type "range", data := .fields #[.int lo t, .int hi u, .int 1 v] }).objs.size := by simpa using hb
    subst e
    exact I1.fpOk (Nat.le_refl _) (I1.hok.fresh (Nat.le_refl _))
def iRng1 (ta : TA) : TI := fun σ H R => ta σ H fun vs H1 => ∃ j : Int, vs = [.int j] ∧ -(2 ^ 62) ≤ j ∧ j < 2 ^ 62 ∧ R (Itr 0 j.toNat) H1
theorem pi_range1 {a : Expr} {ta : TA} {p pos : Pos} (hg : Gl X "range") (hm : X.mg "range" = none) (ha : PA X [a] ta) (hs : starEach [a] X.env = [(false, eval a X.env)] := by rfl) : PI X tg (.Call (.Name "range" p) [a] [] pos) (iRng1 ta) := by
  intro pins s σ H R I h
  refine Call_ (ld_blt I hg hm boot_range (PyProof.Rows.callWith_type1 (thn (ha pos pins s σ H _ I h) fun us s1 ⟨vs, H1, I1, r1, q1⟩ => ?_) hs rfl))
  obtain ⟨j, e, q1, q2, q⟩ := q1
  subst e
  cases r1 with
  | cons r rr =>
    cases rr
    obtain ⟨t, rfl⟩ := r
    exact call_range_1 (range_it I1 (by omega) (by omega) q1 q2 (by simpa using q))
def tFor (wi : TI) (g : TG) (tb : TS) : TS := fun D σ H => wi σ H fun J H1 => ∃ W : Nat → Nat → St → Hp → Prop, (∃ m, W 0 m σ H1) ∧ ∀ i m σ H, W i m σ H →
  (J.stop i H ∧ D.nx σ H) ∨ (J.go i H ∧ ∃ N : St → Hp → Prop, (∀ σ' H', N σ' H' → ∃ m', m' < m ∧ W (i + 1) m' σ' H') ∧ ∀ x H', J.yld i H x H' → g x σ H' fun σ2 H2 => tb { D with nx := N, ct := N, bk := D.nx } σ2 H2)
def pinsAt (fp : List Addr) (h : Heap) : List (Addr × Obj) := fp.filterMap fun b => (h.get? b).map fun o => (b, o)
theorem mem_pinsAt {fp : List Addr} {h : Heap} {b : Addr} {o : Obj} (hb : b ∈ fp) (e : h.get? b = some o) : (b, o) ∈ pinsAt fp h := List.mem_filterMap.mpr ⟨b, hb, by rw [e]; rfl⟩
theorem of_pinsAt {fp : List Addr} {h : Heap} {p : Addr × Obj} (hp : p ∈ pinsAt fp h) : p.1 ∈ fp ∧ h.get? p.1 = some p.2 := by
  obtain ⟨b, hb, e⟩ := List.mem_filterMap.mp hp
  cases q : h.get? b with
  | none => rw [q] at e; cases e
  | some o =>
    rw [q] at e
    have e' : (b, o) = p := Option.some.inj e
    subst e'
    exact ⟨hb, q⟩
theorem Inv.pinned {pins : List (Addr × Obj)} {σ : St} {H : Hp} {s : Shared} {fp : List Addr} (I : Inv X pins σ H s) (hf : ∀ b ∈ fp, FpOk X pins H b) (ho : ∀ b ∈ fp, ∃ o, s.heap.get? b = some o ∧ ∀ v, o.data ≠ .cell v) : Inv X (pins ++ pinsAt fp s.heap) σ H s :=
  I.pins_of fun p hp => (List.mem_append.mp hp).elim (fun z => I.pin p (List.mem_append_right _ z)) fun z => by
    obtain ⟨hb, e⟩ := of_pinsAt z
    obtain ⟨f0, f1, f2, _⟩ := hf p.1 hb
    obtain ⟨o, e', d⟩ := ho p.1 hb
    rw [e] at e'; cases e'
    exact ⟨e, f0, f1, f2, d⟩
theorem Inv.unpinned {pins pl : List (Addr × Obj)} {σ : St} {H : Hp} {s : Shared} (I : Inv X (pins ++ pl) σ H s) : Inv X pins σ H s := I.pins_of fun p hp => I.pin p (List.mem_append_right _ (List.mem_append_left _ hp))
theorem ps_for {iter : Expr} {body : List Stmt} {wi : TI} {g : TG} {tb : TS} {pos : Pos} (hp : PassesOwn (model X.prog X.w) X.A X.env X.xe) (hc : X.calm = true) (hi : PI X tg iter wi) (hg : PG X tg g) (hb : PSs X body tb)
    (hs : ∀ x, foldedSetIterable iter X.env x = pure x := by intro _; rfl) : PS X (.For tg iter body [] pos) (tFor wi g tb) := by
  intro pins s σ H D I h
  refine wpAny_For (thn (hi pins s σ H _ I h) fun v s1 h1 => thn h1 fun itv s2 h2 => ?_) hs
  obtain ⟨it, fp, tn, J, H2, e, I2, T, st2, f2, W, ⟨m0, w0⟩, turn⟩ := h2
  subst e
  have stat : ∀ {H' : Hp}, (∀ b ∈ fp, H' b = none) → ∀ b ∈ fp, FpOk X pins H' b := fun hn b hb => ⟨hn b hb, (f2 b hb).2⟩
  refine codeAny_forLoop_any (fun n s' => ∃ i σ' H', Inv X pins σ' H' s' ∧ tn i s'.heap ∧ (∀ b ∈ fp, H' b = none) ∧ W i n σ' H') ?_ m0 ⟨0, σ, H2, I2, st2, fun b hb => (f2 b hb).1, w0⟩
  rintro n s3 ⟨i, σ3, H3, I3, st3, fr3, w3⟩
  rcases turn i n σ3 H3 w3 with ⟨stop, qn⟩ | ⟨go, N, hN, step⟩
  · refine wpAny_passesOwn hp (thn (T.done X rfl rfl rfl hc i pins s3 σ3 H3 X.xe I3 (stat fr3) st3 stop) fun r s4 ⟨hr, I4⟩ => ?_)
    subst hr
    exact wpAny_execs_nil ⟨σ3, H3, I4, qn⟩
  · refine wpAny_passesOwn hp (thn (T.item X rfl rfl rfl hc i pins s3 σ3 H3 X.xe I3 (stat fr3) st3 go) fun r s4 ⟨u, hr, h4⟩ => ?_)
    subst hr
    refine wpAny_passesOwn hp (thn h4 fun _ s5 ⟨x, H5, I5, r5, y5, st5, fr5⟩ => ?_)
    have I5' := I5.pinned (stat fr5) (T.obj _ _ st5)
    refine wpAny_passesOwn hp (thn (hg _ s5 σ3 H5 x u _ I5' r5 (step x H5 y5)) fun _ s6 ⟨σ6, H6, I6, q6⟩ => ?_)
    refine wpAny_passesOwn hp (thn (hb _ s6 σ6 H6 _ I6 q6) fun f s7 q7 => ?_)
    have again : ∀ {σ7 : St} {H7 : Hp}, Inv X (pins ++ pinsAt fp s5.heap) σ7 H7 s7 → N σ7 H7 → ∃ m, m < n ∧ ∃ i σ' H', Inv X pins σ' H' s7 ∧ tn i s7.heap ∧ (∀ b ∈ fp, H' b = none) ∧ W i m σ' H' := fun {σ7 H7} I7 n7 => by
      obtain ⟨m', hm, w7⟩ := hN σ7 H7 n7
      refine ⟨m', hm, i + 1, σ7, H7, I7.unpinned, T.keep _ _ _ st5 fun b hb o e => (I7.pin (b, o) (List.mem_append_right _ (List.mem_append_right _ (mem_pinsAt hb e)))).1, fun b hb => ?_, w7⟩
      obtain ⟨o, e, d⟩ := T.obj _ _ st5 b hb
      exact (I7.pin (b, o) (List.mem_append_right _ (List.mem_append_right _ (mem_pinsAt hb e)))).2.1
    cases f with
    | next => obtain ⟨σ7, H7, I7, n7⟩ := q7; exact again I7 n7
    | cont => obtain ⟨σ7, H7, I7, n7⟩ := q7; exact again I7 n7
    | brk => obtain ⟨σ7, H7, I7, q7⟩ := q7; exact ⟨σ7, H7, I7.unpinned, q7⟩
    | ret v => obtain ⟨x7, σ7, H7, I7, r7, q7⟩ := q7; exact ⟨x7, σ7, H7, I7.unpinned, r7, q7⟩
end
end L2
namespace L2
open PySem PySem.Spec PyProof.Rows
abbrev R2 := V → V → Hp → VK → Prop
def OpR (X : Cx) (f : Value → Value → Sem Value) (r : R2) : Prop :=
  ∀ (pins : List (Addr × Obj)) (s : Shared) (σ : St) (H : Hp) (x y : V) (v u : Value) (Q : VK), Inv X pins σ H s → RelV x v → RelV y u → r x y H Q →
    wpAny (model X.prog X.w) X.A (f v u) (EP X pins σ Q) X.xe s
def UnR (X : Cx) (f : Value → Sem Value) (r : V → Hp → VK → Prop) : Prop :=
  ∀ (pins : List (Addr × Obj)) (s : Shared) (σ : St) (H : Hp) (x : V) (v : Value) (Q : VK), Inv X pins σ H s → RelV x v → r x H Q →
    wpAny (model X.prog X.w) X.A (f v) (EP X pins σ Q) X.xe s
def CallR (X : Cx) (f : Value) (r : List V → Hp → VK → Prop) : Prop :=
  ∀ (pins : List (Addr × Obj)) (s : Shared) (σ : St) (H : Hp) (xs : List V) (us : List Value) (Q : VK), Inv X pins σ H s → Vals xs us → r xs H Q →
    wpAny (model X.prog X.w) X.A (call f us) (EP X pins σ Q) X.xe s
def TruR (X : Cx) (r : V → Hp → (Bool → Hp → Prop) → Prop) : Prop :=
  ∀ (pins : List (Addr × Obj)) (s : Shared) (σ : St) (H : Hp) (x : V) (v : Value) (Q : Bool → Hp → Prop), Inv X pins σ H s → RelV x v → r x H Q →
    wpAny (model X.prog X.w) X.A (truthy v) (TP X pins σ Q) X.xe s
def tOp (r : R2) (ta tb : TE) : TE := fun σ H Q => ta σ H fun x H1 => tb σ H1 fun y H2 => r x y H2 Q
def tUn (r : V → Hp → VK → Prop) (ta : TE) : TE := fun σ H Q => ta σ H fun x H1 => r x H1 Q
def rI (C : Int → Int → Prop) (g : Int → Int → V) : R2 := fun x y H Q => ∃ i j, x = .int i ∧ y = .int j ∧ C i j ∧ Q (g i j) H
def rI0 (g : Int → Int → V) : R2 := fun x y H Q => ∃ i j, x = .int i ∧ y = .int j ∧ Q (g i j) H
def rU (g : Int → V) : V → Hp → VK → Prop := fun x H Q => ∃ i, x = .int i ∧ Q (g i) H
section
variable {X : Cx} {a b c : Expr} {ta tb tc : TE} {pos : Pos}
theorem binT (ha : PE X a ta) (hb : PE X b tb) {pins : List (Addr × Obj)} {s : Shared} {σ : St} {H : Hp} {R : V → V → Hp → Prop} (I : Inv X pins σ H s)
    (h : ta σ H fun x H1 => tb σ H1 fun y H2 => R x y H2) {Q : Value → Shared → Prop} {f : Value → Value → Sem Value}
    (hf : ∀ v u s2 x y H2, Inv X pins σ H2 s2 → RelV x v → RelV y u → R x y H2 → wpAny (model X.prog X.w) X.A (f v u) Q X.xe s2) :
    wpAny (model X.prog X.w) X.A (eval a X.env) (fun v s₁ => wpAny (model X.prog X.w) X.A (eval b X.env) (fun u s₂ => wpAny (model X.prog X.w) X.A (f v u) Q X.xe s₂) X.xe s₁) X.xe s := by
  refine thn (ha pins s σ H _ I h) fun v s1 ⟨x, H1, I1, r1, q1⟩ => ?_
  refine thn (hb pins s1 σ H1 _ I1 q1) fun u s2 ⟨y, H2, I2, r2, q2⟩ => ?_
  exact hf v u s2 x y H2 I2 r1 r2 q2
theorem pe_op {op : Operator} {r : R2} (ho : OpR X (binaryOp op) r) (ha : PE X a ta) (hb : PE X b tb) : PE X (.BinOp a op b pos) (tOp r ta tb) := by
  intro pins s σ H Q I h
  exact wpAny_BinOp (binT ha hb I h fun v u s2 x y H2 I2 rx ry q => ho pins s2 σ H2 x y v u Q I2 rx ry q)
theorem pe_un {op : UnaryOp} {r : V → Hp → VK → Prop} (ho : UnR X (unaryOp op) r) (ha : PE X a ta) : PE X (.UnaryOp op a pos) (tUn r ta) := by
  intro pins s σ H Q I h
  exact UnaryOp_ (thn (ha pins s σ H _ I h) fun v s1 ⟨x, H1, I1, r1, q1⟩ => ho pins s1 σ H1 x v Q I1 r1 q1)
theorem opI {f : Value → Value → Sem Value} {C : Int → Int → Prop} {g : Int → Int → Int}
    (rule : ∀ (i j : Int) (t u : Tok) (s : Shared) (Q : Value → Shared → Prop) (E : Value → Shared → Prop), C i j → Q (.int (g i j) s.toks) { s with toks := s.toks + 1 } → wpAny (model X.prog X.w) X.A (f (.int i t) (.int j u)) Q E s) :
    OpR X f (rI C fun i j => .int (g i j)) := by
  intro pins s σ H x y v u Q I rx ry h
  obtain ⟨i, j, rfl, rfl, hc, q⟩ := h
  obtain ⟨t, rfl⟩ := rx
  obtain ⟨t', rfl⟩ := ry
  exact rule i j t t' s _ _ hc ⟨.int (g i j), H, I.tok _, ⟨_, rfl⟩, q⟩
theorem opI0 {f : Value → Value → Sem Value} {g : Int → Int → Int}
    (rule : ∀ (i j : Int) (t u : Tok) (s : Shared) (Q : Value → Shared → Prop) (E : Value → Shared → Prop), Q (.int (g i j) s.toks) { s with toks := s.toks + 1 } → wpAny (model X.prog X.w) X.A (f (.int i t) (.int j u)) Q E s) :
    OpR X f (rI0 fun i j => .int (g i j)) := by
  intro pins s σ H x y v u Q I rx ry h
  obtain ⟨i, j, rfl, rfl, q⟩ := h
  obtain ⟨t, rfl⟩ := rx
  obtain ⟨t', rfl⟩ := ry
  exact rule i j t t' s _ _ ⟨.int (g i j), H, I.tok _, ⟨_, rfl⟩, q⟩
theorem opB0 {f : Value → Value → Sem Value} {g : Int → Int → Bool}
    (rule : ∀ (i j : Int) (t u : Tok) (s : Shared) (Q : Value → Shared → Prop) (E : Value → Shared → Prop), Q (.bool (g i j)) s → wpAny (model X.prog X.w) X.A (f (.int i t) (.int j u)) Q E s) :
    OpR X f (rI0 fun i j => .bl (g i j)) := by
  intro pins s σ H x y v u Q I rx ry h
  obtain ⟨i, j, rfl, rfl, q⟩ := h
  obtain ⟨t, rfl⟩ := rx
  obtain ⟨t', rfl⟩ := ry
  exact rule i j t t' s _ _ ⟨.bl (g i j), H, I, rfl, q⟩
def CMul (i j : Int) : Prop := (-(2 ^ 64) < i ∧ i < 2 ^ 64) ∨ (-(2 ^ 64) < j ∧ j < 2 ^ 64)
theorem CMul.ok {i j : Int} (h : CMul i j) : IntMulOk i j := by
  rcases h with ⟨h1, h2⟩ | ⟨h1, h2⟩
  · exact .of_left (intBits_le_64 h1 h2)
  · exact .of_right (intBits_le_64 h1 h2)
theorem op_add : OpR X (binaryOp .Add) (rI0 fun i j => .int (i + j)) := opI0 fun _ _ _ _ _ _ _ q => add_int q
theorem op_sub : OpR X (binaryOp .Sub) (rI0 fun i j => .int (i - j)) := opI0 fun _ _ _ _ _ _ _ q => sub_int q
theorem op_mod : OpR X (binaryOp .Mod) (rI (fun _ j => 0 < j) fun i j => .int (i % j)) := opI fun i j _ _ _ _ _ hc q => by
  have h1 : (0 : Int) < j := hc
  exact mod_int' (by omega) (by rw [Int.fmod_eq_emod_of_nonneg i (by omega)]; exact q)
theorem unI {f : Value → Sem Value} {g : Int → Int}
    (rule : ∀ (i : Int) (t : Tok) (s : Shared) (Q : Value → Shared → Prop) (E : Value → Shared → Prop), Q (.int (g i) s.toks) { s with toks := s.toks + 1 } → wpAny (model X.prog X.w) X.A (f (.int i t)) Q E s) :
    UnR X f (rU fun i => .int (g i)) := by
  intro pins s σ H x v Q I rx h
  obtain ⟨i, rfl, q⟩ := h
  obtain ⟨t, rfl⟩ := rx
  exact rule i t s _ _ ⟨.int (g i), H, I.tok _, ⟨_, rfl⟩, q⟩
theorem un_neg : UnR X (unaryOp .USub) (rU fun i => .int (-i)) := unI fun _ _ _ _ _ q => neg_int q
end
section
variable {X : Cx} {a b c : Expr} {ta tb tc : TE} {pos : Pos}
theorem fin_bl {pins : List (Addr × Obj)} {σ : St} {H : Hp} {s : Shared} {Q : VK} {k k' : Bool} (I : Inv X pins σ H s) (q : Q (.bl k) H) (e : k = k') : EP X pins σ Q (.bool k') s := by
  subst e
  exact ⟨.bl k, H, I, rfl, q⟩
theorem op_lt : OpR X (compareOp .Lt) (rI0 fun i j => .bl (decide (i < j))) := opB0 fun _ _ _ _ _ _ _ q => lt_int q
theorem op_le : OpR X (compareOp .LtE) (rI0 fun i j => .bl (decide (i ≤ j))) := opB0 fun _ _ _ _ _ _ _ q => le_int q
theorem op_gt : OpR X (compareOp .Gt) (rI0 fun i j => .bl (decide (j < i))) := opB0 fun _ _ _ _ _ _ _ q => gt_int q
theorem op_ge : OpR X (compareOp .GtE) (rI0 fun i j => .bl (decide (j ≤ i))) := opB0 fun _ _ _ _ _ _ _ q => ge_int q
theorem op_in_str : OpR X (compareOp .In) (fun x y H Q => ∃ i j, x = .str i ∧ y = .str j ∧ Q (.bl (!(Builtin.Str.occurrences j i 0 j.length 1).isEmpty)) H) := by
  intro pins s σ H x y v u Q I rx ry h
  obtain ⟨i, j, rfl, rfl, q⟩ := h
  obtain ⟨t, rfl⟩ := rx
  obtain ⟨t', rfl⟩ := ry
  exact in_str (fin_bl I q rfl)
theorem op_isN : OpR X (compareOp .Is) (fun x y H Q => y = .non ∧ Q (.bl (decide (x = .non))) H) := by
  intro pins s σ H x y v u Q I rx ry h
  obtain ⟨rfl, q⟩ := h
  cases ry
  refine is_none_gen (fin_bl I q ?_)
  cases x <;> first
    | (cases rx; rfl)
    | (obtain ⟨t, rfl⟩ := rx; rfl)
theorem OpR.or {f : Value → Value → Sem Value} {r r' : R2} (h : OpR X f r) (h' : OpR X f r') : OpR X f (fun x y H Q => r x y H Q ∨ r' x y H Q) := by
  intro pins s σ H x y v u Q I rx ry q
  rcases q with q | q
  · exact h pins s σ H x y v u Q I rx ry q
  · exact h' pins s σ H x y v u Q I rx ry q
theorem nomark (b : Expr) {op : CmpOp} (h : op ≠ .In := by decide) (h2 : op ≠ .NotIn := by decide) : behindInMarks op b = false := by
  have e1 : (op == CmpOp.In) = false := by cases op <;> first | rfl | exact absurd rfl h
  have e2 : (op == CmpOp.NotIn) = false := by cases op <;> first | rfl | exact absurd rfl h2
  cases b <;> simp [behindInMarks, e1, e2]
theorem pe_cmpR {op : CmpOp} {r : R2} (ho : OpR X (compareOp op) r) (ha : PE X a ta) (hb : PE X b tb) (hm : behindInMarks op b = false) : PE X (.Compare a [op] [b] pos) (tOp r ta tb) := by
  intro pins s σ H Q I h
  exact wpAny_Compare1 (binT ha hb I h fun v u s2 x y H2 I2 rx ry q => ho pins s2 σ H2 x y v u Q I2 rx ry q) hm
def tTest (t : TE) : TT := fun σ H Q => t σ H fun x H' => ∃ k, x = .bl k ∧ Q k H'
theorem pt_cmpR {op : CmpOp} {r : R2} (ho : OpR X (compareOp op) r) (ha : PE X a ta) (hb : PE X b tb) (hm : behindInMarks op b = false) : PT X (.Compare a [op] [b] pos) (tTest (tOp r ta tb)) := by
  intro pins s σ H Q I h
  refine wpAny_isTrue_Compare1 (thn (ha pins s σ H _ I h) fun v s1 ⟨x, H1, I1, r1, q1⟩ => thn (hb pins s1 σ H1 _ I1 q1) fun u s2 ⟨y, H2, I2, r2, q2⟩ =>
    thn (ho pins s2 σ H2 x y v u _ I2 r1 r2 q2) fun c s3 ⟨z, H3, I3, r3, k, e, q3⟩ => ?_) hm
  subst e
  cases r3
  exact wpAny_truthy_bool ⟨H3, I3, q3⟩
def tChain (r r' : R2) (ta tb tc : TE) : TE := fun σ H Q => ta σ H fun x H1 => tb σ H1 fun y H2 => r x y H2 fun z H3 => ∃ k, z = .bl k ∧
  (if k = true then tc σ H3 fun w' H4 => r' y w' H4 Q else Q (.bl false) H3)
theorem pe_chain {op op' : CmpOp} {r r' : R2} (ho : OpR X (compareOp op) r) (ho' : OpR X (compareOp op') r') (ha : PE X a ta) (hb : PE X b tb) (hc : PE X c tc)
    (hm : lastMarks [op, op'] [b, c] = false := by with_unfolding_all rfl) : PE X (.Compare a [op, op'] [b, c] pos) (tChain r r' ta tb tc) := by
  intro pins s σ H Q I h
  refine Compare_chain (thn (ha pins s σ H _ I h) fun v s1 ⟨x, H1, I1, r1, q1⟩ => chain_link (thn (hb pins s1 σ H1 _ I1 q1) fun u s2 ⟨y, H2, I2, r2, q2⟩ =>
    thn (ho pins s2 σ H2 x y v u _ I2 r1 r2 q2) fun d s3 ⟨z, H3, I3, r3, k, e, q3⟩ => ?_)) hm
  subst e
  cases r3
  refine wpAny_truthy_bool ?_
  cases k with
  | false => exact ite_ff ⟨.bl false, H3, I3, rfl, q3⟩
  | true => exact ite_tt (chain_last (thn (hc pins s3 σ H3 _ I3 q3) fun w' s4 ⟨z', H4, I4, r4, q4⟩ => ho' pins s4 σ H4 y z' u w' Q I4 r2 r4 q4))
theorem pt_chain {op op' : CmpOp} {r r' : R2} (ho : OpR X (compareOp op) r) (ho' : OpR X (compareOp op') r') (ha : PE X a ta) (hb : PE X b tb) (hc : PE X c tc)
    (hm : lastMarks [op, op'] [b, c] = false := by with_unfolding_all rfl) : PT X (.Compare a [op, op'] [b, c] pos) (tTest (tChain r r' ta tb tc)) := by
  intro pins s σ H Q I h
  refine isTrue_chain (thn (ha pins s σ H _ I h) fun v s1 ⟨x, H1, I1, r1, q1⟩ => test_link (thn (hb pins s1 σ H1 _ I1 q1) fun u s2 ⟨y, H2, I2, r2, q2⟩ =>
    thn (ho pins s2 σ H2 x y v u _ I2 r1 r2 q2) fun d s3 ⟨z, H3, I3, r3, k, e, q3⟩ => ?_)) hm
  subst e
  cases r3
  refine wpAny_truthy_bool ?_
  cases k with
  | false =>
    obtain ⟨k', e', q'⟩ := q3
    cases e'
    exact ite_ff ⟨H3, I3, q'⟩
  | true =>
    refine ite_tt (test_last (thn (hc pins s3 σ H3 _ I3 q3) fun w' s4 ⟨z', H4, I4, r4, q4⟩ => thn (ho' pins s4 σ H4 y z' u w' _ I4 r2 r4 q4) fun d' s5 ⟨z2, H5, I5, r5, k2, e2, q5⟩ => ?_))
    subst e2
    cases r5
    exact wpAny_truthy_bool ⟨H5, I5, q5⟩
def TruV (K : PySem.W.Frag) (x : V) (H : Hp) (k : Bool) : Prop :=
  match x with
  | .non => k = false
  | .bl b => k = b
  | .int i => k = (i != 0)
  | .str y => y.length ≤ sizeLine ∧ k = ((y.length : Int) != 0)
  | .byt y => y.size ≤ sizeLine ∧ k = ((y.size : Int) != 0)
  | .ref p => (∃ xs, SqL K H p xs ∧ k = !xs.isEmpty) ∨ (∃ xs, SqT K H p xs ∧ k = !xs.isEmpty) ∨ ∃ kvs, H p = some (.dK kvs) ∧ k = !kvs.isEmpty
  | _ => False
theorem isEmpty_kv {κ : Type} {kvs : List (κ × V)} {vs : List (κ × Value)} (r : KV kvs vs) : (!vs.isEmpty) = !kvs.isEmpty := by
  cases r <;> rfl
theorem isEmpty_of {xs : List V} {its : List Value} (r : Vals xs its) : (!its.toArray.isEmpty) = !xs.isEmpty := by
  cases r <;> simp
theorem line63 : (sizeLine : Nat) < 2 ^ 63 := by rw [sizeLine_eq]; decide
theorem tru_ok : TruR X (fun x H Q => ∃ k, TruV X.K x H k ∧ Q k H) := by
  intro pins s σ H x v Q I rx h
  obtain ⟨k, e, q⟩ := h
  have hl := line63
  have hs : sizeLine = 16777216 := sizeLine_eq
  cases x with
  | non =>
    cases rx
    have e' : k = false := e
    subst e'
    exact truthy_none ⟨H, I, q⟩
  | bl b =>
    cases rx
    have e' : k = b := e
    subst e'
    exact wpAny_truthy_bool ⟨H, I, q⟩
  | int i =>
    obtain ⟨t, rfl⟩ := rx
    have e' : k = (i != 0) := e
    subst e'
    exact PySem.P.truthy_int ⟨H, I, q⟩
  | str y =>
    obtain ⟨t, rfl⟩ := rx
    obtain ⟨hy, e'⟩ : y.length ≤ sizeLine ∧ k = ((y.length : Int) != 0) := e
    subst e'
    exact PySem.P.truthy_str (by omega) ⟨H, I.tok _, q⟩
  | byt y =>
    obtain ⟨t, rfl⟩ := rx
    obtain ⟨hy, e'⟩ : y.size ≤ sizeLine ∧ k = ((y.size : Int) != 0) := e
    subst e'
    exact PySem.W.truthy_bytes (by omega) ⟨H, I.tok _, q⟩
  | ref p =>
    cases rx
    have e' : (∃ xs, SqL X.K H p xs ∧ k = !xs.isEmpty) ∨ (∃ xs, SqT X.K H p xs ∧ k = !xs.isEmpty) ∨ ∃ kvs, H p = some (.dK kvs) ∧ k = !kvs.isEmpty := e
    rcases e' with ⟨xs, hx, e'⟩ | ⟨xs, hx, e'⟩ | ⟨kvs, hx, e'⟩
    · subst e'
      obtain ⟨its, r, pl, hz⟩ := I.list hx
      have hlen := r.length
      exact wpAny_truthy_list pl.isList (by simp only [List.size_toArray]; omega) ⟨H, I.tok _, by rw [isEmpty_of r]; exact q⟩
    · subst e'
      obtain ⟨its, r, pl, hz⟩ := I.tuple hx
      have hlen := r.length
      exact truthy_tuple pl (by simp only [List.size_toArray]; omega) ⟨H, I.tok _, by rw [isEmpty_of r]; exact q⟩
    · subst e'
      obtain ⟨hz, hS, vs, r, m⟩ : kvs.length ≤ sizeLine ∧ (p == sysModules) = false ∧ ∃ vs, KV kvs vs ∧ s.heap.DictOf (mixKind X.prog X.w) p vs := I.hok p _ hx
      have hlen : kvs.length = vs.length := Paired.length r
      exact wpAny_truthy_dict hS m (by omega) ⟨H, I.tok _, by rw [isEmpty_kv r]; exact q⟩
  | _ => exact (show False from e).elim
theorem pt_truth (ha : PE X a ta) (he : ∀ whole, isTrue a X.env whole = (do let v ← whole; standAt a.pos; holding [v] (truthy v))) :
    PT X a (fun σ H Q => ta σ H fun x H' => ∃ k, TruV X.K x H' k ∧ Q k H') := by
  intro pins s σ H Q I h
  exact isTrue_plain (thn (ha pins s σ H _ I h) fun v s1 ⟨x, H1, I1, r1, q1⟩ => tru_ok pins s1 σ H1 x v Q I1 r1 q1) (he _)
theorem op_add_str : OpR X (binaryOp .Add) (fun x y H Q => ∃ i j, x = .str i ∧ y = .str j ∧ i.length + j.length ≤ sizeLine ∧ Q (.str (i ++ j)) H) := by
  intro pins s σ H x y v u Q I rx ry h
  obtain ⟨i, j, rfl, rfl, hz, q⟩ := h
  obtain ⟨t, rfl⟩ := rx
  obtain ⟨t', rfl⟩ := ry
  exact add_str (fun t' tk => ⟨.str (i ++ j), H, I.tok _, ⟨_, rfl⟩, q⟩) hz
theorem vals1 {x : V} {us : List Value} (r : Vals [x] us) : ∃ u, us = [u] ∧ RelV x u := by
  cases r with
  | cons r1 r2 => cases r2; exact ⟨_, rfl, r1⟩
theorem vals2 {x y : V} {us : List Value} (r : Vals [x, y] us) : ∃ u w', us = [u, w'] ∧ RelV x u ∧ RelV y w' := by
  cases r with
  | cons r1 r2 =>
    cases r2 with
    | cons r3 r4 => cases r4; exact ⟨_, _, rfl, r1, r3⟩
theorem call_max2 (hc : X.calm = true) : CallR X (.builtin "max") (fun xs H Q => ∃ i j, xs = [.int i, .int j] ∧ Q (.int (if j > i then j else i)) H) := by
  intro pins s σ H xs us Q I r h
  obtain ⟨i, j, rfl, q⟩ := h
  obtain ⟨u, w', rfl, ⟨t, rfl⟩, ⟨t', rfl⟩⟩ := vals2 r
  refine max_two_ints (I.ok.hd hc) fun h' tk k => ⟨_, H, I.kept k, ?_, q⟩
  by_cases hj : j > i
  · rw [if_pos hj, if_pos hj]; exact ⟨_, rfl⟩
  · rw [if_neg hj, if_neg hj]; exact ⟨_, rfl⟩
def LenV (K : PySem.W.Frag) (x : V) (H : Hp) (n : Nat) : Prop :=
  match x with
  | .str y => y.length ≤ sizeLine ∧ n = y.length
  | .byt y => y.size ≤ sizeLine ∧ n = y.size
  | .ref p => (∃ xs, SqL K H p xs ∧ n = xs.length) ∨ ∃ xs, SqT K H p xs ∧ n = xs.length
  | _ => False
theorem call_len : CallR X (.builtin "len") (fun xs H Q => ∃ x n, xs = [x] ∧ LenV X.K x H n ∧ Q (.int n) H) := by
  intro pins s σ H xs us Q I r h
  obtain ⟨x, n, rfl, e, q⟩ := h
  obtain ⟨u, rfl, rx⟩ := vals1 r
  have hl := line63
  have hs : sizeLine = 16777216 := sizeLine_eq
  cases x with
  | str y =>
    obtain ⟨t, rfl⟩ := rx
    obtain ⟨hy, e'⟩ : y.length ≤ sizeLine ∧ n = y.length := e
    subst e'
    exact len_str (by omega) ⟨.int _, H, I.tok _, ⟨_, rfl⟩, q⟩
  | byt y =>
    obtain ⟨t, rfl⟩ := rx
    obtain ⟨hy, e'⟩ : y.size ≤ sizeLine ∧ n = y.size := e
    subst e'
    exact PySem.W.len_bytes (by omega) ⟨.int _, H, I.tok _, ⟨_, rfl⟩, q⟩
  | ref p =>
    cases rx
    have e' : (∃ xs, SqL X.K H p xs ∧ n = xs.length) ∨ ∃ xs, SqT X.K H p xs ∧ n = xs.length := e
    rcases e' with ⟨xs, hx, e'⟩ | ⟨xs, hx, e'⟩
    · subst e'
      obtain ⟨its, r', pl, hz⟩ := I.list hx
      have hlen := r'.length
      exact Calls.call_len_list pl.isList (by simp only [List.size_toArray]; omega) ⟨.int xs.length, H, I.tok _, ⟨_, by simp only [List.size_toArray]; rw [hlen]⟩, q⟩
    · subst e'
      obtain ⟨its, r', pl, hz⟩ := I.tuple hx
      have hlen := r'.length
      exact len_tuple pl (by simp only [List.size_toArray]; omega) ⟨.int xs.length, H, I.tok _, ⟨_, by simp only [List.size_toArray]; rw [hlen]⟩, q⟩
  | _ => exact (show False from e).elim
end
end L2
namespace L2
open PySem PySem.Spec PyProof.Rows
structure ObjM (h : Heap) (x dx C : Addr) (mA : Str → Option Value) : Prop where
  obj : h.get? x = some (PySem.W.instObj C dx)
  ns : h.Ns1 dx mA
  ne : dx ≠ x
theorem lookIn_ns {h : Heap} {dx : Addr} {mA : Str → Option Value} (n : h.Ns1 dx mA) : ∃ od, h.get? dx = some od ∧ ∀ name, PySem.W.lookIn name od = some (mA name) := by
  obtain ⟨o, es, ep, ho, hd, hk, _, hm⟩ := n
  refine ⟨o, ho, fun name => ?_⟩
  have e := hm name
  unfold nsFind findBy at e
  rw [← Array.find?_toList] at e
  unfold PySem.W.lookIn
  rw [hd]
  dsimp only
  split
  · rename_i y q
    rw [q] at e
    exact congrArg some e
  · rename_i q
    rw [q] at e
    have a : es.toList.any (·.refKey) = false := by
      rw [List.any_eq_false]
      intro y hy
      obtain ⟨z, t, hkey⟩ := hk y (Array.mem_toList_iff.mp hy)
      simp [DictEntry.refKey, hkey]
    have a' : ¬ es.toList.any (·.refKey) = true := by rw [a]; exact Bool.false_ne_true
    rw [if_neg a']
    exact congrArg some e
theorem ObjM.look {h : Heap} {x dx C : Addr} {mA : Str → Option Value} (I : ObjM h x dx C mA) : ∃ od, PySem.W.InstAt h x (PySem.W.instObj C dx) C (some od) ∧ ∀ name, PySem.W.lookIn name od = some (mA name) :=
  let ⟨od, ho, hl⟩ := lookIn_ns I.ns
  ⟨od, ⟨I.obj, rfl, rfl, ho⟩, hl⟩
section
variable {prog : Program} {w : World} {A : Around} {E : Value → Shared → Prop} {s : Shared} {K : PySem.W.Frag} {x dx C f : Addr} {mA : Str → Option Value} {name : Str} {v : Value}
end
section
variable {P : Program} {w : World} {H H' : Hp} {h h' : Heap} {a C dx : Addr} {fs fs' : List (Str × V)}
end
structure Cls (K : PySem.W.Frag) (C : Addr) : Prop where
  pg : PySem.W.plainGet K C Str.empty = true
  hd : PySem.W.hasDictIn K C = true
  po : PySem.W.plainOver K C = true
  sa : PySem.W.findIn K (.ref C) "__setattr__" = some (some (.builtin "object.__setattr__"))
theorem Cls.get {K : PySem.W.Frag} {C : Addr} (c : Cls K C) (f : Str) : PySem.W.plainGet K C f = true := c.pg
structure Con (K : PySem.W.Frag) (C : Addr) (f : Str) (v : V) (u : Value) : Prop where
  at_ : PySem.W.findIn K (.ref C) f = some (some u)
  rel : RelV v u
  get : PySem.W.specialIn K u "__get__" = some none
  cp : PySem.W.copiedNames.contains f = false
structure Meth (K : PySem.W.Frag) (C : Addr) (m : Str) (f : Addr) : Prop where
  at_ : PySem.W.findIn K (.ref C) m = some (some (.ref f))
  fn : PySem.W.isFn K (.ref f) = true
  kp : PySem.W.keepIn K (.ref f) = true
section
variable {X : Cx} {pins : List (Addr × Obj)} {σ : St} {H : Hp} {s : Shared} {a C dx : Addr} {fs : List (Str × V)} {f : Str} {v : V} {A : Around} {E : Value → Shared → Prop}
theorem Inv.made (I : Inv X pins σ H s) : Inv X pins σ (upd (upd H s.heap.objs.size (.own (s.heap.objs.size + 1))) (s.heap.objs.size + 1) (.ins C s.heap.objs.size []))
    { s with heap := (s.heap.push PySem.W.emptyDict).push (PySem.W.instObj C s.heap.objs.size) } := by
  have e1 : (s.heap.push PySem.W.emptyDict).get? s.heap.objs.size = some PySem.W.emptyDict := Heap.get?_push_size s.heap rfl
  have e2 : ((s.heap.push PySem.W.emptyDict).push (PySem.W.instObj C s.heap.objs.size)).get? (s.heap.objs.size + 1) = some (PySem.W.instObj C s.heap.objs.size) := by
    have := Heap.get?_push_size (s.heap.push PySem.W.emptyDict) (o := PySem.W.instObj C s.heap.objs.size) rfl
    rwa [Heap.size_push] at this
  have e3 : (s.heap.push PySem.W.emptyDict).Ns s.heap.objs.size (fun _ => none) := ⟨PySem.W.emptyDict, #[], _, e1, rfl, (fun e he => absurd he (by simp)), fun _ => rfl⟩
  have I1 := I.laid (a := s.heap.objs.size) (o := .own (s.heap.objs.size + 1)) (h' := s.heap.push PySem.W.emptyDict) (t' := s.toks) (fun b u q => Heap.get?_push_of_some _ q) (Nat.le_refl _) ⟨_, e1⟩
  refine I1.laid (a := s.heap.objs.size + 1) (o := .ins C s.heap.objs.size []) (t' := s.toks) (fun b u q => Heap.get?_push_of_some _ q) (Nat.le_of_eq (Heap.size_push _ _)) ?_
  have ne : s.heap.objs.size ≠ s.heap.objs.size + 1 := Nat.ne_of_lt (Nat.lt_succ_self _)
  refine ⟨by rw [upd_ne ne, upd_same], Nat.zero_le _, ne, e2, fun _ => none, (Heap.Ns1.of_empty e3).at fun o q => Heap.get?_push_of_some _ q, fun _ => True.intro, fun y hy => absurd rfl hy⟩
end
section
variable {X : Cx} {o e value : Expr} {f : Str} {pos pos' tpos : Pos} {ta tv : TE}
end
section
variable {X : Cx} {pins : List (Addr × Obj)} {σ : St} {H : Hp} {s : Shared} {A : Around} {E : Value → Shared → Prop} {Q : Value → Shared → Prop} {c : Value} {b : Bool}
inductive TyOf (K : PySem.W.Frag) (H : Hp) : V → Value → Prop where
  | non : TyOf K H .non (.type "NoneType")
  | bl (x : Bool) : TyOf K H (.bl x) (.type "bool")
  | int (i : Int) : TyOf K H (.int i) (.type "int")
  | str (x : Str) : TyOf K H (.str x) (.type "str")
  | flt (x : UInt64) : TyOf K H (.flt x) (.type "float")
  | lst {a : Addr} {xs : List V} (e : H a = some (.lst xs)) : TyOf K H (.ref a) (.type "list")
  | frz {a : Addr} {o : Obj} {xs : List V} (e : H a = some (.frz o (.lst xs))) : TyOf K H (.ref a) (.type "list")
  | tup {a : Addr} {xs : List V} (e : H a = some (.tup xs)) : TyOf K H (.ref a) (.type "tuple")
  | dK {a : Addr} {kvs : List (Key × V)} (e : H a = some (.dK kvs)) : TyOf K H (.ref a) (.type "dict")
  | dT {a : Addr} {kvs : List (List Key × V)} (e : H a = some (.dT kvs)) : TyOf K H (.ref a) (.type "dict")
  | ins {a C dx : Addr} {fs : List (Str × V)} (e : H a = some (.ins C dx fs)) (cl : Cls K C) (ha : PySem.W.findIn K (.ref C) "__class__" = some (some (.builtin "object.__class__")))
      (hn : PySem.W.specialIn K (.builtin "object.__class__") "__get__" = some (some (.builtin "getset_descriptor.__get__"))) (htk : PySem.W.takesIn K (.builtin "object.__class__") = some true)
      (hm : PySem.W.mroIn K C (.type "object") = some true) : TyOf K H (.ref a) (.ref C)
end
end L2
namespace L2
open PySem PySem.Spec PyProof.Rows
structure Room (k : Nat) (A : Around) : Prop where
  hd : A.handled = none
  dp : A.depth + 3 * k + 5 < recursionLimit
  un : A.units + 16 * k + 200 < cLine
theorem Room.mono {j k : Nat} {A : Around} (r : Room k A) (h : j ≤ k) : Room j A := ⟨r.hd, by have := r.dp; omega, by have := r.un; omega⟩
theorem Room.deeper {k : Nat} {A : Around} (r : Room (k + 1) A) (env : Env) : Room k (A.deeper env) :=
  ⟨r.hd, by have := r.dp; show A.depth + 1 + 3 * k + 5 < _; omega, by have := r.un; show A.units + 3 + 16 * k + 200 < _; omega⟩
theorem Room.in1 {k : Nat} {A : Around} (r : Room (k + 1) A) : Room k A.in1 :=
  ⟨r.hd, by have := r.dp; show A.depth + 3 * k + 5 < _; omega, by have := r.un; show A.units + 1 + 16 * k + 200 < _; omega⟩
theorem Room.depth {k : Nat} {A : Around} (r : Room k A) : A.depth < recursionLimit := by have := r.dp; omega
theorem Room.units {k : Nat} {A : Around} (r : Room k A) : A.units + 64 < cLine := by have := r.un; omega
def tNil : TA := fun _ H Q => Q [] H
def tCons (ta : TE) (tr : TA) : TA := fun σ H Q => ta σ H fun x H1 => tr σ H1 fun xs H2 => Q (x :: xs) H2
section
variable {X : Cx} {e : Expr} {es : List Expr} {te : TE} {t : TA} {pos : Pos}
theorem pa_nil : PA X [] tNil := fun _ _ _ _ H Q I h => Calls.spliced_nil ⟨[], H, I, .nil, h⟩
theorem pa_cons (ha : PE X e te) (hr : PA X es t) (hs : starEach (e :: es) X.env = (false, eval e X.env) :: starEach es X.env := by rfl) : PA X (e :: es) (tCons te t) := by
  intro pos pins s σ H Q I h
  rw [hs]
  show wpAny _ _ (spliced ((false, eval e X.env) :: backTo pos (starEach es X.env))) _ _ s
  refine Calls.spliced_cons (thn (ha pins s σ H _ I h) fun u s1 ⟨x, H1, I1, r1, q1⟩ => ?_)
  exact thn (hr pos pins s1 σ H1 _ I1 q1) fun us s2 ⟨xs, H2, I2, r2, q2⟩ => ⟨x :: xs, H2, I2, .cons r1 r2, q2⟩
def tTup (t : TA) : TE := fun σ H Q => t σ H fun xs H1 => xs.length ≤ sizeLine ∧ ∀ p, H1 p = none → Q (.ref p) (upd H1 p (.tup xs))
def tLst (t : TA) : TE := fun σ H Q => t σ H fun xs H1 => xs.length ≤ sizeLine ∧ ∀ p, H1 p = none → Q (.ref p) (upd H1 p (.lst xs))
theorem pe_tup {x1} (h : PA X es t) : PE X (.Tuple es x1 pos) (tTup t) := by
  intro pins s σ H Q I hq
  refine wpAny_Tuple_spliced (thn (h pos pins s σ H _ I hq) fun us s1 ⟨xs, H1, I1, r, z, q⟩ => ⟨by rw [← r.length]; exact z, ?_⟩)
  have hf : H1 s1.heap.objs.size = none := I1.hok.fresh (Nat.le_refl _)
  refine ⟨.ref s1.heap.objs.size, upd H1 s1.heap.objs.size (.tup xs), I1.laid (t' := s1.toks) (fun b u e => Heap.get?_push_of_some _ e) (Nat.le_refl _) ?_, rfl, q _ hf⟩
  exact ⟨z, us, r, ⟨_, Heap.get?_push_size _ rfl, rfl, _, rfl⟩⟩
theorem pe_lst (h : PA X es t) : PE X (.List es pos) (tLst t) := by
  intro pins s σ H Q I hq
  refine wpAny_List_spliced (thn (h pos pins s σ H _ I hq) fun us s1 ⟨xs, H1, I1, r, z, q⟩ => ⟨by rw [← r.length]; exact z, ?_⟩)
  have hf : H1 s1.heap.objs.size = none := I1.hok.fresh (Nat.le_refl _)
  refine ⟨.ref s1.heap.objs.size, upd H1 s1.heap.objs.size (.lst xs), I1.laid (t' := s1.toks) (fun b u e => Heap.get?_push_of_some _ e) (Nat.le_refl _) ?_, rfl, q _ hf⟩
  exact ⟨z, us, 0, r, Heap.get?_push_size _ rfl⟩
end
abbrev Sp := List V → Hp → VK → XK → Prop
abbrev CXT := List Env → Hp → Shared → XK → Value → Shared → Prop
structure Env0 (P : Program) (w : World) (K : PySem.W.Frag) (mg : Str → Option Value) (base : Heap) (A : Around) (outer : List Env) (s : Shared) (H : Hp) : Prop where
  frames : A.frames = some outer
  mod : Mod K mg base
  bs : ∀ b o, base.get? b = some o → s.heap.get? b = some o ∧ H b = none
  bsz : base.objs.size ≤ s.heap.objs.size
  funs : s.heap.FunFrames base outer
  frf : ∀ b ∈ frs outer, H b = none
  hok : HOk P w H s.heap
  bare : AllBare s.gens
def CE (outer : List Env) (P : Program) (w : World) (H : Hp) (s : Shared) (Q : VK) (u : Value) (s' : Shared) : Prop :=
  ∃ v H', s'.os = s.os ∧ AllBare s'.gens ∧ Un (frs outer) [] H H' s.heap s'.heap ∧ HOk P w H' s'.heap ∧ RelV v u ∧ Q v H'
def CR (CX : CXT) (outer : List Env) (P : Program) (w : World) (H : Hp) (s : Shared) (Q : VK) (E : XK) (r : Result) (s' : Shared) : Prop :=
  match r with
  | .ok (.ret u) => CE outer P w H s Q u s'
  | .ok _ => False
  | .error e => CX outer H s E e s'
structure FnOk (P : Program) (w : World) (K : PySem.W.Frag) (mg : Str → Option Value) (base : Heap) (CX : CXT) (k : Nat) (f : Addr) (fd : FuncData) (ps : List Str) (sp : Sp) : Prop where
  len : ∀ vs H Q E, sp vs H Q E → vs.length = ps.length
  run : ∀ (A : Around) (outer : List Env) (s : Shared) (H : Hp) (args : Args) (us : List Value) (vs : List V) (Q : VK) (E : XK), Room k A → Env0 P w K mg base A outer s H → BindsTo s fd args (ps.zip us) → Vals vs us → sp vs H Q E →
    codeAny (model P w) A (.call (.ref f) args) (CR CX outer P w H s Q E) s
theorem FnOk.mono {P : Program} {w : World} {K : PySem.W.Frag} {mg : Str → Option Value} {base : Heap} {CX : CXT} {j k : Nat} {f : Addr} {fd : FuncData} {ps : List Str} {sp : Sp} (F : FnOk P w K mg base CX j f fd ps sp) (h : j ≤ k) :
    FnOk P w K mg base CX k f fd ps sp := ⟨F.len, fun A outer s H args us vs Q E hr => F.run A outer s H args us vs Q E (hr.mono h)⟩
theorem FnOk.imp {P : Program} {w : World} {K : PySem.W.Frag} {mg : Str → Option Value} {base : Heap} {CX : CXT} {k : Nat} {f : Addr} {fd : FuncData} {ps : List Str} {sp sp' : Sp} (F : FnOk P w K mg base CX k f fd ps sp)
    (h : ∀ vs H Q E, sp' vs H Q E → sp vs H Q E) : FnOk P w K mg base CX k f fd ps sp' :=
  ⟨fun vs H Q E q => F.len vs H Q E (h _ _ _ _ q), fun A outer s H args us vs Q E hr he hb hv hs => F.run A outer s H args us vs Q E hr he hb hv (h _ _ _ _ hs)⟩
theorem Env0.in1 {P : Program} {w : World} {K : PySem.W.Frag} {mg : Str → Option Value} {base : Heap} {A : Around} {outer : List Env} {s : Shared} {H : Hp} (e : Env0 P w K mg base A outer s H) :
    Env0 P w K mg base A.in1 outer s H := ⟨e.frames, e.mod, e.bs, e.bsz, e.funs, e.frf, e.hok, e.bare⟩
section
variable {X : Cx} {pins : List (Addr × Obj)} {σ : St} {H : Hp} {s s' : Shared}
theorem Inv.env0 (I : Inv X pins σ H s) : Env0 X.prog X.w X.K X.mg X.base X.A X.stack s H :=
  ⟨I.ok.frames, I.ok.mod, I.bs, Nat.le_trans I.ok.bsz I.sz, I.stack, I.stkFree, I.hok, I.bare⟩
theorem Inv.after {Q : VK} {u : Value} (I : Inv X pins σ H s) (h : CE X.stack X.prog X.w H s Q u s') : EP X pins σ Q u s' := by
  obtain ⟨v, H', os, bare, un, hok, r, q⟩ := h
  obtain ⟨hh, g, d, t, os'⟩ := s'
  obtain rfl : os' = s.os := os
  exact ⟨v, H', I.call (h' := hh) (g' := g) (d' := d) (t' := t) (ch := []) un hok bare (fun b z => absurd z (by simp)), r, q⟩
end
def tCall (sp : Sp) (dvs : List V) (E : XK) (t : TA) : TE := fun σ H Q => t σ H fun vs H1 => sp (vs ++ dvs) H1 Q E
def Binds (K : PySem.W.Frag) (fd : FuncData) (ps : List Str) (ds : List Value) : Prop :=
  ∀ (s : Shared) (us : List Value), K.In s.heap → (us ++ ds).length = ps.length → BindsTo s fd ⟨us, []⟩ (ps.zip (us ++ ds))
theorem Binds.all {K : PySem.W.Frag} {fd : FuncData} {ps : List Str} (h : ∀ us : List Value, us.length = ps.length → bindArgs fd ⟨us, []⟩ = pure (ps.zip us)) : Binds K fd ps [] := fun s us _ hl => by
  rw [List.append_nil] at hl ⊢
  exact .of_eq (h us hl)
def Passes (CX : CXT) (X : Cx) (E : XK) : Prop := ∀ (pins : List (Addr × Obj)) (σ : St) (H : Hp) (s : Shared) (e : Value) (s' : Shared), Inv X pins σ H s → CX X.stack H s E e s' → X.xe e s'
section
variable {X : Cx} {CX : CXT} {k : Nat} {f C : Addr} {fd : FuncData} {ps : List Str} {sp : Sp} {dvs : List V} {ds : List Value} {E : XK} {x m : Str} {p pos apos : Pos} {e o : Expr} {es : List Expr} {ta : TE} {t : TA}
theorem run_fn {pins : List (Addr × Obj)} {σ : St} {H : Hp} {s : Shared} {Q : VK} {us : List Value} {vs : List V} (F : FnOk X.prog X.w X.K X.mg X.base CX k f fd ps sp) (hr : Room k X.A) (hb : Binds X.K fd ps ds) (hd : Vals dvs ds) (hx : Passes CX X E)
    (I : Inv X pins σ H s) (r : Vals vs us) (h : sp (vs ++ dvs) H Q E) : wpAny (model X.prog X.w) X.A (call (.ref f) us) (EP X pins σ Q) X.xe s := by
  have r2 : Vals (vs ++ dvs) (us ++ ds) := r.append hd
  have hl : (us ++ ds).length = ps.length := by rw [← r2.length]; exact F.len _ _ _ _ h
  refine wpAny_call (codeAny_mono (F.run X.A X.stack s H ⟨us, []⟩ (us ++ ds) (vs ++ dvs) Q E hr I.env0 (hb s us I.kIn hl) r2 h) fun r s' hq => ?_)
  cases r with
  | error e => exact hx pins σ H s e s' I hq
  | ok fl =>
    cases fl with
    | ret u => exact I.after hq
    | next => exact False.elim hq
    | brk => exact False.elim hq
    | cont => exact False.elim hq
theorem pe_call (F : FnOk X.prog X.w X.K X.mg X.base CX k f fd ps sp) (hr : Room k X.A) (hg : Gl X x) (hm : X.mg x = some (.ref f)) (hk : PySem.W.keepIn X.K (.ref f) = true) (hb : Binds X.K fd ps ds) (hd : Vals dvs ds) (hx : Passes CX X E)
    (ha : PA X (e :: es) t) (hdb : (x == ("__debug__" : Str)) = false := by decide) (he : starEach (e :: es) X.env = (false, eval e X.env) :: starEach es X.env := by rfl) (hpl : (backTo pos (starEach es X.env)).any (·.1) = false := by rfl) :
    PE X (.Call (.Name x p) (e :: es) [] pos) (tCall sp dvs E t) := by
  intro pins s σ H Q I h
  refine wpAny_Call_Name_kw (ld_glob I hg hm ?_ hdb)
  refine PySem.W.callWith_K (h₀ := X.base) I.ok.mod.kin hk (thn (ha pos pins s σ H _ I h) fun us s1 ⟨vs, H1, I1, r, q⟩ => ⟨I1.kIn, ?_⟩) he hpl
  exact run_fn F hr hb hd hx I1 r q
structure Mk (K : PySem.W.Frag) (C f : Addr) : Prop where
  makes : PySem.W.makesIn K C = true
  init : PySem.W.findIn K (.ref C) "__init__" = some (some (.ref f))
  fn : PySem.W.isFn K (.ref f) = true
  kp : PySem.W.keepIn K (.ref C) = true
end
def PK (X : Cx) (kws : List Keyword) (t : TA) : Prop :=
  ∀ (pos : Pos) (pins : List (Addr × Obj)) (s : Shared) (σ : St) (H : Hp) (Q : List V → Hp → Prop), Inv X pins σ H s → t σ H Q → wpAny (model X.prog X.w) X.A (evalAll ((backToKw pos (keywordEach kws X.env)).map (·.2))) (AP X pins σ Q) X.xe s
section
variable {X : Cx} {CX : CXT} {k : Nat} {f C : Addr} {fd : FuncData} {ps ks : List Str} {sp : Sp} {E : XK} {x m : Str} {p pos apos kpos : Pos} {e o : Expr} {es : List Expr} {kws : List Keyword} {te ta : TE} {t tk : TA} {nm : Option Str}
theorem pk_nil : PK X [] tNil := fun _ _ _ _ H Q I h => wpAny_evalAll_nil ⟨[], H, I, .nil, h⟩
theorem pk_cons (ha : PE X e te) (hr : PK X kws t) : PK X (⟨nm, e, kpos⟩ :: kws) (tCons te t) := by
  intro pos pins s σ H Q I h
  show wpAny _ _ (evalAll ((do let v ← eval e X.env; standAt pos; pure v) :: (backToKw pos (keywordEach kws X.env)).map (·.2))) _ _ s
  refine wpAny_evalAll_cons (wpAny_bind (thn (ha pins s σ H _ I h) fun u s1 ⟨x, H1, I1, r1, q1⟩ => wpAny_bind (wpAny_standAt (wpAny_pure ?_))))
  exact thn (hr pos pins s1 σ H1 _ I1 q1) fun us s2 ⟨xs, H2, I2, r2, q2⟩ => ⟨x :: xs, H2, I2, .cons r1 r2, q2⟩
structure KBinds (K : PySem.W.Frag) (fd : FuncData) (ps ks : List Str) (g : List Value → List Value → List Value) (gV : List V → List V → List V) : Prop where
  to : ∀ (s : Shared) (us ws : List Value), K.In s.heap → (g us ws).length = ps.length → BindsTo s fd ⟨us, ks.zip ws⟩ (ps.zip (g us ws))
  rel : ∀ {vs : List V} {us : List Value} {zs : List V} {ws : List Value}, Vals vs us → Vals zs ws → Vals (gV vs zs) (g us ws)
variable {g : List Value → List Value → List Value} {gV : List V → List V → List V}
theorem run_fnk {pins : List (Addr × Obj)} {σ : St} {H : Hp} {s : Shared} {Q : VK} {us ws : List Value} {vs zs : List V} (F : FnOk X.prog X.w X.K X.mg X.base CX k f fd ps sp) (hr : Room k X.A) (hb : KBinds X.K fd ps ks g gV) (hx : Passes CX X E)
    (I : Inv X pins σ H s) (r : Vals vs us) (rz : Vals zs ws) (h : sp (gV vs zs) H Q E) : wpAny (model X.prog X.w) X.A (call (.ref f) us (ks.zip ws)) (EP X pins σ Q) X.xe s := by
  have r2 := hb.rel r rz
  have hl : (g us ws).length = ps.length := by rw [← r2.length]; exact F.len _ _ _ _ h
  refine wpAny_call (codeAny_mono (F.run X.A X.stack s H ⟨us, ks.zip ws⟩ (g us ws) (gV vs zs) Q E hr I.env0 (hb.to s us ws I.kIn hl) r2 h) fun r s' hq => ?_)
  cases r with
  | error e => exact hx pins σ H s e s' I hq
  | ok fl =>
    cases fl with
    | ret u => exact I.after hq
    | next => exact False.elim hq
    | brk => exact False.elim hq
    | cont => exact False.elim hq
end
structure FnScope (N P : List Str) (sc : Scope) : Prop where
  kind : sc.kind = .function
  co : sc.isCoroutine = false
  gen : sc.isGenerator = false
  nd : N.Nodup
  pre : N.take P.length = P
  par : ∀ x ∈ P, sc.names.lookup x = some .local ∨ sc.names.lookup x = some .cell
  nofree : ∀ y ∈ sc.names, y.2 ≠ .free
theorem bindL_out {kindOf : Str → Option NameKind} {x : Str} : ∀ {binds : List (Str × Value)} {m : Str → Option Value}, (∀ v, (x, v) ∉ binds) → bindL kindOf binds m x = m x
  | [], _, _ => rfl
  | (n, v) :: r, m, h => by
    unfold bindL
    rw [bindL_out fun w hw => h w (List.mem_cons_of_mem _ hw)]
    split
    · have : x ≠ n := by rintro rfl; exact h v List.mem_cons_self
      simp [this]
    · rfl
theorem bindC_out {kindOf : Str → Option NameKind} {x : Str} : ∀ {binds : List (Str × Value)} {m : Str → Option Value}, (∀ v, (x, v) ∉ binds) → bindC kindOf binds m x = m x
  | [], _, _ => rfl
  | (n, v) :: r, m, h => by
    unfold bindC
    rw [bindC_out fun w hw => h w (List.mem_cons_of_mem _ hw)]
    split
    · rfl
    · have : x ≠ n := by rintro rfl; exact h v List.mem_cons_self
      simp [this]
theorem bindL_get {kindOf : Str → Option NameKind} {x : Str} {v : Value} : ∀ {P : List Str} {vs : List Value} {i : Nat} {m : Str → Option Value}, P.Nodup → P[i]? = some x → vs[i]? = some v → kindOf x = some .local →
    bindL kindOf (P.zip vs) m x = some v
  | [], _, _, _, _, h, _, _ => by simp at h
  | _ :: _, [], _, _, _, _, h, _ => by simp at h
  | p :: P, w :: vs, 0, m, nd, h1, h2, hk => by
    simp at h1 h2; subst h1; subst h2
    show bindL kindOf ((p, w) :: P.zip vs) m p = _
    unfold bindL
    rw [bindL_out fun v hv => (List.nodup_cons.mp nd).1 (List.of_mem_zip hv).1, if_pos hk]
    simp
  | p :: P, w :: vs, i + 1, m, nd, h1, h2, hk => by
    show bindL kindOf ((p, w) :: P.zip vs) m x = _
    unfold bindL
    exact bindL_get (i := i) (List.nodup_cons.mp nd).2 (by simpa using h1) (by simpa using h2) hk
theorem bindC_get {kindOf : Str → Option NameKind} {x : Str} {v : Value} : ∀ {P : List Str} {vs : List Value} {i : Nat} {m : Str → Option Value}, P.Nodup → P[i]? = some x → vs[i]? = some v → kindOf x ≠ some .local →
    bindC kindOf (P.zip vs) m x = some v
  | [], _, _, _, _, h, _, _ => by simp at h
  | _ :: _, [], _, _, _, _, h, _ => by simp at h
  | p :: P, w :: vs, 0, m, nd, h1, h2, hk => by
    simp at h1 h2; subst h1; subst h2
    show bindC kindOf ((p, w) :: P.zip vs) m p = _
    unfold bindC
    rw [bindC_out fun v hv => (List.nodup_cons.mp nd).1 (List.of_mem_zip hv).1, if_neg hk]
    simp
  | p :: P, w :: vs, i + 1, m, nd, h1, h2, hk => by
    show bindC kindOf ((p, w) :: P.zip vs) m x = _
    unfold bindC
    exact bindC_get (i := i) (List.nodup_cons.mp nd).2 (by simpa using h1) (by simpa using h2) hk
def start (N : List Str) (vs : List V) : St := vs.map some ++ List.replicate (N.length - vs.length) none
def cxOf (CX : CXT) (P : Program) (w : World) (K : PySem.W.Frag) (mg : Str → Option Value) (base : Heap) (N : List Str) (qual : Str) (scope : Scope) (f : Addr) (cd : Value) (A : Around) (outer : List Env) (s : Shared) (H : Hp) (E : XK) : Cx where
  prog := P
  w := w
  K := K
  mg := mg
  base := base
  A := A.deeper (envOfC qual scope s.heap.objs.size f cd)
  N := N
  s₀ := s
  H₀ := H
  env := envOfC qual scope s.heap.objs.size f cd
  outer := outer
  stack := envOfC qual scope s.heap.objs.size f cd :: outer
  ex := []
  calm := true
  fn := fun _ => true
  pn := []
  xe := fun e s' => wpAny (model P w) (A.deeper (envOfC qual scope s.heap.objs.size f cd)) (leaving (envOfC qual scope s.heap.objs.size f cd) e) (fun _ s'' => CX outer H s E e s'') (fun e' s'' => CX outer H s E e' s'') s'
theorem cell_has {sc : Scope} {n : Nat} {x : Str} (h : sc.names.lookup x = some .cell) : ∃ c, (cellsFrom n sc.names []).lookup x = some c := by
  have q := PySem.W.cellsFrom_some sc.names n [] (.inl h)
  exact Option.isSome_iff_exists.mp q
theorem inv_start {CX : CXT} {P : Program} {w : World} {K : PySem.W.Frag} {mg : Str → Option Value} {base : Heap} {N ps : List Str} {qual : Str} {scope : Scope} {f : Addr} {cd : Value} {A : Around} {outer : List Env} {s s1 : Shared} {H : Hp} {E : XK} {us : List Value} {vs : List V}
    (S : FnScope N ps scope) (hd : A.handled = none) (e0 : Env0 P w K mg base A outer s H) (hl : vs.length = ps.length) (r : Vals vs us)
    (x : InCallC s s.heap.objs.size (bindL (envOfC qual scope s.heap.objs.size f cd).kindOf (ps.zip us) fun _ => none) (cellsFrom (s.heap.objs.size + 1) scope.names []) (bindC (envOfC qual scope s.heap.objs.size f cd).kindOf (ps.zip us) fun _ => none) s1) :
    Inv (cxOf CX P w K mg base N qual scope f cd A outer s H E) [] (start N vs) H s1 := by
  have hpl : ps.length ≤ N.length := by have := congrArg List.length S.pre; rw [List.length_take] at this; omega
  obtain ⟨h1, tk, rfl, hk⟩ := x.done
  have noA : ∀ b : Addr, b ∉ (cxOf CX P w K mg base N qual scope f cd A outer s H E).ex := fun b z => absurd (show b ∈ ([] : List Addr) from z) (by simp)
  refine ⟨⟨e0.mod, S.kind, rfl, rfl, Nat.le_refl _, fun y z c h1 h2 => ?_, fun y hy => ?_, fun y c _ h => ?_, fun _ => hd, Around.frames_deeper e0.frames, .inr ⟨rfl, rfl⟩, fun b z => absurd z (noA b), e0.bs, e0.bsz, fun b _ _ => noA b, fun b z => absurd z (noA b), e0.funs, e0.frf⟩,
    rfl, e0.bare, Un.kept hk, ⟨_, x.toInCall.ns, fun i y v h1 h2 h3 => ?_⟩, fun y c h => ⟨_, x.cell y c h⟩, e0.hok.fresh (Nat.le_refl _), fun y c h => ?_, fun p hp => absurd (show p ∈ ([] : List (Addr × Obj)) from hp) (by simp), e0.hok.kept hk, ?_⟩
  · exact name_of_addr x.apart (PySem.mem_of_lookup h1) (PySem.mem_of_lookup h2)
  · have hy : scope.names.lookup y = some .cell ∨ scope.names.lookup y = some .free := hy
    rcases hy with hy | hy
    · exact cell_has hy
    · exact absurd rfl (S.nofree _ (PySem.mem_of_lookup hy))
  · exact Nat.le_of_lt (x.above y c (PySem.mem_of_lookup h))
  · have hi : i < vs.length := by
      unfold start at h2
      by_cases hi : i < vs.length
      · exact hi
      · rw [List.getElem?_append_right (by simpa using hi)] at h2
        rw [List.getElem?_replicate] at h2
        split at h2 <;> cases h2
    have ha : vs[i]? = some v := by
      unfold start at h2
      rw [List.getElem?_append_left (by simpa using hi), List.getElem?_map] at h2
      cases e : vs[i]? with
      | none => rw [e] at h2; cases h2
      | some a => rw [e] at h2; cases h2; rfl
    obtain ⟨u, hu, rv⟩ := r.get ha
    have hp : ps[i]? = some y := by
      rw [← S.pre, List.getElem?_take_of_lt (by omega)]; exact h1
    have ndP : ps.Nodup := by rw [← S.pre]; exact S.nd.sublist (List.take_sublist _ _)
    refine ⟨u, rv, ?_⟩
    rcases S.par y (List.mem_of_getElem? hp) with k | k
    · exact .inl ⟨k, bindL_get ndP hp hu k⟩
    · obtain ⟨c, e⟩ := cell_has (n := s.heap.objs.size + 1) k
      refine .inr ⟨.inl k, c, e, ?_⟩
      have q := x.cell y c e
      rw [bindC_get ndP hp hu (by show scope.names.lookup y ≠ _; rw [k]; decide)] at q
      exact q
  · exact e0.hok.fresh (Nat.le_of_lt (x.above y c (PySem.mem_of_lookup h)))
  · unfold start
    show _ = N.length
    rw [List.length_append, List.length_map, List.length_replicate]
    omega
theorem fn_of {CX : CXT} {P : Program} {w : World} {K : PySem.W.Frag} {mg : Str → Option Value} {base : Heap} {k : Nat} {f : Addr} {name qual : Str} {params : Arguments} {body : List Stmt} {scope : Scope} {dV kV doc pm cdv ct oc : Value} {an od : Option Addr}
    {osl : Array (Option Value)} {N ps : List Str} {sp : Sp} (lk : K.lookup f = some ⟨oc, od, .func (PySem.W.fnOf name qual params body scope dV kV doc pm an cdv ct), osl⟩) (hcd : PySem.W.codeIn K cdv qual = true) (S : FnScope N ps scope)
    (len : ∀ vs H Q E, sp vs H Q E → vs.length = ps.length)
    (hbody : ∀ (A : Around) (outer : List Env) (s : Shared) (H : Hp) (vs : List V) (Q : VK) (E : XK), Room k (A.deeper (envOfC qual scope s.heap.objs.size f cdv)) → sp vs H Q E →
      ∃ t, PSs (cxOf CX P w K mg base N qual scope f cdv A outer s H E) body t ∧ t { nx := fun _ H' => Q .non H', rt := Q } (start N vs) H) :
    FnOk P w K mg base CX (k + 1) f (PySem.W.fnOf name qual params body scope dV kV doc pm an cdv ct) ps sp := by
  refine ⟨len, fun A outer s H args us vs Q E hr e0 hb r hsp => ?_⟩
  have hl := len _ _ _ _ hsp
  have KX : K.In s.heap := e0.mod.kin.keeps fun b o e => (e0.bs b o e).1
  have lim : s.heap.NoLimit := e0.mod.nolimit.keeps fun b o e => (e0.bs b o e).1
  have hkind : ∀ y ∈ ps.zip us, scope.names.lookup y.1 = some .local ∨ (scope.names.lookup y.1 = some .cell ∧ ((cellsFrom (s.heap.objs.size + 1) scope.names []).lookup y.1).isSome = true) := fun ⟨n, v⟩ hy => by
    rcases S.par n (List.of_mem_zip hy).1 with q | q
    · exact .inl q
    · exact .inr ⟨q, PySem.W.cellsFrom_some _ _ _ (.inl q)⟩
  refine codeAny_call_function hr.depth (KX _ _ lk) rfl S.co S.gen rfl (PySem.W.codeRec_of KX hcd) (hb _ _ _ _ ?_)
  refine wpAny_newFunctionEnv_cells S.kind hkind fun env he s1 x => ?_
  subst he
  refine ⟨lim.keeps x.toInCall.keep, codeAny_func ?_⟩
  obtain ⟨t, ht, hq⟩ := hbody A outer s H vs Q E (hr.deeper _) hsp
  have I : Inv (cxOf CX P w K mg base N qual scope f cdv A outer s H E) [] (start N vs) H s1 := inv_start S hr.hd e0 hl r x
  refine wpAny_mono (ht [] s1 (start N vs) H _ I hq) (fun fl s' hs => ?_) fun e s' hs => hs
  have fin : ∀ {σ' : St} {H' : Hp} {v : V} {u : Value}, Inv (cxOf CX P w K mg base N qual scope f cdv A outer s H E) [] σ' H' s' → RelV v u → Q v H' → CE outer P w H s Q u s' :=
    fun {σ' H' v u} J rv q => ⟨v, H', J.os, J.bare, J.base, J.hok, rv, q⟩
  cases fl with
  | ret u =>
    obtain ⟨v, σ', H', J, rv, q⟩ := hs
    exact fin J rv q
  | next =>
    obtain ⟨σ', H', J, q⟩ := hs
    exact fin (v := V.non) (u := Value.none) J rfl q
  | brk =>
    obtain ⟨_, _, _, q⟩ := hs
    exact False.elim q
  | cont =>
    obtain ⟨_, _, _, q⟩ := hs
    exact False.elim q
end L2
namespace L2
open PySem PySem.Spec PyProof.Rows
section
variable {X : Cx} {x : Str} {p pos : Pos} {e : Expr} {es : List Expr} {t : TA} {id T : String} {r : List V → Hp → VK → Prop}
def tCB (r : List V → Hp → VK → Prop) (t : TA) : TE := fun σ H Q => t σ H fun vs H1 => r vs H1 Q
theorem pe_callB (hc : CallR X (.builtin id) r) (hg : Gl X x) (hm : X.mg x = none) (hv : bootBuiltins x = some (.builtin id)) (ha : PA X (e :: es) t) (hn : x ≠ "__name__" := by decide) (hdb : (x == ("__debug__" : Str)) = false := by decide)
    (he : starEach (e :: es) X.env = (false, eval e X.env) :: starEach es X.env := by rfl) (hpl : (backTo pos (starEach es X.env)).any (·.1) = false := by rfl) : PE X (.Call (.Name x p) (e :: es) [] pos) (tCB r t) := by
  intro pins s σ H Q I h
  refine wpAny_Call_Name_kw (ld_blt I hg hm hv ?_ hn hdb)
  exact PyProof.Rows.callWith_builtin1 (thn (ha pos pins s σ H _ I h) fun us s1 ⟨vs, H1, I1, r1, q1⟩ => hc pins s1 σ H1 vs us Q I1 r1 q1) he hpl
theorem pe_callTy (hc : CallR X (.type T) r) (hg : Gl X x) (hm : X.mg x = none) (hv : bootBuiltins x = some (.type T)) (ha : PA X (e :: es) t) (hn : x ≠ "__name__" := by decide) (hdb : (x == ("__debug__" : Str)) = false := by decide)
    (he : starEach (e :: es) X.env = (false, eval e X.env) :: starEach es X.env := by rfl) (hpl : (backTo pos (starEach es X.env)).any (·.1) = false := by rfl) : PE X (.Call (.Name x p) (e :: es) [] pos) (tCB r t) := by
  intro pins s σ H Q I h
  refine wpAny_Call_Name_kw (ld_blt I hg hm hv ?_ hn hdb)
  exact PyProof.Rows.callWith_type1 (thn (ha pos pins s σ H _ I h) fun us s1 ⟨vs, H1, I1, r1, q1⟩ => hc pins s1 σ H1 vs us Q I1 r1 q1) he hpl
end
end L2
namespace HT
open PySem PyProof.Rows
section
open PySem.SeqAt
open PySem.AutoSeq1 (wpAny_loadPart')
open PySem.MeetsSeq PySem.MeetsSeq2 PySem.MeetsSeq3
end
section
variable {prog : Program} {w : World} {A : Around} {E : Value → Shared → Prop} {s : Shared}
theorem cat_tup {t b : Addr} {vs ws : List Value} {Q : Value → Shared → Prop} (ht : IsTup s.heap t vs.toArray) (hb : IsTup s.heap b ws.toArray) (hv : vs ≠ [])
    (h1 : ws = [] → Q (.ref t) s) (h2 : ws ≠ [] → Q (.ref s.heap.objs.size) { s with heap := s.heap.push { cls := .type "tuple", data := .seq (vs ++ ws).toArray } })
    (hsz : vs.length + ws.length ≤ sizeLine) : wpAny (model prog w) A (binaryOp .Add (.ref t) (.ref b)) Q E s := by
  obtain ⟨⟨cls, dd, data, sl⟩, ho, hc, n, hd⟩ := id ht
  obtain ⟨⟨cls2, dd2, data2, sl2⟩, ho2, hc2, n2, hd2⟩ := id hb
  simp only at hc hd hc2 hd2
  subst hc hd hc2 hd2
  have e : vs.toArray ++ ws.toArray = (vs ++ ws).toArray := by simp
  by_cases hw : ws = []
  · exact concat_meets ⟨_, ho, rfl⟩ ⟨_, ho2, rfl⟩ noFill_tuple_add seq_tuple_add PySem.F.slot_tuple_add PySem.F.entry_tuple_add (PySem.F.args_tuple_add_2 _ _)
      (tuple_addW1 t b vs.toArray ws.toArray n n2 dd dd2 sl sl2 (by simpa using hv) (by simp [hw])) ⟨ho, ho2, h1 hw⟩
  · refine concat_meets ⟨_, ho, rfl⟩ ⟨_, ho2, rfl⟩ noFill_tuple_add seq_tuple_add PySem.F.slot_tuple_add PySem.F.entry_tuple_add (PySem.F.args_tuple_add_2 _ _)
      (tuple_addW2 t b vs.toArray ws.toArray n n2 dd dd2 sl sl2 (by simpa using hv) (by simpa using hw) (by rw [List.size_toArray, List.size_toArray]; exact hsz)) ⟨ho, ho2, ?_⟩
    rw [e]
    exact h2 hw
def sIx (n d : Nat) : Option Int → Nat
  | none => d
  | some v => if v < 0 then (v + (n : Int)).toNat else min v.toNat n
theorem sIx_none (n d : Nat) : sIx n d none = d := rfl
theorem sIx_nat (n d k : Nat) : sIx n d (some (k : Int)) = min k n := by
  show (if (k : Int) < 0 then ((k : Int) + (n : Int)).toNat else min (k : Int).toNat n) = min k n
  rw [if_neg (by omega), Int.toNat_natCast]
theorem sIx_le (n d : Nat) (hd : d ≤ n) (o : Option Int) : sIx n d o ≤ n := by
  cases o with
  | none => exact hd
  | some v =>
    show (if v < 0 then (v + (n : Int)).toNat else min v.toNat n) ≤ n
    by_cases hv : v < 0
    · rw [if_pos hv]; omega
    · rw [if_neg hv]; exact Nat.min_le_right _ _
theorem clip_eq (v : Int) (n d : Nat) : (if v < 0 then max (v + (n : Int)) 0 else min v (n : Int)) = ((sIx n d (some v) : Nat) : Int) := by
  show (if v < 0 then max (v + (n : Int)) 0 else min v (n : Int)) = (((if v < 0 then (v + (n : Int)).toNat else min v.toNat n) : Nat) : Int)
  by_cases hv : v < 0
  · simp only [if_pos hv]; omega
  · simp only [if_neg hv]; omega
theorem adjust_gen (lo hi : Option Int) (n : Nat) : Builtin.Slice.sliceAdjust lo hi 1 (n : Int) = (((sIx n 0 lo : Nat) : Int), ((sIx n n hi : Nat) : Int)) := by
  have h1 : ¬ ((1 : Int) < 0) := by omega
  unfold Builtin.Slice.sliceAdjust
  simp only [h1, if_false]
  refine Prod.ext ?_ ?_
  · cases lo with
    | none => rfl
    | some v => exact clip_eq v n 0
  · cases hi with
    | none => rfl
    | some v => exact clip_eq v n n
theorem places_gen (i j : Nat) : Builtin.Slice.slicePlaces (i : Int) (j : Int) 1 = j - i := by
  unfold Builtin.Slice.slicePlaces
  have h1 : (1 : Int) > 0 := by omega
  simp only [h1, if_true, Int.ediv_one]
  split <;> omega
theorem slicePart_ {v : Value} {o : Option Int} {Q : Option Int → Shared → Prop} (p : IsPart v o) (h : Q o s) : wpAny (model prog w) A (Builtin.Slice.slicePartIndex v) Q E s := by
  cases p with
  | none => exact slicePart_none h
  | int i t => exact slicePart_int h
theorem sliceApplied_gen {sl : Addr} {vl vu : Value} {lo hi : Option Int} {n : Nat} {Q : Int × Int × Nat → Shared → Prop} (hs : s.heap.IsSliceOf sl vl vu .none) (pl : IsPart vl lo) (pu : IsPart vu hi)
    (h : Q (((sIx n 0 lo : Nat) : Int), 1, sIx n n hi - sIx n 0 lo) s) : wpAny (model prog w) A (Builtin.Slice.sliceApplied (.ref sl) (pure (n : Int))) Q E s := by
  obtain ⟨os, hos, hcs, hds⟩ := id hs
  unfold Builtin.Slice.sliceApplied Builtin.Slice.sliceFields
  refine wpAny_bind (wpAny_bind (wpAny_field hos hds (x := vl) rfl (wpAny_bind (wpAny_field hos hds (x := vu) rfl (wpAny_bind (wpAny_field hos hds (x := .none) rfl (wpAny_pure ?_)))))))
  refine wpAny_bind (slicePart_none ?_)
  show wpAny _ _ (if ((1 : Int) == 0) = true then _ else _) _ _ s
  rw [if_neg (by decide)]
  refine wpAny_bind (slicePart_ pl (wpAny_bind (slicePart_ pu (wpAny_bind (wpAny_pure ?_)))))
  show wpAny _ _ (match Builtin.Slice.sliceAdjust lo hi 1 (n : Int) with | (lo, hi) => pure (lo, (1 : Int), Builtin.Slice.slicePlaces lo hi 1)) _ _ s
  rw [adjust_gen lo hi n]
  show wpAny _ _ (pure (((sIx n 0 lo : Nat) : Int), (1 : Int), Builtin.Slice.slicePlaces ((sIx n 0 lo : Nat) : Int) ((sIx n n hi : Nat) : Int) 1)) _ _ s
  rw [places_gen]
  exact wpAny_pure h
theorem pick_gen (xs : Array Value) (i k : Nat) : ((List.range k).filterMap fun (m : Nat) => xs[((i : Int) + (m : Int) * 1).toNat]?).toArray = ((xs.toList.drop i).take k).toArray := by
  have e : (fun (m : Nat) => xs[((i : Int) + (m : Int) * 1).toNat]?) = fun m => xs[i + m]? := by
    funext m
    have : ((i : Int) + (m : Int) * 1).toNat = i + m := by omega
    rw [this]
  rw [e]
  have := pick_run xs i k
  rw [List.filterMap_map] at this
  have e2 : ((fun x => xs[x]?) ∘ fun x => i + x) = fun m => xs[i + m]? := rfl
  rw [e2] at this
  rw [this]
theorem getItem_tuple_cut {t sl : Addr} {items : Array Value} {vl vu : Value} {lo hi : Option Int} {Q : Value → Shared → Prop} (ht : IsTup s.heap t items) (hs : s.heap.IsSliceOf sl vl vu .none) (pl : IsPart vl lo) (pu : IsPart vu hi)
    (hw : ¬ (sIx items.size 0 lo = 0 ∧ sIx items.size items.size hi = items.size))
    (h : Q (.ref s.heap.objs.size) { s with heap := s.heap.push { cls := .type "tuple", data := .seq ((items.toList.drop (sIx items.size 0 lo)).take (sIx items.size items.size hi - sIx items.size 0 lo)).toArray } })
    (hsz : items.size ≤ sizeLine) : wpAny (model prog w) A (getItem (.ref t) (.ref sl)) Q E s := by
  have htake : sizeOk (.seq ((items.toList.drop (sIx items.size 0 lo)).take (sIx items.size items.size hi - sIx items.size 0 lo)).toArray) := by
    show ((items.toList.drop (sIx items.size 0 lo)).take (sIx items.size items.size hi - sIx items.size 0 lo)).toArray.size ≤ sizeLine
    rw [List.size_toArray, List.length_take, List.length_drop, Array.length_toList]
    omega
  have hj : sIx items.size items.size hi ≤ items.size := sIx_le _ _ (Nat.le_refl _) hi
  obtain ⟨os, hos, hcs, hds⟩ := id hs
  have hTs : s.TypeIs (.ref sl) "slice" := ⟨os, hos, hcs⟩
  unfold getItem
  try with_reducible refine wpAny_holding ?_
  first | refine wpAny_bind (wpAny_pure ?_) | skip
  refine wpAny_bind (wpAny_sequenceKey ht.typeIs (by decide) ?_)
  refine wpAny_bind (wpAny_callSpecial?_slot (name := Str.ofString "__getitem__") ht.typeIs PyProof.Rows.slot_tuple_getitem
    (wpAny_call_entry PyProof.Rows.slot_tuple_getitem ht.typeIs entry_tuple_getitem ?_ (args_tuple_getitem _ _)))
  show wpAny _ _ (Builtin.Tuple.tupleItemsOf (.ref t) >>= _) _ _ s
  refine wpAny_bind (tupleItemsOf_ ht ?_)
  refine wpAny_bind (wpAny_typeOf hTs ?_)
  rw [if_pos (by decide)]
  refine wpAny_bind (sliceApplied_gen hs pl pu ?_)
  have hno : ¬ ((((sIx items.size 0 lo : Nat) : Int) == 0 && (1 : Int) == 1 && (sIx items.size items.size hi - sIx items.size 0 lo) == items.size) = true) := by
    intro q
    rw [Bool.and_eq_true, Bool.and_eq_true] at q
    have q1 : ((sIx items.size 0 lo : Nat) : Int) = 0 := eq_of_beq q.1.1
    have q2 : sIx items.size items.size hi - sIx items.size 0 lo = items.size := eq_of_beq q.2
    exact hw ⟨by omega, by omega⟩
  show wpAny _ _ (if (((sIx items.size 0 lo : Nat) : Int) == 0 && (1 : Int) == 1 && (sIx items.size items.size hi - sIx items.size 0 lo) == items.size) = true then _ else _) _ _ s
  rw [if_neg hno, pick_gen]
  first
    | exact wpAny_bind (m := Builtin.Tuple.tupleExact _) (wpAny_newObj_type (wpAny_pure ⟨_, rfl, wpAny_pure h⟩) htake)
    | exact wpAny_bind (m := Builtin.Tuple.tupleExact _) (wpAny_newObj_type (wpAny_bind (wpAny_pure (wpAny_pure ⟨_, rfl, wpAny_pure h⟩))) htake)
    | exact wpAny_bind (wpAny_bind (m := Builtin.Tuple.tupleExact _) (wpAny_newObj_type (wpAny_pure (wpAny_pure ⟨_, rfl, wpAny_pure h⟩)) htake))
    | exact wpAny_bind (wpAny_bind (m := Builtin.Tuple.tupleExact _) (wpAny_newObj_type (wpAny_pure ⟨_, rfl, wpAny_pure h⟩) htake))
end
end HT
namespace L2
open PySem PySem.Spec PyProof.Rows
abbrev TO := St → Hp → (Option Int → Hp → Prop) → Prop
def PO (X : Cx) (e : Option Expr) (t : TO) : Prop :=
  ∀ (pins : List (Addr × Obj)) (s : Shared) (σ : St) (H : Hp) (Q : Option Int → Hp → Prop), Inv X pins σ H s → t σ H Q →
    wpAny (model X.prog X.w) X.A (evalPart e X.env) (fun u s' => ∃ o H', Inv X pins σ H' s' ∧ IsPart u o ∧ Q o H') X.xe s
def tNoPart : TO := fun _ H Q => Q none H
def tPart (t : TE) : TO := fun σ H Q => t σ H fun x H1 => ∃ i, x = .int i ∧ Q (some i) H1
theorem intsAre_of {ns : List Int} : ∀ {us : List Value}, Vals (ns.map V.int) us → IntsAre us ns := by
  induction ns with
  | nil => intro us r; rw [List.map_nil] at r; cases r; exact .nil
  | cons n ns ih =>
    intro us r
    rw [List.map_cons] at r
    cases r with
    | cons r1 r2 =>
      obtain ⟨t, e⟩ := r1
      subst e
      exact .cons n t (ih r2)
section
variable {X : Cx} {e : Expr} {te : TE} {lo hi : Option Expr} {tl th : TO} {pos p2 : Pos}
theorem po_none : PO X none tNoPart := by
  intro pins s σ H Q I h
  rw [evalPart_none]
  exact wpAny_pure ⟨none, H, I, .none, h⟩
theorem po_some (h : PE X e te) : PO X (some e) (tPart te) := by
  intro pins s σ H Q I hw
  rw [evalPart_some]
  refine thn (h pins s σ H _ I hw) fun u s1 ⟨x, H1, I1, r1, q1⟩ => ?_
  obtain ⟨i, rfl, q⟩ := q1
  obtain ⟨t, rfl⟩ := r1
  exact ⟨some i, H1, I1, .int i t, q⟩
def SlR (X : Cx) (r : V → Option Int → Option Int → Hp → VK → Prop) : Prop :=
  ∀ (pins : List (Addr × Obj)) (s : Shared) (σ : St) (H : Hp) (x : V) (v vl vu : Value) (lo hi : Option Int) (sl : Addr) (Q : VK), Inv X pins σ H s → RelV x v → s.heap.IsSliceOf sl vl vu .none → IsPart vl lo → IsPart vu hi → r x lo hi H Q →
    ∃ T id, typeLookup (.type T) "__getitem__" = pure (some (.builtin id)) ∧ s.TypeIs v T ∧ wpAny (model X.prog X.w) X.A (getItem v (.ref sl)) (EP X pins σ Q) X.xe s
theorem SlR.or {r r' : V → Option Int → Option Int → Hp → VK → Prop} (h : SlR X r) (h' : SlR X r') : SlR X (fun x lo hi H Q => r x lo hi H Q ∨ r' x lo hi H Q) := by
  intro pins s σ H x v vl vu lo hi sl Q I rx hs pl pu q
  rcases q with q | q
  · exact h pins s σ H x v vl vu lo hi sl Q I rx hs pl pu q
  · exact h' pins s σ H x v vl vu lo hi sl Q I rx hs pl pu q
def tSl (r : V → Option Int → Option Int → Hp → VK → Prop) (te : TE) (tl th : TO) : TE := fun σ H Q => te σ H fun x H1 => tl σ H1 fun l H2 => th σ H2 fun u H3 => r x l u H3 Q
theorem pe_slice {r : V → Option Int → Option Int → Hp → VK → Prop} (hr : SlR X r) (he : PE X e te) (hl : PO X lo tl) (hu : PO X hi th) : PE X (.Subscript e (.Slice lo hi none p2) pos) (tSl r te tl th) := by
  intro pins s σ H Q I h
  refine Subscript_ (thn (he pins s σ H _ I h) fun v s1 ⟨x, H1, I1, r1, q1⟩ => ?_)
  refine wpAny_Slice (thn (hl pins s1 σ H1 _ I1 q1) fun vl s2 ⟨l, H2, I2, pl, q2⟩ => thn (hu pins s2 σ H2 _ I2 q2) fun vu s3 ⟨u, H3, I3, pu, q3⟩ => ?_)
  rw [evalPart_none]
  refine wpAny_pure ?_
  have I4 : Inv X pins σ H3 { s3 with heap := s3.heap.push { cls := .type "slice", data := .fields #[vl, vu, .none] } } := I3.kept (t' := s3.toks) fun b ob q => Heap.get?_push_of_some _ q
  obtain ⟨T, id, hT, ht, hg⟩ := hr pins { s3 with heap := s3.heap.push { cls := .type "slice", data := .fields #[vl, vu, .none] } } σ H3 x v vl vu l u s3.heap.objs.size Q I4 r1 (Heap.IsSliceOf.new ..) pl pu q3
  show wpAny (model X.prog X.w) X.A (subscriptTail e (.Slice lo hi none p2) v (.ref s3.heap.objs.size)) (EP X pins σ Q) X.xe { s3 with heap := s3.heap.push { cls := .type "slice", data := .fields #[vl, vu, .none] } }
  exact tail_any (ops := [.ref s3.heap.objs.size, v]) ht hT hg (by with_unfolding_all rfl)
def cutV (xs : List V) (lo hi : Option Int) : List V := (xs.drop (HT.sIx xs.length 0 lo)).take (HT.sIx xs.length xs.length hi - HT.sIx xs.length 0 lo)
theorem cutV_length (xs : List V) (lo hi : Option Int) : (cutV xs lo hi).length ≤ xs.length := by
  unfold cutV
  rw [List.length_take, List.length_drop]
  omega
def rSlT (K : PySem.W.Frag) : V → Option Int → Option Int → Hp → VK → Prop := fun x lo hi H Q => ∃ a xs, x = .ref a ∧ SqT K H a xs ∧
  ¬ (HT.sIx xs.length 0 lo = 0 ∧ HT.sIx xs.length xs.length hi = xs.length) ∧ ∀ p, H p = none → Q (.ref p) (upd H p (.tup (cutV xs lo hi)))
theorem sl_tup : SlR X (rSlT X.K) := by
  intro pins s σ H x v vl vu lo hi sl Q I rx hs pl pu h
  obtain ⟨a, xs, rfl, hx, hw, q⟩ := h
  cases rx
  obtain ⟨its, r, ht, hz⟩ := I.tuple hx
  have hlen : its.toArray.size = xs.length := by rw [List.size_toArray]; exact r.length.symm
  refine ⟨"tuple", _, PyProof.Rows.slot_tuple_getitem.lookup, ht.typeIs, ?_⟩
  refine HT.getItem_tuple_cut ht hs pl pu (by rw [hlen]; exact hw) ?_ (by rw [hlen]; exact hz)
  rw [hlen]
  refine ⟨.ref s.heap.objs.size, _, I.laid (t' := s.toks) (o := .tup (cutV xs lo hi)) (fun b ob q => Heap.get?_push_of_some _ q) (Nat.le_refl _) ?_, rfl, q _ (I.hok.fresh (Nat.le_refl _))⟩
  exact ⟨Nat.le_trans (cutV_length xs lo hi) hz, _, (r.drop (HT.sIx xs.length 0 lo)).take (HT.sIx xs.length xs.length hi - HT.sIx xs.length 0 lo), IsTup.new _ _⟩
def rCatT (K : PySem.W.Frag) : R2 := fun x y H Q => ∃ a b xs ys, x = .ref a ∧ y = .ref b ∧ SqT K H a xs ∧ SqT K H b ys ∧ xs ≠ [] ∧ xs.length + ys.length ≤ sizeLine ∧
  (ys = [] → Q (.ref a) H) ∧ (ys ≠ [] → ∀ p, H p = none → Q (.ref p) (upd H p (.tup (xs ++ ys))))
theorem Vals.nil_iff {xs : List V} {us : List Value} (r : Vals xs us) : us = [] ↔ xs = [] := by
  cases r with
  | nil => simp
  | cons _ _ => simp
theorem op_catT : OpR X (binaryOp .Add) (rCatT X.K) := by
  intro pins s σ H x y v u Q I rx ry h
  obtain ⟨a, b, xs, ys, rfl, rfl, ha, hb, hx, hz, q1, q2⟩ := h
  cases rx
  cases ry
  obtain ⟨its, r1, p1, _⟩ := I.tuple ha
  obtain ⟨its2, r2, p2, _⟩ := I.tuple hb
  refine HT.cat_tup p1 p2 (fun z => hx (r1.nil_iff.mp z)) (fun z => ⟨.ref a, H, I, rfl, q1 (r2.nil_iff.mp z)⟩) (fun z => ?_) (by rw [← r1.length, ← r2.length]; exact hz)
  refine ⟨.ref s.heap.objs.size, _, I.laid (t' := s.toks) (o := .tup (xs ++ ys)) (fun b ob q => Heap.get?_push_of_some _ q) (Nat.le_refl _) ?_, rfl, q2 (fun w => z (r2.nil_iff.mpr w)) _ (I.hok.fresh (Nat.le_refl _))⟩
  exact ⟨by rw [List.length_append]; exact hz, _, r1.append r2, IsTup.new _ _⟩
end
end L2
namespace L2
open PySem PySem.Spec PyProof.Rows
def ixN (n : Nat) (i : Int) : Option Nat := if 0 ≤ i then (if i < n then some i.toNat else none) else if -(n : Int) ≤ i then some (i + n).toNat else none
def atI {α : Type} (xs : List α) (i : Int) : Option α := (ixN xs.length i).bind fun j => xs[j]?
theorem ixN_seq {n : Nat} {i : Int} {j : Nat} (h : ixN n i = some j) : seqIndex? i n = some j ∧ j < n ∧ -(n : Int) ≤ i ∧ i < n := by
  unfold ixN at h
  by_cases h0 : 0 ≤ i
  · rw [if_pos h0] at h
    by_cases h1 : i < n
    · rw [if_pos h1] at h
      have e : i.toNat = j := Option.some.inj h
      exact ⟨by rw [seqIndex_of h0 h1, e], by omega, by omega, h1⟩
    · rw [if_neg h1] at h; cases h
  · rw [if_neg h0] at h
    by_cases h1 : -(n : Int) ≤ i
    · rw [if_pos h1] at h
      have e : (i + n).toNat = j := Option.some.inj h
      exact ⟨by rw [seqIndex_neg (by omega) h1, e], by omega, h1, by omega⟩
    · rw [if_neg h1] at h; cases h
theorem atI_get {α : Type} {xs : List α} {i : Int} {v : α} (h : atI xs i = some v) : ∃ j, seqIndex? i xs.length = some j ∧ xs[j]? = some v ∧ j < xs.length ∧ -(xs.length : Int) ≤ i ∧ i < xs.length := by
  unfold atI at h
  cases e : ixN xs.length i with
  | none => rw [e] at h; cases h
  | some j =>
    rw [e] at h
    obtain ⟨h1, h2, h3, h4⟩ := ixN_seq e
    exact ⟨j, h1, h, h2, h3, h4⟩
def PlainIx (b : Expr) : Prop := ∀ o i, subscripted b false o i = operate [o, i] (getItem o i)
def IxR (X : Cx) (r : R2) : Prop :=
  ∀ (value slice : Expr) (pins : List (Addr × Obj)) (s : Shared) (σ : St) (H : Hp) (x y : V) (v u : Value) (Q : VK), Inv X pins σ H s → RelV x v → RelV y u → r x y H Q →
    subscripted slice false v u = operate [v, u] (getItem v u) → wpAny (model X.prog X.w) X.A (subscriptTail value slice v u) (EP X pins σ Q) X.xe s
def MtR (X : Cx) (id : String) (r : V → List V → Hp → VK → Prop) : Prop :=
  ∀ (pins : List (Addr × Obj)) (s : Shared) (σ : St) (H : Hp) (x : V) (xs : List V) (v : Value) (us : List Value) (Q : VK), Inv X pins σ H s → RelV x v → Vals xs us → r x xs H Q →
    wpAny (model X.prog X.w) X.A (call (.builtin id) (v :: us)) (EP X pins σ Q) X.xe s
section
variable {X : Cx} {a b : Expr} {ta tb : TE} {pos : Pos}
theorem IxR.or {r r' : R2} (h : IxR X r) (h' : IxR X r') : IxR X (fun x y H Q => r x y H Q ∨ r' x y H Q) := by
  intro value slice pins s σ H x y v u Q I rx ry q hs
  rcases q with q | q
  · exact h value slice pins s σ H x y v u Q I rx ry q hs
  · exact h' value slice pins s σ H x y v u Q I rx ry q hs
theorem MtR.or {id : String} {r r' : V → List V → Hp → VK → Prop} (h : MtR X id r) (h' : MtR X id r') : MtR X id (fun x xs H Q => r x xs H Q ∨ r' x xs H Q) := by
  intro pins s σ H x xs v us Q I rx rs q
  rcases q with q | q
  · exact h pins s σ H x xs v us Q I rx rs q
  · exact h' pins s σ H x xs v us Q I rx rs q
theorem pe_ix {r : R2} (hr : IxR X r) (ha : PE X a ta) (hb : PE X b tb) (hs : PlainIx b) : PE X (.Subscript a b pos) (tOp r ta tb) := by
  intro pins s σ H Q I h
  exact Subscript_ (binT ha hb I h fun v u s2 x y H2 I2 rx ry q => hr a b pins s2 σ H2 x y v u Q I2 rx ry q (hs _ _))
def rIxL (K : PySem.W.Frag) : R2 := fun x y H Q => ∃ p xs i v, x = .ref p ∧ y = .int i ∧ SqL K H p xs ∧ atI xs i = some v ∧ Q v H
def rIxT (K : PySem.W.Frag) : R2 := fun x y H Q => ∃ p xs i v, x = .ref p ∧ y = .int i ∧ SqT K H p xs ∧ atI xs i = some v ∧ Q v H
def rIxS : R2 := fun x y H Q => ∃ z i c, x = .str z ∧ y = .int i ∧ z.length ≤ sizeLine ∧ atI z.cps.toList i = some c ∧ Q (.str ⟨#[c]⟩) H
theorem ix_list : IxR X (rIxL X.K) := by
  intro value slice pins s σ H x y v u Q I rx ry h hs
  obtain ⟨p, xs, i, z, rfl, rfl, hq, he, q⟩ := h
  cases rx
  obtain ⟨t, rfl⟩ := ry
  obtain ⟨its, r, pl, hz⟩ := I.list hq
  obtain ⟨j, h1, h2, h3, h4, h5⟩ := atI_get he
  obtain ⟨w, ew, rw'⟩ := r.get h2
  have hl := r.length
  have hn := line63
  have fin : EP X pins σ Q w s := ⟨z, H, I, rw', q⟩
  by_cases h0 : 0 ≤ i
  · have hj : i.toNat = j := by
      rw [seqIndex_of h0 h5] at h1
      exact Option.some.inj h1
    exact item_listR pl.isList h0 (by omega) (by rw [hj]; simpa using ew) fin hs
  · have hj : (i + (its.toArray.size : Int)).toNat = j := by
      rw [seqIndex_neg (by omega) h4] at h1
      rw [List.size_toArray, ← hl]
      exact Option.some.inj h1
    exact subscriptTail_builtinR (x := w) pl.isList.typeIs slot_list_getitem.lookup
      (wpAny_getItem_list_neg (Q := fun r s' => r = w ∧ EP X pins σ Q r s') pl.isList (by omega) (by rw [List.size_toArray] <;> omega) (by omega) (by rw [hj]; simpa using ew) ⟨rfl, fin⟩) hs
theorem ix_tup : IxR X (rIxT X.K) := by
  intro value slice pins s σ H x y v u Q I rx ry h hs
  obtain ⟨p, xs, i, z, rfl, rfl, hq, he, q⟩ := h
  cases rx
  obtain ⟨t, rfl⟩ := ry
  obtain ⟨its, r, pl, hz⟩ := I.tuple hq
  obtain ⟨j, h1, h2, h3, h4, h5⟩ := atI_get he
  obtain ⟨w, ew, rw'⟩ := r.get h2
  have hl := r.length
  have hn := line63
  have fin : EP X pins σ Q w s := ⟨z, H, I, rw', q⟩
  exact subscriptTail_builtinR (x := w) pl.typeIs slot_tuple_getitem.lookup
    (getItem_tuple (j := j) (Q := fun r s' => r = w ∧ EP X pins σ Q r s') pl (by omega) (by omega) (by rw [List.size_toArray, ← hl]; exact h1) (by simpa using ew) ⟨rfl, fin⟩) hs
theorem ix_str : IxR X rIxS := by
  intro value slice pins s σ H x y v u Q I rx ry h hs
  obtain ⟨z, i, c, rfl, rfl, hz, he, q⟩ := h
  obtain ⟨t, rfl⟩ := rx
  obtain ⟨t', rfl⟩ := ry
  obtain ⟨j, h1, h2, h3, h4, h5⟩ := atI_get he
  have hl : z.cps.toList.length = z.length := by simp [Str.length]
  rw [hl] at h1 h4 h5
  have hn := line63
  exact tail_any (typeIs_str s z t) slot_str_getitem.lookup (getItem_str (c := c) (by
    have e1 : decide (i < -(2 ^ 63 : Int)) = false := decide_eq_false (by omega)
    have e2 : decide (i ≥ 2 ^ 63) = false := decide_eq_false (by omega)
    rw [e1, e2, Bool.or_false]) (by rw [h1]; simpa using h2) ⟨.str ⟨#[c]⟩, H, I.tok _, ⟨_, rfl⟩, q⟩) hs
def rIx (K : PySem.W.Frag) : R2 := fun x y H Q => rIxL K x y H Q ∨ rIxT K x y H Q ∨ rIxS x y H Q
theorem ix_seq : IxR X (rIx X.K) := ix_list.or (ix_tup.or ix_str)
theorem Inv.lst {pins : List (Addr × Obj)} {σ : St} {H : Hp} {s : Shared} {p : Addr} {xs : List V} (I : Inv X pins σ H s) (h : H p = some (.lst xs)) :
    ∃ (its : List Value) (n : Nat), Vals xs its ∧ s.heap.get? p = some { cls := .type "list", data := .seq its.toArray n } ∧ xs.length ≤ sizeLine := by
  obtain ⟨z, its, n, r, e⟩ := I.hok p _ h
  exact ⟨its, n, r, e, z⟩
theorem slice_bounds (lo hi : Option Int) (n : Nat) : (sliceBounds lo hi none n).1 = ((HT.sIx n 0 lo : Nat) : Int) ∧ (sliceBounds lo hi none n).2.1 = ((HT.sIx n n hi : Nat) : Int) ∧ (sliceBounds lo hi none n).2.2 = 1 := by
  refine ⟨?_, ?_, rfl⟩
  · cases lo with
    | none => simp [sliceBounds, HT.sIx]
    | some i =>
      simp only [sliceBounds, HT.sIx, Option.getD_none, show (1 : Int) > 0 by decide, if_true]
      by_cases h : i < 0
      · simp only [h, if_true] <;> omega
      · simp only [h, if_false] <;> omega
  · cases hi with
    | none => simp [sliceBounds, HT.sIx]
    | some i =>
      simp only [sliceBounds, HT.sIx, Option.getD_none, show (1 : Int) > 0 by decide, if_true]
      by_cases h : i < 0
      · simp only [h, if_true] <;> omega
      · simp only [h, if_false] <;> omega
theorem slicePick_cut (its : List Value) (lo hi : Option Int) : slicePick its.toArray lo hi none = ((its.drop (HT.sIx its.length 0 lo)).take (HT.sIx its.length its.length hi - HT.sIx its.length 0 lo)).toArray := by
  obtain ⟨h1, h2, h3⟩ := slice_bounds lo hi its.toArray.size
  unfold slicePick
  rw [h1, h2, h3]
  simp only [sliceRange_one, pick_run, List.size_toArray] <;> rfl
def rSlL (K : PySem.W.Frag) : V → Option Int → Option Int → Hp → VK → Prop := fun x lo hi H Q => ∃ a xs, x = .ref a ∧ SqL K H a xs ∧ ∀ p, H p = none → Q (.ref p) (upd H p (.lst (cutV xs lo hi)))
theorem sl_list : SlR X (rSlL X.K) := by
  intro pins s σ H x v vl vu lo hi sl Q I rx hs pl pu h
  obtain ⟨a, xs, rfl, hx, q⟩ := h
  cases rx
  obtain ⟨its, r, ht, hz⟩ := I.list hx
  have hlen := r.length
  refine ⟨"list", _, slot_list_getitem.lookup, ht.isList.typeIs, ?_⟩
  refine wpAny_getItem_list_slice ht.isList hs pl pu .none (by simp) ?_ (by rw [List.size_toArray] <;> omega)
  rw [slicePick_cut, ← hlen]
  refine ⟨.ref s.heap.objs.size, _, I.laid (t' := s.toks) (o := .lst (cutV xs lo hi)) (fun b ob q => Heap.get?_push_of_some _ q) (Nat.le_refl _) ?_, rfl, q _ (I.hok.fresh (Nat.le_refl _))⟩
  exact ⟨Nat.le_trans (cutV_length xs lo hi) hz, _, 0, (r.drop (HT.sIx xs.length 0 lo)).take (HT.sIx xs.length xs.length hi - HT.sIx xs.length 0 lo), Heap.get?_push_size _ rfl⟩
def flatV : V → Bool
  | .non => true
  | .bl _ => true
  | .int _ => true
  | .str _ => true
  | _ => false
def eqV : V → V → Bool
  | .non, .non => true
  | .bl a, .bl b => a == b
  | .bl a, .int b => (if a then 1 else 0) == b
  | .int a, .bl b => a == (if b then 1 else 0)
  | .int a, .int b => a == b
  | .str a, .str b => a == b
  | _, _ => false
theorem eqAt_V {A : Around} {s : Shared} {y x : V} {u v : Value} (ry : RelV y u) (rx : RelV x v) (fy : flatV y = true) (fx : flatV x = true) : SeqAt.EqAt A s u v (eqV y x) := by
  cases y with
  | non =>
    cases ry
    cases x with
    | non => cases rx; exact SeqAt.EqAt.same _
    | bl b => cases rx; exact SeqAt.EqAt.none_bool b
    | int b => obtain ⟨t, rfl⟩ := rx; exact SeqAt.EqAt.none_int b t
    | str b => obtain ⟨t, rfl⟩ := rx; exact SeqAt.EqAt.none_str b t
    | _ => exact absurd (show false = true from fx) Bool.false_ne_true
  | bl a =>
    cases ry
    cases x with
    | non => cases rx; exact SeqAt.EqAt.bool_none a
    | bl b => cases rx; exact SeqAt.EqAt.bool_bool a b
    | int b => obtain ⟨t, rfl⟩ := rx; exact SeqAt.EqAt.bool_int a b t
    | str b => obtain ⟨t, rfl⟩ := rx; exact SeqAt.EqAt.bool_str a b t
    | _ => exact absurd (show false = true from fx) Bool.false_ne_true
  | int a =>
    obtain ⟨t', rfl⟩ := ry
    cases x with
    | non => cases rx; exact SeqAt.EqAt.int_none a t'
    | bl b => cases rx; exact SeqAt.EqAt.int_bool a t' b
    | int b => obtain ⟨t, rfl⟩ := rx; exact SeqAt.EqAt.int_int a t' b t
    | str b => obtain ⟨t, rfl⟩ := rx; exact SeqAt.EqAt.int_str a t' b t
    | _ => exact absurd (show false = true from fx) Bool.false_ne_true
  | str a =>
    obtain ⟨t', rfl⟩ := ry
    cases x with
    | non => cases rx; exact SeqAt.EqAt.str_none a t'
    | bl b => cases rx; exact SeqAt.EqAt.str_bool a t' b
    | int b => obtain ⟨t, rfl⟩ := rx; exact SeqAt.EqAt.str_int a t' b t
    | str b => obtain ⟨t, rfl⟩ := rx; exact SeqAt.EqAt.str_str a t' b t
    | _ => exact absurd (show false = true from fx) Bool.false_ne_true
  | _ => exact absurd (show false = true from fy) Bool.false_ne_true
def eqU (x : V) (u : Value) : Bool := match u with
  | .none => eqV .non x
  | .bool b => eqV (.bl b) x
  | .int i _ => eqV (.int i) x
  | .str z _ => eqV (.str z) x
  | _ => false
theorem eqU_of {x y : V} {u : Value} (r : RelV y u) (f : flatV y = true) : eqU x u = eqV y x := by
  cases y with
  | non => cases r; rfl
  | bl b => cases r; rfl
  | int i => obtain ⟨t, rfl⟩ := r; rfl
  | str z => obtain ⟨t, rfl⟩ := r; rfl
  | _ => exact absurd (show false = true from f) Bool.false_ne_true
theorem any_eqU {x : V} : ∀ {xs : List V} {us : List Value}, Vals xs us → xs.all flatV = true → us.any (eqU x) = xs.any fun y => eqV y x
  | _, _, .nil, _ => rfl
  | y :: xs, u :: us, .cons r t, f => by
    rw [List.all_cons, Bool.and_eq_true] at f
    rw [List.any_cons, List.any_cons, eqU_of r f.1, any_eqU t f.2]
theorem mem_eqAt {A : Around} {s : Shared} {x : V} {v : Value} (rx : RelV x v) (fx : flatV x = true) : ∀ {xs : List V} {us : List Value}, Vals xs us → xs.all flatV = true → ∀ u ∈ us, SeqAt.EqAt A s u v (eqU x u)
  | _, _, .nil, _ => fun u hu => by cases hu
  | y :: xs, u :: us, .cons r t, f => fun u' hu => by
    rw [List.all_cons, Bool.and_eq_true] at f
    rcases List.mem_cons.mp hu with rfl | hu
    · rw [eqU_of r f.1]; exact eqAt_V r rx f.1 fx
    · exact mem_eqAt rx fx t f.2 u' hu
def inV (x : V) (xs : List V) : Bool := xs.any fun y => eqV y x
def rIn (K : PySem.W.Frag) (neg : Bool) : R2 := fun x y H Q => ∃ p xs, y = .ref p ∧ (SqL K H p xs ∨ SqT K H p xs) ∧ flatV x = true ∧ xs.all flatV = true ∧ Q (.bl (if neg then !inV x xs else inV x xs)) H
theorem op_in_seq : OpR X (compareOp .In) (rIn X.K false) := by
  intro pins s σ H x y v u Q I rx ry h
  obtain ⟨p, xs, rfl, hq, fx, fs, q⟩ := h
  cases ry
  rcases hq with hq | hq
  · obtain ⟨its, r, pl, hz⟩ := I.list hq
    refine SeqAt.in_listAt (eqU x) pl.isList (fun w hw => mem_eqAt rx fx r fs w (by simpa using hw)) ⟨.bl _, H, I, rfl, ?_⟩
    rw [show its.toArray.any (eqU x) = its.any (eqU x) by simp, any_eqU r fs]
    exact q
  · obtain ⟨its, r, pl, hz⟩ := I.tuple hq
    refine SeqAt.in_tupleAt (eqU x) pl (fun w hw => mem_eqAt rx fx r fs w (by simpa using hw)) ⟨.bl _, H, I, rfl, ?_⟩
    rw [show its.toArray.any (eqU x) = its.any (eqU x) by simp, any_eqU r fs]
    exact q
theorem CallR.or {f : Value} {r r' : List V → Hp → VK → Prop} (h : CallR X f r) (h' : CallR X f r') : CallR X f (fun xs H Q => r xs H Q ∨ r' xs H Q) := by
  intro pins s σ H xs us Q I rs q
  rcases q with q | q
  · exact h pins s σ H xs us Q I rs q
  · exact h' pins s σ H xs us Q I rs q
theorem call_tuple_of : CallR X (.type "tuple") (fun xs H Q => ∃ p ys, xs = [.ref p] ∧ ((SqL X.K H p ys ∧ ∀ l, H l = none → Q (.ref l) (upd H l (.tup ys))) ∨ (SqT X.K H p ys ∧ Q (.ref p) H))) := by
  intro pins s σ H xs us Q I r h
  obtain ⟨p, ys, rfl, h⟩ := h
  obtain ⟨u, rfl, rx⟩ := vals1 r
  cases rx
  rcases h with ⟨hq, q⟩ | ⟨hq, q⟩
  · obtain ⟨its, r', pl, hz⟩ := I.list hq
    have hlen := r'.length
    refine call_tuple_list pl.isList (fun h' kp => ?_) (by simp only [List.size_toArray] <;> omega)
    have I1 : Inv X pins σ H { s with heap := h' } := I.kept (t' := s.toks) kp
    have I2 : Inv X pins σ (upd H h'.objs.size (.tup ys)) { s with heap := h'.push { cls := .type "tuple", data := .seq its.toArray } } :=
      I1.laid (t' := s.toks) (fun b o e => Heap.get?_push_of_some _ e) (Nat.le_refl _) (show ObjOk X.prog X.w _ _ _ (.tup ys) from ⟨hz, its, r', IsTup.new _ _⟩)
    exact ⟨.ref h'.objs.size, _, I2, rfl, q _ (I1.hok.fresh (Nat.le_refl _))⟩
  · obtain ⟨its, r', pl, hz⟩ := I.tuple hq
    exact call_tuple_same pl ⟨.ref p, H, I, rfl, q⟩
def tyV (K : PySem.W.Frag) (T : String) (x : V) (H : Hp) : Prop := match x with
  | .str _ => T = "str"
  | .int _ => T = "int"
  | .ref p => (T = "list" ∧ ∃ xs, SqL K H p xs) ∨ (T = "tuple" ∧ ∃ o, K.lookup p = some o ∧ o.cls = .type "tuple" ∧ o.dict = none) ∨
      (T = "dict" ∧ ((∃ kvs, H p = some (.dK kvs)) ∨ ∃ kvs, H p = some (.dT kvs))) ∨ (T = "set" ∧ ∃ S n, H p = some (.set S n))
  | _ => False
theorem tyV_is {pins : List (Addr × Obj)} {σ : St} {H : Hp} {s : Shared} {T : String} {x : V} {v : Value} (I : Inv X pins σ H s) (r : RelV x v) (ty : tyV X.K T x H) :
    s.TypeIs v T ∧ ∀ a, v = .ref a → ∃ ob, s.heap.get? a = some ob ∧ ob.dict = none := by
  cases x with
  | str z =>
    obtain ⟨t, rfl⟩ := r
    cases (show T = "str" from ty)
    exact ⟨typeIs_str s z t, fun _ e => nomatch e⟩
  | int i =>
    obtain ⟨t, rfl⟩ := r
    cases (show T = "int" from ty)
    exact ⟨typeIs_int s i t, fun _ e => nomatch e⟩
  | ref p =>
    cases r
    rcases ty with ⟨rfl, xs, hq⟩ | ⟨rfl, o, hk, hc, hd⟩ | ⟨rfl, hk⟩ | ⟨rfl, S, n, hk⟩
    · obtain ⟨its, _, pl, _⟩ := I.list hq
      refine ⟨pl.isList.typeIs, fun a e => ?_⟩
      cases e
      obtain ⟨o, n, e, c, hd, _⟩ := pl
      exact ⟨o, e, hd⟩
    · refine ⟨⟨o, I.kIn p o hk, hc⟩, fun a e => ?_⟩
      cases e
      exact ⟨o, I.kIn _ o hk, hd⟩
    · have z : ∃ o, s.heap.get? p = some o ∧ o.ExactDict := by
        rcases hk with ⟨kvs, hk⟩ | ⟨kvs, hk⟩
        · obtain ⟨_, _, _, _, o, _, _, e, ex, _⟩ := I.hok p _ hk
          exact ⟨o, e, ex⟩
        · obtain ⟨_, _, _, _, o, _, _, e, ex, _⟩ := I.hok p _ hk
          exact ⟨o, e, ex⟩
      obtain ⟨o, e, ex⟩ := z
      refine ⟨⟨o, e, ex.1⟩, fun a e2 => ?_⟩
      cases e2
      exact ⟨o, e, ex.2.1⟩
    · obtain ⟨o, _, _, _, e, ex, _⟩ := I.hok p _ hk
      refine ⟨⟨o, e, ex.1⟩, fun a e2 => ?_⟩
      cases e2
      exact ⟨o, e, ex.2.1⟩
  | _ => exact False.elim ty
def tBM (K : PySem.W.Frag) (T : String) (r : V → List V → Hp → VK → Prop) (to : TE) (t : TA) : TE := fun σ H Q => to σ H fun x H1 => tyV K T x H1 ∧ t σ H1 fun xs H2 => r x xs H2 Q
variable {o e : Expr} {es : List Expr} {to : TE} {t : TA} {name : Str} {apos cpos : Pos} {T id : String} {r : V → List V → Hp → VK → Prop}
theorem pe_bm (pa : PlainAttrs T) (slot : Slot T name id) (hty : typeOf (.builtin id) = pure (.type "method_descriptor")) (hm : MtR X id r) (ho : PE X o to) (ha : PA X (e :: es) t)
    (hbase : attributeBase o name X.env (eval o X.env) = eval o X.env := by rfl)
    (hfew : ((backTo cpos (starEach (e :: es) X.env)).all (fun x => !x.1) && (backToKw cpos (keywordEach [] X.env)).all (fun x => x.1.isSome)
      && decide ((e :: es).length + ([] : List Keyword).length + (if ([] : List Keyword).isEmpty then 0 else 1) < 30)) = true := by rfl)
    (hline : (apos.endLine == cpos.line) = true := by rfl) (hs : starEach (e :: es) X.env = (false, eval e X.env) :: starEach es X.env := by rfl) (hplain : (backTo cpos (starEach es X.env)).any (·.1) = false := by rfl) :
    PE X (.Call (.Attribute o name apos) (e :: es) [] cpos) (tBM X.K T r to t) := by
  intro pins s σ H Q I h
  refine wpAny_Call_method_late hbase hfew hline rfl (thn (ho pins s σ H _ I h) fun v s1 ⟨x, H1, I1, r1, ty, q1⟩ => ?_)
  obtain ⟨h1, h2⟩ := tyV_is I1 r1 ty
  refine ⟨T, id, pa, slot, hty, h1, h2, ?_⟩
  have hA := ha cpos pins s1 σ H1 _ I1 q1
  rw [hs] at hA ⊢
  refine Calls.callWith_builtin (by show (false || (backTo cpos (starEach es X.env)).any (·.1)) = false; rw [hplain] <;> rfl) (Calls.evalArgs_plain ?_)
  exact thn hA fun us s2 ⟨vs, H2, I2, r2, q2⟩ => hm pins s2 σ H2 x vs v us Q I2 r1 r2 q2
end
end L2
namespace L2
open PySem PySem.Spec PyProof.Rows
def MtM (X : Cx) (id : String) (r : V → List V → Hp → VK → Prop) : Prop :=
  ∀ (pins : List (Addr × Obj)) (s : Shared) (σ : St) (H : Hp) (x : V) (xs : List V) (v : Value) (us : List Value) (Q : VK), Inv X pins σ H s → RelV x v → Vals xs us → r x xs H Q →
    wpAny (model X.prog X.w) X.A (call (.builtin id) (v :: us)) (EP X pins σ Q) X.xe s
theorem Vals.one : ∀ {x : V} {us : List Value}, Vals [x] us → ∃ u, us = [u] ∧ RelV x u
  | _, _, .cons r .nil => ⟨_, rfl, r⟩
theorem Vals.two : ∀ {x y : V} {us : List Value}, Vals [x, y] us → ∃ u v, us = [u, v] ∧ RelV x u ∧ RelV y v
  | _, _, _, .cons r (.cons q .nil) => ⟨_, _, rfl, r, q⟩
theorem Vals.zero : ∀ {us : List Value}, Vals [] us → us = []
  | _, .nil => rfl
theorem Vals.dropLast {xs : List V} {us : List Value} (h : Vals xs us) : Vals xs.dropLast us.dropLast := by
  induction h with
  | nil => exact .nil
  | cons r t ih =>
    cases t with
    | nil => exact .nil
    | cons q t' => exact .cons r ih
theorem Vals.eraseIdx : ∀ {xs : List V} {us : List Value} (i : Nat), Vals xs us → Vals (xs.eraseIdx i) (us.eraseIdx i)
  | _, _, _, .nil => .nil
  | _, _, 0, .cons _ t => t
  | _, _, i + 1, .cons r t => .cons r (Vals.eraseIdx i t)
theorem Vals.reverse {xs : List V} {us : List Value} (h : Vals xs us) : Vals xs.reverse us.reverse := by
  induction h with
  | nil => exact .nil
  | cons r t ih => rw [List.reverse_cons, List.reverse_cons]; exact Vals.append ih (.cons r .nil)
theorem Vals.rep {xs : List V} {us : List Value} (h : Vals xs us) : ∀ k : Nat, Vals (List.replicate k xs).flatten (List.replicate k us).flatten
  | 0 => .nil
  | k + 1 => by
    rw [List.replicate_succ, List.replicate_succ, List.flatten_cons, List.flatten_cons]
    exact Vals.append h (Vals.rep h k)
theorem len_erase {α : Type} : ∀ (l : List α) (i : Nat), (l.eraseIdx i).length ≤ l.length
  | [], _ => Nat.le_refl _
  | _ :: _, 0 => Nat.le_succ _
  | _ :: r, i + 1 => Nat.succ_le_succ (len_erase r i)
section
variable {X : Cx} {pins : List (Addr × Obj)} {σ : St} {H : Hp} {s : Shared} {l b : Addr} {xs ys zs : List V}
theorem Inv.lset {its its' : List Value} {n : Nat} {f : Array Value → Array Value} {t' : Nat} (I : Inv X pins σ H s) (hH : H l = some (.lst xs))
    (e : s.heap.get? l = some { cls := .type "list", data := .seq its.toArray n }) (hf : f its.toArray = its'.toArray) (hv : Vals ys its') (hz : ys.length ≤ sizeLine) :
    Inv X pins σ (upd H l (.lst ys)) { s with heap := s.heap.update l (Obj.mapSeq f), toks := t' } := by
  have q := PySem.IsL.update e f
  rw [hf] at q
  refine I.write (x := l) (e := l) (by rw [hH]; exact trivial) (.inl rfl) (fun b' u hb hu => (Heap.get?_update_other s.heap (Obj.mapSeq f) (Ne.symm hb)).trans hu) ⟨_, q⟩ ?_
  exact ⟨hz, its', _, hv, q⟩
theorem Inv.lnew {its : List Value} {t' : Nat} (I : Inv X pins σ H s) (hv : Vals ys its) (hz : ys.length ≤ sizeLine) :
    Inv X pins σ (upd H s.heap.objs.size (.lst ys)) { s with heap := s.heap.push { cls := .type "list", data := .seq its.toArray }, toks := t' } :=
  I.laid (fun _ _ q => Heap.get?_push_of_some _ q) (Nat.le_refl _) ⟨hz, its, 0, hv, Heap.get?_push_size _ rfl⟩
theorem Inv.fresh (I : Inv X pins σ H s) : H s.heap.objs.size = none := I.hok.fresh (Nat.le_refl _)
theorem Inv.lstM (I : Inv X pins σ H s) (hH : H l = some (.lst xs)) : xs.length ≤ sizeLine ∧ ∃ (its : List Value) (n : Nat), Vals xs its ∧ xs.length = its.length ∧ s.heap.get? l = some { cls := .type "list", data := .seq its.toArray n } := by
  obtain ⟨z, its, n, r, e⟩ := I.hok l _ hH
  exact ⟨z, its, n, r, r.length, e⟩
end
section
variable {X : Cx}
def rAppend : V → List V → Hp → VK → Prop := fun x vs H Q => ∃ l xs y, x = .ref l ∧ vs = [y] ∧ H l = some (.lst xs) ∧ xs.length < sizeLine ∧ Q .non (upd H l (.lst (xs ++ [y])))
theorem mt_append : MtM X "list.append" rAppend := by
  intro pins s σ H x vs v us Q I rx rv h
  obtain ⟨l, xs, y, rfl, rfl, hH, hz, q⟩ := h
  cases rx
  obtain ⟨u, rfl, ru⟩ := rv.one
  obtain ⟨z, its, n, r, hl, e⟩ := I.lstM hH
  refine call_meets F.slot_list_append ⟨_, e, rfl⟩ F.entry_list_append (F.args_list_append_2 _ _) (PySem.list_append l its.toArray n u (by rw [List.size_toArray]; omega)) ⟨e, ?_⟩
  refine ⟨.non, _, I.lset (its' := its ++ [u]) hH e (by simp) (r.append (.cons ru .nil)) ?_, rfl, q⟩
  rw [List.length_append, List.length_singleton]
  omega
def rPopAt : V → List V → Hp → VK → Prop := fun x vs H Q => ∃ l xs i k y, x = .ref l ∧ vs = [.int i] ∧ H l = some (.lst xs) ∧ -(2 ^ 63) ≤ i ∧ i < 2 ^ 63 ∧ seqIndex? i xs.length = some k ∧ xs[k]? = some y ∧ Q y (upd H l (.lst (xs.eraseIdx k)))
theorem mt_popAt : MtM X "list.pop" rPopAt := by
  intro pins s σ H x vs v us Q I rx rv h
  obtain ⟨l, xs, i, k, y, rfl, rfl, hH, h1, h2, hk, hy, q⟩ := h
  cases rx
  obtain ⟨u, rfl, ru⟩ := rv.one
  obtain ⟨t, rfl⟩ := ru
  obtain ⟨z, its, n, r, hl, e⟩ := I.lstM hH
  obtain ⟨w, hw, rw'⟩ := r.get hy
  refine call_meets F.slot_list_pop ⟨_, e, rfl⟩ F.entry_list_pop (F.args_list_pop_2 _ _)
    (MeetsSeq.list_pop_at l its.toArray n i t k w (fitsIndex_both h1 h2) (by rw [List.size_toArray, ← hl]; exact hk) (by rw [← Array.getElem?_toList]; exact hw) (by rw [List.size_toArray]; omega)) ⟨e, ?_⟩
  refine ⟨y, _, I.lset (its' := its.eraseIdx k) hH e ?_ (r.eraseIdx k) ?_, rw', q⟩
  · show its.toArray.eraseIdxIfInBounds k = (its.eraseIdx k).toArray
    rw [List.eraseIdxIfInBounds_toArray]
  · have := len_erase xs k
    omega
def rCat : R2 := fun x y H Q => ∃ l b xs zs, x = .ref l ∧ y = .ref b ∧ H l = some (.lst xs) ∧ H b = some (.lst zs) ∧ xs.length + zs.length ≤ sizeLine ∧ ∀ p, H p = none → Q (.ref p) (upd H p (.lst (xs ++ zs)))
theorem op_cat : OpR X (binaryOp .Add) rCat := by
  intro pins s σ H x y v u Q I rx ry h
  obtain ⟨l, b, xs, zs, rfl, rfl, hH, hB, hz, q⟩ := h
  cases rx
  cases ry
  obtain ⟨z, its, n, r, hl, e⟩ := I.lstM hH
  obtain ⟨z2, its2, n2, r2, hl2, e2⟩ := I.lstM hB
  refine PySem.P.add_list e e2 ?_ (by rw [List.size_toArray, List.size_toArray]; omega)
  have ea : its.toArray ++ its2.toArray = (its ++ its2).toArray := by simp
  rw [ea]
  exact ⟨.ref _, _, I.lnew (t' := s.toks) (r.append r2) (by rw [List.length_append]; omega), rfl, q _ I.fresh⟩
end
section
variable {prog : Program} {w : World} {A : Around} {E : Value → Shared → Prop} {s : Shared}
end
section
variable {X : Cx}
end
end L2
namespace Att
open PySem PySem.W PySem.Calls PyProof.Rows
theorem ints_of_wellAll {P : Params} {h : Heap} : ∀ (ns : List Int) (vs : List Value), WellAll P h vs (ns.map WData.int) → IntsAre vs ns := by
  intro ns
  induction ns with
  | nil =>
    intro vs w
    rw [List.map_nil] at w
    cases w
    exact .nil
  | cons n ns ih =>
    intro vs w
    rw [List.map_cons] at w
    cases w with
    | cons a b =>
      cases a
      exact .cons _ _ (ih _ b)
theorem script_of {l : OpenLaw} {n : Nat} (hn : l.most = some n) {P : Params} {h : Heap} {args : List WData} {vals : List Value}
    (hpre : l.row.toRowW.claim.pre args = true) (hwl : WellAll P h vals args) :
    ∃ a vs ns, vals = [Value.ref a] ∧ args = [WData.list (ns.map WData.int)] ∧ h.get? a = some { cls := .type "list", data := .seq vs.toArray } ∧ IntsAre vs ns ∧ ns.length ≤ n := by
  have hsh : WShape.hasAll [] args [.list .int] = true := (pre_splitW hpre).1
  have hc : l.pre.holds [] { args := args } = true := (pre_splitW hpre).2
  obtain ⟨d, r, rfl, h1, h2⟩ := hasAllW_cons hsh
  obtain rfl := hasAllW_nil h2
  obtain ⟨xs, rfl, h3⟩ := hasW_list h1
  obtain ⟨ns, rfl⟩ := items_int h3
  have hlen : ns.length ≤ n := by
    unfold OpenLaw.pre at hc
    have h4 : (WTm.not (.lt (.lit (.int (n : Int))) (.len (.arg 0)))).holds [] { args := [.list (ns.map .int)] } = true := by
      have h4 := (holds_andW hc).1
      rw [hn] at h4
      exact h4
    have h5 := condW_of h4 (w_not (w_lt w_lit (w_len_list (w_arg rfl))))
    rw [List.length_map] at h5
    refine Nat.le_of_not_lt fun q => ?_
    have q' : (n : Int) < ((ns.length : Nat) : Int) := by omega
    first
      | (rw [decide_eq_true q'] at h5; exact absurd h5 (by decide))
      | (simp at h5; omega)
  cases hwl with
  | cons w1 w2 =>
    cases w2
    cases w1 with
    | list ho hall => exact ⟨_, _, ns, rfl, rfl, ho, ints_of_wellAll ns _ hall, hlen⟩
theorem post_true (l : OpenLaw) (args : List WData) : l.row.toRowW.claim.post args (.bool true) args = true :=
  postW_of (r := l.row.toRowW) (X := (true == true))
    (show WShape.has [] (.bool true) .bool = true by first | rfl | decide | simp [WShape.has, WShape.arms, WShape.armsAll])
    (show (WTm.eq .res (.lit (.bool true))).value [] { args := args, res := some (.bool true), after := args } = some (.bool (true == true)) from w_eq_bool (w_res rfl) w_lit) rfl
theorem attach_call {l : OpenLaw} {n : Nat} {q : Program} {loose : List Str} {XP : (Str → Option Value) → Heap → Prop} {YP : World → Heap → Prop} {d : DefRec}
    (hn : l.most = some n) (hdf : d.params.defaults = [])
    (call : ∀ (w : World) (s₀ s₁ : Shared) (mg mb : Str → Option Value) (fa : Addr) (o : Obj) (pm cd doc : Value) (a : Addr) (vs : List Value) (ns : List Int),
      Ground q loose [] XP w s₀ mg mb s₁.heap → YP w s₁.heap →
      s₁.heap.get? fa = some o → o.data = .func (docDef d.name d.params d.body d.scope pm cd doc) → s₁.heap.CodeRec cd d.name → mg d.name = some (.ref fa) →
      s₁.heap.get? a = some { cls := .type "list", data := .seq vs.toArray } → IntsAre vs ns → ns.length ≤ n → s₁.gens = #[] →
      codeAny (model l.prog w) callerA (.call (.ref fa) ⟨[.ref a], []⟩) (fun r s' => r = .ok (.ret (.bool true)) ∧ OldK s₁.heap s'.heap ∧ s'.os = s₁.os ∧ AllBare s'.gens) s₁) :
    WalkO q loose XP YP l.row.toRowW d [] (fun f vs => PySem.call f vs) := by
  intro w s₀ s₁ mg mb G Y fa o pm cd doc dV kV ho hd hcd hD hmg hg args vals as hpre hlay hrd hwl hlo
  obtain rfl : dV = .none := Dflts.none hD hdf
  obtain rfl : kV = .none := Dflts.noKw hD
  obtain ⟨a, vs, ns, rfl, rfl, hobj, hints, hlen⟩ := script_of hn hpre hwl
  refine enter_call (codeAny_mono (call w s₀ s₁ mg mb fa o pm cd doc a vs ns G Y ho (fd_plain hd) hcd hmg hobj hints hlen hg) fun r s' hq => ?_)
  obtain ⟨rfl, h2, h3, h4⟩ := hq
  exact ⟨.inl ⟨.bool true, .bool true, [], rfl, fun _ => rfl, .bool true, post_true l _, fun _ => ⟨List.Pairwise.nil, fun _ hm => (nomatch hm)⟩⟩, h2, h3, h4⟩
section
variable {prog : Program} {w : World} {A : Around} {E : Value → Shared → Prop} {s : Shared} {K : Frag}
end
end Att
namespace L2
open PySem PySem.Spec PyProof.Rows
theorem vals_ints : ∀ {vs : List Value} {ns : List Int}, IntsAre vs ns → Vals (ns.map V.int) vs
  | _, _, .nil => .nil
  | _, _, .cons n t h => .cons ⟨t, rfl⟩ (vals_ints h)
def Only (H : Hp) : Prop := ∀ b, H b = none ∨ ∃ o xs, H b = some (.frz o (.lst xs))
theorem law_call {P : Program} {w : World} {K : PySem.W.Frag} {mg mb : Str → Option Value} {CX : CXT} {k : Nat} {fa a : Addr} {fd : FuncData} {x : Str} {sp : Sp} {s₁ : Shared} {vs : List Value} {ns : List Int}
    (KX : K.In s₁.heap) (hns : s₁.heap.Ns mainGlobals mg) (hb : s₁.heap.Ns builtinsNs mb) (hbb : ∀ x : Str, x ≠ "__name__" → mb x = bootBuiltins x) (hlim : s₁.heap.NoLimit) (hg : s₁.gens = #[])
    (ha : s₁.heap.get? a = some { cls := .type "list", data := .seq vs.toArray }) (hi : IntsAre vs ns) (hl : ns.length ≤ sizeLine) (hr : Room k callerA)
    (F : ∀ base : Heap, K.In base → base.Ns mainGlobals mg → FnOk P w K mg base CX k fa fd [x] sp) (hbind : ∀ (s : Shared) (u : Value), BindsTo s fd ⟨[u], []⟩ [(x, u)])
    (hsp : ∀ H : Hp, Only H → SqL K H a (ns.map V.int) → sp [.ref a] H (fun v _ => v = .bl true) fun _ _ _ => False)
    (hCX : ∀ H e s', CX [] H s₁ (fun _ _ _ => False) e s' → False) :
    codeAny (model P w) callerA (.call (.ref fa) ⟨[.ref a], []⟩) (fun r s' => r = .ok (.ret (.bool true)) ∧ OldK s₁.heap s'.heap ∧ s'.os = s₁.os ∧ AllBare s'.gens) s₁ := by
  have rv := vals_ints hi
  have lenV := hi.length
  have core : ∀ H : Hp, Only H → SqL K H a (ns.map V.int) → HOk P w H s₁.heap → (∀ b, H b ≠ none → b = a) → (H a ≠ none → K.lookup a = none) →
      codeAny (model P w) callerA (.call (.ref fa) ⟨[.ref a], []⟩) (fun r s' => r = .ok (.ret (.bool true)) ∧ OldK s₁.heap s'.heap ∧ s'.os = s₁.os ∧ AllBare s'.gens) s₁ := by
    intro H hO hS hok hA hK
    have base_of : ∀ {b : Addr} {o : Obj}, s₁.heap.get? b = some o → H b = none → (hidT s₁.heap H).get? b = some o := fun e n => hidT_get e n
    have noA : ∀ {b : Addr} {o : Obj} {es : Array DictEntry} {ep : Nat}, s₁.heap.get? b = some o → o.data = .dict es ep → H b = none := fun {b o es ep} e d => by
      cases q : H b with
      | none => rfl
      | some u =>
        have e' : b = a := hA b (by rw [q]; simp)
        subst e'
        rw [ha] at e; cases e
        have d' : Data.seq vs.toArray _ = Data.dict es ep := d
        cases d'
    have nsK : ∀ {b : Addr} {m : Str → Option Value}, s₁.heap.Ns b m → (hidT s₁.heap H).Ns b m := fun {b m} ⟨o, es, ep, e, d, r⟩ => ⟨o, es, ep, base_of e (noA e d), d, r⟩
    have hKb : K.In (hidT s₁.heap H) := fun b o e => base_of (KX b o e) (by
      cases q : H b with
      | none => rfl
      | some u =>
        have e' : b = a := hA b (by rw [q]; simp)
        subst e'
        rw [hK (by rw [q]; simp)] at e; cases e)
    have hM : Mod K mg (hidT s₁.heap H) := ⟨hKb, nsK hns, ⟨mb, nsK hb, hbb⟩, let ⟨mc, h1, h2⟩ := hlim; ⟨mc, nsK h1, h2⟩⟩
    have e0 : Env0 P w K mg (hidT s₁.heap H) callerA [] s₁ H := ⟨rfl, hM, fun b o e => of_hidT e, Nat.le_of_eq (hidT_size _ _), trivial, fun b hb => absurd (show b ∈ ([] : List Addr) from hb) (by simp), hok, .of_eq hg⟩
    refine codeAny_mono ((F _ hKb (nsK hns)).run callerA [] s₁ H ⟨[.ref a], []⟩ [.ref a] [.ref a] _ _ hr e0 (hbind s₁ (.ref a)) (.cons rfl .nil) (hsp H hO hS)) fun r s' h => ?_
    cases r with
    | error e => exact (hCX H e s' h).elim
    | ok fl =>
      cases fl with
      | next => exact False.elim h
      | brk => exact False.elim h
      | cont => exact False.elim h
      | ret u =>
        obtain ⟨v, H', os, bare, un, hok', r', q⟩ := h
        have q' : v = .bl true := q
        subst q'
        obtain rfl : u = Value.bool true := r'
        refine ⟨rfl, OldK.of_keep fun b o e => ?_, os, bare⟩
        cases q : H b with
        | none => exact un.keep b o e q (by intro z; exact absurd (show b ∈ ([] : List Addr) from z) (by simp)) (by simp)
        | some u =>
          rcases hO b with z | ⟨ob, xs, z⟩
          · rw [q] at z; cases z
          · have z2 := un.frzs b ob _ z
            obtain ⟨e1, _⟩ := hok b _ z
            obtain ⟨e2, _⟩ := hok' b _ z2
            rw [e] at e1; cases e1
            exact e2
  cases hk : K.lookup a with
  | some o =>
    have e := KX a o hk
    rw [ha] at e
    cases e
    refine core (fun _ => none) (fun _ => .inl rfl) (.inr ⟨_, vs.toArray, _, hk, rfl, rfl, rfl, by rw [List.size_toArray, lenV]; exact hl, by simpa using rv⟩) (fun b u z => by have z' : (none : Option HO) = some u := z; cases z') (fun b z => absurd rfl z) fun z => absurd rfl z
  | none =>
    refine core (fun b => if b = a then some (.frz { cls := .type "list", data := .seq vs.toArray } (.lst (ns.map V.int))) else none) (fun b => ?_) (.inl (.inr ⟨{ cls := .type "list", data := .seq vs.toArray }, if_pos rfl⟩)) (fun b u z => ?_) (fun b z => ?_) fun _ => hk
    · by_cases hb : b = a
      · exact .inr ⟨_, _, if_pos hb⟩
      · exact .inl (if_neg hb)
    · by_cases hb : b = a
      · have z' := (if_pos hb).symm.trans z
        cases z'
        subst hb
        exact ⟨ha, by rw [List.length_map]; exact hl, vs, _, rv, ha⟩
      · have z' := (if_neg hb).symm.trans z
        cases z'
    · by_cases hb : b = a
      · exact hb
      · exact absurd (if_neg hb) z
end L2
namespace L2
open PySem PySem.Spec PyProof.Rows
theorem walk_of {l : PySem.W.OpenLaw} {n k : Nat} {q : Program} {loose : List Str} {XP : (Str → Option Value) → Heap → Prop} {YP : World → Heap → Prop} {d : DefRec} {K : Params → PySem.W.Frag} {CX : World → CXT} {sp : World → Sp} {x : Str}
    (hn : l.most = some n) (hn2 : n ≤ sizeLine) (hdf : d.params.defaults = []) (hr : Room k callerA)
    (hY : ∀ (w : World) (h : Heap), YP w h → (K w.params).In h)
    (F : ∀ (w : World) (mg : Str → Option Value) (fa : Addr) (h : Heap), (K w.params).In h → h.Ns mainGlobals mg → mg d.name = some (.ref fa) →
      ∃ fd : FuncData, (∀ (s : Shared) (u : Value), BindsTo s fd ⟨[u], []⟩ [(x, u)]) ∧
        ∀ base : Heap, (K w.params).In base → base.Ns mainGlobals mg → FnOk l.prog w (K w.params) mg base (CX w) k fa fd [x] (sp w))
    (hsp : ∀ (w : World) (H : Hp) (a : Addr) (ns : List Int), ns.length ≤ n → Only H → SqL (K w.params) H a (ns.map V.int) → sp w [.ref a] H (fun v _ => v = .bl true) fun _ _ _ => False)
    (hCX : ∀ (w : World) (H : Hp) (s : Shared) (e : Value) (s' : Shared), CX w [] H s (fun _ _ _ => False) e s' → False) :
    PySem.W.WalkO q loose XP YP l.row.toRowW d [] (fun f vs => PySem.call f vs) := by
  refine Att.attach_call hn hdf fun w s₀ s₁ mg mb fa o pm cd doc a vs ns G Y ho hd hcd hmg hobj hints hlen hg => ?_
  have KX := hY w _ Y
  obtain ⟨fd, hb, hF⟩ := F w mg fa _ KX G.T.g hmg
  exact law_call KX G.T.g G.T.b G.T.builtins G.T.nolimit hg hobj hints (Nat.le_trans hlen hn2) hr hF hb (fun H hO hS => hsp w H a ns hlen hO hS) fun H e s' => hCX w H s₁ e s'
end L2
namespace L2
open PySem PySem.Spec PyProof.Rows
def defArgs (s : Stmt) : Arguments := match s with
  | .FunctionDef _ a _ _ _ _ _ _ _ _ => a
  | _ => { posonlyargs := [], args := [], vararg := none, kwonlyargs := [], kw_defaults := [], kwarg := none, defaults := [] }
def defBody (s : Stmt) : List Stmt := match s with
  | .FunctionDef _ _ b _ _ _ _ _ _ _ => b
  | _ => []
def defScope (s : Stmt) : Scope := match s with
  | .FunctionDef _ _ _ _ _ _ sc _ _ _ => sc
  | _ => { kind := .function, names := [], isGenerator := false, isCoroutine := false }
abbrev CX0 : CXT := fun _ _ _ _ _ _ => False
abbrev E0 : XK := fun _ _ _ => False
theorem pass0 {X : Cx} : Passes CX0 X E0 := fun _ _ _ _ _ _ _ h => h.elim
structure Fun (K : PySem.W.Frag) (x qual : Str) (st : Stmt) (f : Addr) (fd : FuncData) : Prop where
  ex : ∃ (oc : Value) (od : Option Addr) (kV doc pm : Value) (an : Option Addr) (cdv ct : Value) (osl : Array (Option Value)),
    fd = PySem.W.fnOf x qual (defArgs st) (defBody st) (defScope st) .none kV doc pm an cdv ct ∧ K.lookup f = some ⟨oc, od, .func fd, osl⟩ ∧ PySem.W.codeIn K cdv qual = true
  kp : PySem.W.keepIn K (.ref f) = true
section
variable {P : Program} {w : World} {K : PySem.W.Frag} {mg : Str → Option Value} {base : Heap}
theorem Fun.ok {x qual : Str} {st : Stmt} {f : Addr} {fd : FuncData} {N ps : List Str} {k : Nat} {sp : Sp} (F : Fun K x qual st f fd) (S : FnScope N ps (defScope st)) (len : ∀ vs H Q E, sp vs H Q E → vs.length = ps.length)
    (hbody : ∀ (cdv : Value) (A : Around) (outer : List Env) (s : Shared) (H : Hp) (vs : List V) (Q : VK) (E : XK), Room k (A.deeper (envOfC qual (defScope st) s.heap.objs.size f cdv)) → sp vs H Q E →
      ∃ t, PSs (cxOf CX0 P w K mg base N qual (defScope st) f cdv A outer s H E).nox (defBody st) t ∧ t { nx := fun _ H' => Q .non H', rt := Q } (start N vs) H) : FnOk P w K mg base CX0 (k + 1) f fd ps sp := by
  obtain ⟨oc, od, kV, doc, pm, an, cdv, ct, osl, rfl, lk, hcd⟩ := F.ex
  refine fn_of lk hcd S len fun A outer s H vs Q E hr hsp => ?_
  obtain ⟨t, h, q⟩ := hbody cdv A outer s H vs Q E hr hsp
  exact ⟨t, h.nox, q⟩
theorem Fun.binds {x qual : Str} {st : Stmt} {f : Addr} {fd : FuncData} {ps : List Str} (F : Fun K x qual st f fd)
    (h : ∀ (kV doc pm : Value) (an : Option Addr) (cdv ct : Value) (us : List Value), us.length = ps.length → bindArgs (PySem.W.fnOf x qual (defArgs st) (defBody st) (defScope st) .none kV doc pm an cdv ct) ⟨us, []⟩ = pure (ps.zip us)) : Binds K fd ps [] := by
  obtain ⟨oc, od, kV, doc, pm, an, cdv, ct, osl, rfl, lk, hcd⟩ := F.ex
  exact .all (h kV doc pm an cdv ct)
theorem fun_mk {x qual : Str} {st : Stmt} {f : Addr} {oc : Value} {od an : Option Addr} {osl : Array (Option Value)} {kV doc pm cdv ct : Value} (l : K.lookup f = some ⟨oc, od, .func (PySem.W.fnOf x qual (defArgs st) (defBody st) (defScope st) .none kV doc pm an cdv ct), osl⟩)
    (c : PySem.W.codeIn K cdv qual = true) (k : PySem.W.keepIn K (.ref f) = true) : Fun K x qual st f (PySem.W.fnOf x qual (defArgs st) (defBody st) (defScope st) .none kV doc pm an cdv ct) := ⟨⟨oc, od, kV, doc, pm, an, cdv, ct, osl, rfl, l, c⟩, k⟩
end
section
variable {X : Cx}
end
theorem iteF {A B : Prop} (h : B) : if false = true then A else B := by
  rw [if_neg Bool.false_ne_true]
  exact h
theorem iteT {A B : Prop} (h : A) : if true = true then A else B := by
  rw [if_pos rfl]
  exact h
def Same (H H' : Hp) : Prop := ∀ b o, H b = some o → H' b = some o
theorem Same.refl (H : Hp) : Same H H := fun _ _ h => h
theorem Same.trans {H H1 H2 : Hp} (a : Same H H1) (b : Same H1 H2) : Same H H2 := fun c o h => b c o (a c o h)
theorem Same.free {H H' : Hp} (e : Same H H') {l : Addr} (h : H' l = Option.none) : H l = Option.none := by
  cases q : H l with
  | none => rfl
  | some o =>
    rw [e l o q] at h
    cases h
theorem Same.seq {K : PySem.W.Frag} {H H' : Hp} {a : Addr} {xs : List V} (e : Same H H') (h : SqL K H a xs) : SqL K H' a xs := by
  rcases h with (h | ⟨o, h⟩) | h
  · exact .inl (.inl (e _ _ h))
  · exact .inl (.inr ⟨o, e _ _ h⟩)
  · exact .inr h
end L2
set_option Elab.async false
set_option linter.all false
set_option maxRecDepth 100000
set_option maxHeartbeats 4000000
namespace L2
open PySem PySem.Spec PyProof.Rows
section
variable {κ : Type} [DecidableEq κ]
def valV (kvs : List (κ × V)) (k : κ) : Option V := (kvs.find? fun kv => decide (kv.1 = k)).map (·.2)
def putK (kvs : List (κ × V)) (k : κ) (v : V) : List (κ × V) :=
  if (kvs.any fun kv => decide (kv.1 = k)) = true then kvs.map (fun kv => if kv.1 = k then (kv.1, v) else kv) else kvs ++ [(k, v)]
def dropK (kvs : List (κ × V)) (k : κ) : List (κ × V) := kvs.filter fun kv => decide (kv.1 ≠ k)
theorem valV_pos {p : κ × V} {r : List (κ × V)} {k : κ} (e : p.1 = k) : valV (p :: r) k = some p.2 := by simp [valV, List.find?_cons, e]
theorem valV_neg {p : κ × V} {r : List (κ × V)} {k : κ} (e : ¬ p.1 = k) : valV (p :: r) k = valV r k := by simp [valV, List.find?_cons, e]
theorem valV_any (k : κ) : ∀ kvs : List (κ × V), (kvs.any fun kv => decide (kv.1 = k)) = (valV kvs k).isSome
  | [] => rfl
  | p :: r => by
    rw [List.any_cons]
    by_cases e : p.1 = k
    · simp only [valV_pos e, decide_eq_true e, Bool.true_or, Option.isSome_some]
    · rw [valV_neg e, decide_eq_false e, Bool.false_or]; exact valV_any k r
theorem length_putK (kvs : List (κ × V)) (k : κ) (v : V) : (putK kvs k v).length ≤ kvs.length + 1 := by
  unfold putK
  split
  · rw [List.length_map]; omega
  · rw [List.length_append, List.length_cons, List.length_nil]; omega
theorem RelO.isSome_eq {o : Option V} {u : Option Value} (r : RelO o u) : o.isSome = u.isSome := by
  cases o with
  | none => cases u with
    | none => rfl
    | some _ => exact (show False from r).elim
  | some _ => cases u with
    | none => exact (show False from r).elim
    | some _ => rfl
theorem RelO.getD {o : Option V} {u : Option Value} {d : V} {d' : Value} (r : RelO o u) (rd : RelV d d') : RelV (o.getD d) (u.getD d') := by
  cases o with
  | none => cases u with
    | none => exact rd
    | some _ => exact (show False from r).elim
  | some _ => cases u with
    | none => exact (show False from r).elim
    | some _ => exact r
theorem KV.val {kvs : List (κ × V)} {vs : List (κ × Value)} (r : KV kvs vs) (k : κ) : RelO (valV kvs k) (valueAt vs k) := by
  unfold KV at r
  induction r with
  | nil => exact True.intro
  | @cons p q ps qs h t ih =>
    obtain ⟨h1, h2⟩ := h
    by_cases e : p.1 = k
    · have e' : q.1 = k := h1.symm.trans e
      have b : valueAt (q :: qs) k = some q.2 := by simp [valueAt, List.find?_cons, e']
      rw [valV_pos e, b]; exact h2
    · have e' : ¬ q.1 = k := fun z => e (h1.trans z)
      have b : valueAt (q :: qs) k = valueAt qs k := by simp [valueAt, List.find?_cons, e']
      rw [valV_neg e, b]; exact ih
theorem KV.any {kvs : List (κ × V)} {vs : List (κ × Value)} (r : KV kvs vs) (k : κ) : (kvs.any fun kv => decide (kv.1 = k)) = vs.any fun kv => decide (kv.1 = k) := by
  unfold KV at r
  induction r with
  | nil => rfl
  | cons h t ih => rw [List.any_cons, List.any_cons, ih, h.1]
theorem KV.repl {kvs : List (κ × V)} {vs : List (κ × Value)} (r : KV kvs vs) (k : κ) {y : V} {u : Value} (ry : RelV y u) :
    KV (kvs.map fun kv => if kv.1 = k then (kv.1, y) else kv) (vs.map fun kv => if kv.1 = k then (kv.1, u) else kv) := by
  unfold KV at r ⊢
  induction r with
  | nil => exact .nil
  | @cons p q ps qs h t ih =>
    rw [List.map_cons, List.map_cons]
    refine .cons ?_ ih
    obtain ⟨h1, h2⟩ := h
    by_cases e : p.1 = k
    · rw [if_pos e, if_pos (h1.symm.trans e)]; exact ⟨h1, ry⟩
    · rw [if_neg e, if_neg (fun z => e (h1.trans z))]; exact ⟨h1, h2⟩
theorem KV.put {kvs : List (κ × V)} {vs : List (κ × Value)} (r : KV kvs vs) (k : κ) {y : V} {u : Value} (ry : RelV y u) : KV (putK kvs k y) (stored vs k u) := by
  unfold putK stored
  rw [r.any k]
  by_cases e : (vs.any fun kv => decide (kv.1 = k)) = true
  · rw [if_pos e, if_pos e]; exact r.repl k ry
  · rw [if_neg e, if_neg e]; exact Paired.snoc r ⟨rfl, ry⟩
theorem KV.drop {kvs : List (κ × V)} {vs : List (κ × Value)} (r : KV kvs vs) (k : κ) : KV (dropK kvs k) (without vs k) := by
  unfold KV at r ⊢
  unfold dropK without
  induction r with
  | nil => exact .nil
  | @cons p q ps qs h t ih =>
    obtain ⟨h1, h2⟩ := h
    rw [List.filter_cons, List.filter_cons]
    by_cases e : p.1 = k
    · have a : ¬ decide (p.1 ≠ k) = true := by simp [e]
      have b : ¬ decide (q.1 ≠ k) = true := by simp [h1.symm.trans e]
      rw [if_neg a, if_neg b]; exact ih
    · have e' : ¬ q.1 = k := fun z => e (h1.trans z)
      have a : decide (p.1 ≠ k) = true := by simp [e]
      have b : decide (q.1 ≠ k) = true := by simp [e']
      rw [if_pos a, if_pos b]; exact .cons ⟨h1, h2⟩ ih
theorem KV.keys {kvs : List (κ × V)} {vs : List (κ × Value)} (r : KV kvs vs) : kvs.map (·.1) = vs.map (·.1) := by
  unfold KV at r
  induction r with
  | nil => rfl
  | cons h t ih => rw [List.map_cons, List.map_cons, ih, h.1]
theorem KV.length {kvs : List (κ × V)} {vs : List (κ × Value)} (r : KV kvs vs) : kvs.length = vs.length := Paired.length r
end
theorem kV_is {P : Program} {w : World} {k : Key} {u : Value} (r : RelV (kV k) u) : (mixKind P w).is k u = true := by
  cases k with
  | inl i => obtain ⟨t, e⟩ := (show ∃ t, u = Value.int i t from r); subst e; exact mixKind_int P w i t
  | inr x => obtain ⟨t, e⟩ := (show ∃ t, u = Value.str x t from r); subst e; exact mixKind_str P w x t
theorem items_are {P : Program} {w : World} : ∀ {ks : List Key} {us : List Value}, Vals (ks.map kV) us → ItemsAre (mixKind P w) ks us
  | [], _, r => by rw [List.map_nil] at r; cases r; exact .nil
  | k :: ks, _, r => by
    rw [List.map_cons] at r
    cases r with
    | cons h t => exact .cons (kV_is h) (items_are t)
abbrev KT (H : Hp) : List (List Key × V) → List (List Key × Addr × Value) → Prop := Paired fun p q => p.1 = q.1 ∧ H q.2.1 = some (.tup (p.1.map kV)) ∧ RelV p.2 q.2.2
theorem KT.val {H : Hp} {kvs : List (List Key × V)} {xs : List (List Key × Addr × Value)} (r : KT H kvs xs) (k : List Key) : RelO (valV kvs k) ((atKey xs k).map (·.2)) := by
  induction r with
  | nil => exact True.intro
  | @cons p q ps qs h t ih =>
    obtain ⟨h1, _, h2⟩ := h
    by_cases e : p.1 = k
    · have e' : q.1 = k := h1.symm.trans e
      have b : atKey (q :: qs) k = some q.2 := by simp [atKey, List.find?_cons, e']
      rw [valV_pos e, b]; exact h2
    · have e' : ¬ q.1 = k := fun z => e (h1.trans z)
      have b : atKey (q :: qs) k = atKey qs k := by simp [atKey, List.find?_cons, e']
      rw [valV_neg e, b]; exact ih
theorem KT.repl {H : Hp} {kvs : List (List Key × V)} {xs : List (List Key × Addr × Value)} (r : KT H kvs xs) (k : List Key) {y : V} {u : Value} (ry : RelV y u) :
    KT H (kvs.map fun kv => if kv.1 = k then (kv.1, y) else kv) (xs.map (putAt k u)) := by
  induction r with
  | nil => exact .nil
  | @cons p q ps qs h t ih =>
    rw [List.map_cons, List.map_cons]
    refine .cons ?_ ih
    obtain ⟨h1, h2, h3⟩ := h
    unfold putAt
    by_cases e : p.1 = k
    · rw [if_pos e, if_pos (h1.symm.trans e)]; exact ⟨h1, h2, ry⟩
    · rw [if_neg e, if_neg (fun z => e (h1.trans z))]; exact ⟨h1, h2, h3⟩
theorem KT.put {H : Hp} {kvs : List (List Key × V)} {xs : List (List Key × Addr × Value)} (r : KT H kvs xs) (k : List Key) {b : Addr} {y : V} {u : Value} (hb : H b = some (.tup (k.map kV))) (ry : RelV y u) :
    KT H (putK kvs k y) (storedH xs k b u) := by
  have e : (kvs.any fun kv => decide (kv.1 = k)) = (atKey xs k).isSome := by
    rw [valV_any, (r.val k).isSome_eq, Option.isSome_map]
  unfold putK storedH
  rw [e]
  by_cases q : (atKey xs k).isSome = true
  · rw [if_pos q, if_pos q]; exact r.repl k ry
  · rw [if_neg q, if_neg q]; exact Paired.snoc r ⟨rfl, hb, ry⟩
theorem KT.keeps {H H' : Hp} {kvs : List (List Key × V)} {xs : List (List Key × Addr × Value)} (r : KT H kvs xs) (ht : ∀ b ys, H b = some (.tup ys) → H' b = some (.tup ys)) : KT H' kvs xs :=
  Paired.mapP r fun _ _ z => ⟨z.1, ht _ _ z.2.1, z.2.2⟩
section
variable {P : Program} {w : World} {H : Hp} {h : Heap} {a : Addr}
theorem rd_of {u : HO} (ok : HOk P w H h) (e : Rd H a u) : ObjOk P w H h a u := e.ok ok
theorem dk_rd {kvs : List (Key × V)} (ok : HOk P w H h) (e : Rd H a (.dK kvs)) : kvs.length ≤ sizeLine ∧ (a == sysModules) = false ∧ ∃ vs, KV kvs vs ∧ h.DictOf (mixKind P w) a vs :=
  show ObjOk P w H h a (.dK kvs) from rd_of ok e
theorem dk_of {kvs : List (Key × V)} (ok : HOk P w H h) (e : H a = some (.dK kvs)) : kvs.length ≤ sizeLine ∧ (a == sysModules) = false ∧ ∃ vs, KV kvs vs ∧ h.DictOf (mixKind P w) a vs := dk_rd ok (.inl e)
theorem key_of {ks : List Key} (ok : HOk P w H h) (e : H a = some (.tup (ks.map kV))) : (tupleKind (mixKind P w)).is h ks a := by
  obtain ⟨_, its, r, o, h1, h2, n, h3⟩ := (show ObjOk P w H h a (.tup (ks.map kV)) from ok a _ e)
  exact ⟨o, its.toArray, n, h1, h2, h3, by simpa using items_are r⟩
theorem dt_rd {kvs : List (List Key × V)} (ok : HOk P w H h) (e : Rd H a (.dT kvs)) : kvs.length ≤ sizeLine ∧ (a == sysModules) = false ∧
    ∃ xs, KT H kvs xs ∧ h.DictOfH (tupleKind (mixKind P w)) a xs := by
  obtain ⟨z, y, xs, r, o, es, ep, h1, h2, h3, h4, h5⟩ := (show ObjOk P w H h a (.dT kvs) from rd_of ok e)
  refine ⟨z, y, xs, r, o, es, ep, h1, h2, h3, h4, fun x hx => ?_, h5⟩
  have all : ∀ {l : List (List Key × V)} {m : List (List Key × Addr × Value)}, KT H l m → ∀ x ∈ m, (tupleKind (mixKind P w)).is h x.1 x.2.1 := by
    intro l m q
    induction q with
    | nil => intro x hx; exact nomatch hx
    | @cons p q ps qs hq t ih =>
      intro x hx
      rcases List.mem_cons.mp hx with e | hx
      · subst e
        exact key_of ok (by rw [← hq.1]; exact hq.2.1)
      · exact ih x hx
  exact all r x hx
theorem dt_of {kvs : List (List Key × V)} (ok : HOk P w H h) (e : H a = some (.dT kvs)) : kvs.length ≤ sizeLine ∧ (a == sysModules) = false ∧
    ∃ xs, KT H kvs xs ∧ h.DictOfH (tupleKind (mixKind P w)) a xs := dt_rd ok (.inl e)
end
def DGet (H : Hp) (a : Addr) (y : V) (r : Option V) : Prop :=
  (∃ kvs k, Rd H a (.dK kvs) ∧ y = kV k ∧ r = valV kvs k) ∨ ∃ kvs k b, Rd H a (.dT kvs) ∧ y = .ref b ∧ H b = some (.tup (k.map kV)) ∧ r = valV kvs k
def DPut (H : Hp) (a : Addr) (y v : V) (H' : Hp) : Prop :=
  (∃ kvs k, H a = some (.dK kvs) ∧ y = kV k ∧ kvs.length < sizeLine ∧ H' = upd H a (.dK (putK kvs k v))) ∨
  ∃ kvs k b, H a = some (.dT kvs) ∧ y = .ref b ∧ H b = some (.tup (k.map kV)) ∧ kvs.length < sizeLine ∧ H' = upd H a (.dT (putK kvs k v))
theorem DGet.k {H : Hp} {a : Addr} {kvs : List (Key × V)} {k : Key} (e : H a = some (.dK kvs)) : DGet H a (kV k) (valV kvs k) := .inl ⟨kvs, k, .inl e, rfl, rfl⟩
theorem DGet.t {H : Hp} {a b : Addr} {kvs : List (List Key × V)} {k : List Key} (e : H a = some (.dT kvs)) (eb : H b = some (.tup (k.map kV))) : DGet H a (.ref b) (valV kvs k) := .inr ⟨kvs, k, b, .inl e, rfl, eb, rfl⟩
theorem DPut.k {H : Hp} {a : Addr} {kvs : List (Key × V)} {k : Key} {v : V} (e : H a = some (.dK kvs)) (hl : kvs.length < sizeLine) : DPut H a (kV k) v (upd H a (.dK (putK kvs k v))) := .inl ⟨kvs, k, e, rfl, hl, rfl⟩
theorem DPut.t {H : Hp} {a b : Addr} {kvs : List (List Key × V)} {k : List Key} {v : V} (e : H a = some (.dT kvs)) (eb : H b = some (.tup (k.map kV))) (hl : kvs.length < sizeLine) :
    DPut H a (.ref b) v (upd H a (.dT (putK kvs k v))) := .inr ⟨kvs, k, b, e, rfl, eb, hl, rfl⟩
section
variable {X : Cx} {pins : List (Addr × Obj)} {σ : St} {H : Hp} {s : Shared} {a : Addr} {y v : V} {u r : Value} {o : Option V} {A : Around} {E : Value → Shared → Prop}
theorem Inv.big (I : Inv X pins σ H s) : sysModules < s.heap.objs.size := by
  have h : mainGlobals < s.heap.objs.size := (I.mod.glob.keeps I.bk).lt
  exact Nat.lt_trans (by decide) h
theorem d_in {Q : Value → Shared → Prop} (hu : A.units + 1 < cLine) (I : Inv X pins σ H s) (g : DGet H a y o) (ry : RelV y u) (h : ∀ s', Inv X pins σ H s' → Q (.bool o.isSome) s') :
    wpAny (model X.prog X.w) A (compareOp .In u (.ref a)) Q E s := by
  rcases g with ⟨kvs, k, e, ey, l⟩ | ⟨kvs, k, b, e, ey, eb, l⟩
  · subst ey
    obtain ⟨z, hd, vs, rel, dd⟩ := dk_rd I.hok e
    refine wpAny_in_of (kV_is ry) hd dd.mapOf ?_
    rw [← (rel.val k).isSome_eq, ← l]
    exact h _ (I.tok _)
  · subst ey
    cases (show u = Value.ref b from ry)
    obtain ⟨z, hd, xs, rel, dd⟩ := dt_rd I.hok e
    refine wpAny_in_heap (tupleKind_room_in1 hu) (key_of I.hok eb) hd dd ?_
    have q := (rel.val k).isSome_eq
    rw [Option.isSome_map] at q
    rw [← q, ← l]
    exact h _ (I.tok _)
theorem d_write {h' : Heap} {t' : Nat} {ob : HO} (I : Inv X pins σ H s) (mu : Mut (H a)) (hs : Heap.SameBut a s.heap h') (he : ∃ q, h'.get? a = some q) (new : ObjOk X.prog X.w (upd H a ob) h' a ob) :
    Inv X pins σ (upd H a ob) { s with heap := h', toks := t' } :=
  I.write (x := a) (e := a) mu (.inl rfl) (fun b q hb z => (hs.2 b hb).trans z) he new
theorem dk_new {P : Program} {w : World} {H' : Hp} {h' : Heap} {kvs : List (Key × V)} {vs : List (Key × Value)} (z : kvs.length ≤ sizeLine) (hd : (a == sysModules) = false) (rel : KV kvs vs) (dd : h'.DictOf (mixKind P w) a vs) :
    ObjOk P w H' h' a (.dK kvs) := ⟨z, hd, vs, rel, dd⟩
theorem d_setItem {H' : Hp} {Q : Unit → Shared → Prop} (hu : A.units + 1 < cLine) (I : Inv X pins σ H s) (g : DPut H a y v H') (ry : RelV y u) (rv : RelV v r) (h : ∀ s', Inv X pins σ H' s' → Q () s') :
    wpAny (model X.prog X.w) A (setItem (.ref a) u r) Q E s := by
  rcases g with ⟨kvs, k, e, ey, l, eH⟩ | ⟨kvs, k, b, e, ey, eb, l, eH⟩
  · subst ey eH
    obtain ⟨z, hd, vs, rel, dd⟩ := dk_of I.hok e
    have hz : vs.length ≤ sizeLine := by rw [← rel.length]; exact z
    have hl : (putK kvs k v).length ≤ sizeLine := by have := length_putK kvs k v; omega
    refine wpAny_setItem_pairs (hsz := hz) (kV_is ry) dd fun h' dd' hs => h _ ?_
    have he : ∃ q, h'.get? a = some q := let ⟨q, _, _, hq, _⟩ := dd'; ⟨q, hq⟩
    exact d_write I (by rw [e]; exact True.intro) hs he (dk_new hl hd (rel.put k rv) dd')
  · subst ey eH
    cases (show u = Value.ref b from ry)
    obtain ⟨z, hd, xs, rel, dd⟩ := dt_of I.hok e
    have hz : xs.length ≤ sizeLine := by rw [← Paired.length rel]; exact z
    have hl : (putK kvs k v).length ≤ sizeLine := by have := length_putK kvs k v; omega
    refine wpAny_setItem_heap (hsz := hz) (tupleKind_room_in1 hu) (key_of I.hok eb) dd fun h' dd' hs => h _ ?_
    obtain ⟨q, es, ep, hq, h2, h3, h4, _, h5⟩ := dd'
    refine d_write I (by rw [e]; exact True.intro) hs ⟨q, hq⟩ ⟨hl, hd, _, (rel.put k eb rv).keeps fun c ys ec => ?_, q, es, ep, hq, h2, h3, h4, h5⟩
    rw [upd_ne (ne_of ec e (fun z => nomatch z))]
    exact ec
end
section
variable {X : Cx} {pins : List (Addr × Obj)} {σ : St} {H : Hp} {s : Shared} {a : Addr} {kvs : List (Key × V)} {k : Key} {u : Value} {A : Around} {E : Value → Shared → Prop}
end
def sDPut (td ty tv : TE) : TS := fun D σ H => tv σ H fun v H1 => td σ H1 fun x H2 => ty σ H2 fun y H3 => ∃ a H4, x = .ref a ∧ DPut H3 a y v H4 ∧ D.nx σ H4
section
variable {X : Cx} {o i e value : Expr} {pos pos' tpos : Pos} {td ty tv : TE}
theorem ps_dput (hu : X.A.units + 1 < cLine) (ho : PE X o td) (hi : PE X i ty) (hv : PE X value tv) (hs : swapsWith value (some (.Subscript o i pos')) pos.line X.env = pure false) :
    PS X (.Assign [.Subscript o i pos'] value pos) (sDPut td ty tv) := by
  intro pins s σ H D I h
  refine wpAny_Assign_Subscript (thn (hv pins s σ H _ I h) fun r s1 ⟨v, H1, I1, rv, q1⟩ => thn (ho pins s1 σ H1 _ I1 q1) fun u s2 ⟨x, H2, I2, rx, q2⟩ => thn (hi pins s2 σ H2 _ I2 q2) fun iv s3 ⟨y, H3, I3, ry, a, H4, ex, g, q3⟩ => ?_) hs
  subst ex
  obtain rfl : u = Value.ref a := rx
  exact d_setItem hu I3 g ry rv fun s4 I4 => ⟨σ, H4, I4, q3⟩
end
theorem dk_empty {P : Program} {w : World} {H : Hp} (h : Heap) (hb : sysModules < h.objs.size) : ObjOk P w H (h.push { cls := .type "dict", data := .dict #[] }) h.objs.size (.dK []) :=
  ⟨Nat.zero_le _, beq_eq_false_iff_ne.mpr (Ne.symm (Nat.ne_of_lt hb)), [], .nil, Heap.DictOf.new h⟩
def tDNewK : TE := fun _ H Q => ∀ p, H p = none → Q (.ref p) (upd H p (.dK []))
section
variable {X : Cx} {pos : Pos}
theorem pe_dnewK : PE X (.Dict [] [] pos) tDNewK := fun pins s σ H Q I h =>
  wpAny_Dict_empty ⟨.ref s.heap.objs.size, _, I.laid (a := s.heap.objs.size) (o := .dK []) (t' := s.toks) (fun _ _ q => Heap.get?_push_of_some _ q) (Nat.le_refl _) (dk_empty s.heap I.big), rfl, h _ (I.hok.fresh (Nat.le_refl _))⟩
end
structure M1 (X : Cx) (o : Expr) (m : Str) (apos : Pos) (e : Expr) (cpos : Pos) : Prop where
  base : attributeBase o m X.env (eval o X.env) = eval o X.env
  few : ((backTo cpos (starEach [e] X.env)).all (fun x => !x.1) && (backToKw cpos (keywordEach [] X.env)).all (fun x => x.1.isSome)
    && decide (([e] : List Expr).length + ([] : List Keyword).length + (if ([] : List Keyword).isEmpty then 0 else 1) < 30)) = true
  line : (apos.endLine == cpos.line) = true
  trees : backTo cpos (starEach [e] X.env) = [(false, eval e X.env)]
structure M2 (X : Cx) (o : Expr) (m : Str) (apos : Pos) (e f : Expr) (cpos : Pos) : Prop where
  base : attributeBase o m X.env (eval o X.env) = eval o X.env
  few : ((backTo cpos (starEach [e, f] X.env)).all (fun x => !x.1) && (backToKw cpos (keywordEach [] X.env)).all (fun x => x.1.isSome)
    && decide (([e, f] : List Expr).length + ([] : List Keyword).length + (if ([] : List Keyword).isEmpty then 0 else 1) < 30)) = true
  line : (apos.endLine == cpos.line) = true
  trees : backTo cpos (starEach [e, f] X.env) = [(false, eval e X.env), (false, eval f X.env)]
section
variable {X : Cx} {pins : List (Addr × Obj)} {σ : St} {H : Hp} {s : Shared} {a : Addr} {y d : V} {u r : Value} {o : Option V} {A : Around} {E : Value → Shared → Prop}
end
section
variable {X : Cx} {o e f : Expr} {apos cpos : Pos} {td ty tx : TE}
end
section
variable {X : Cx} {pins : List (Addr × Obj)} {σ : St} {H : Hp} {s : Shared} {a : Addr} {kvs : List (Key × V)} {A : Around} {E : Value → Shared → Prop}
end
section
variable {X : Cx} {pins : List (Addr × Obj)} {σ : St} {H : Hp} {s : Shared} {a : Addr} {y : V} {u : Value} {A : Around} {E : Value → Shared → Prop}
end
end L2
set_option Elab.async false
set_option linter.all false
set_option maxRecDepth 100000
set_option maxHeartbeats 1000000
namespace MR
open PySem PySem.Spec PyProof.Rows L2
inductive U where
  | non | bl (b : Bool) | int (i : Int) | str (x : Str) | tup (l : List U) | ref (n : Nat)
inductive HU where
  | lst (xs : List U) | ro (xs : List U) | dic (kvs : List (Key × U)) | rod (kvs : List (Key × U)) | ins (C : Str) (fs : List (Str × U))
noncomputable abbrev UH := List HU
noncomputable abbrev UE := List (Option U)
section
variable (K : PySem.W.Frag) (H : Hp) (α : List Addr)
mutual
noncomputable def RepU : U → V → Prop
  | .non, v => v = .non
  | .bl b, v => v = .bl b
  | .int i, v => v = .int i
  | .str x, v => v = .str x
  | .tup l, v => ∃ a xs, v = .ref a ∧ SqT K H a xs ∧ RepL l xs
  | .ref n, v => ∃ a, α[n]? = some a ∧ v = .ref a
noncomputable def RepL : List U → List V → Prop
  | [], xs => xs = []
  | u :: l, xs => ∃ x r, xs = x :: r ∧ RepU u x ∧ RepL l r
end
end
noncomputable def Stay (H H' : Hp) : Prop := (∀ b xs, H b = some (.tup xs) → H' b = some (.tup xs)) ∧ ∀ b o u, H b = some (.frz o u) → H' b = some (.frz o u)
theorem Stay.refl (H : Hp) : Stay H H := ⟨fun _ _ q => q, fun _ _ _ q => q⟩
theorem Stay.trans {H H1 H2 : Hp} (a : Stay H H1) (b : Stay H1 H2) : Stay H H2 := ⟨fun c xs q => b.1 c xs (a.1 c xs q), fun c o u q => b.2 c o u (a.2 c o u q)⟩
theorem Stay.sqT {K : PySem.W.Frag} {H H' : Hp} {a : Addr} {xs : List V} (e : Stay H H') (h : SqT K H a xs) : SqT K H' a xs := by
  rcases h with (h | ⟨o, h⟩) | h
  · exact .inl (.inl (e.1 _ _ h))
  · exact .inl (.inr ⟨o, e.2 _ _ _ h⟩)
  · exact .inr h
theorem Stay.new {H : Hp} {p : Addr} (h : H p = none) (o : HO) : Stay H (upd H p o) := ⟨fun b u q => by rw [upd_ne (ne_of_none q h)]; exact q, fun b o u q => by rw [upd_ne (ne_of_none q h)]; exact q⟩
theorem Stay.write {H : Hp} {p : Addr} {o : HO} (h : H p = some o) (m : Mut (some o)) (o' : HO) : Stay H (upd H p o') :=
  ⟨fun b u q => by rw [upd_ne (ne_of q h (fun z => by subst z; exact m))]; exact q, fun b w u q => by rw [upd_ne (ne_of q h (fun z => by subst z; exact m))]; exact q⟩
structure Gr (H : Hp) (α : List Addr) (H' : Hp) (α' : List Addr) : Prop where
  pre : ∃ β, α' = α ++ β
  st : Stay H H'
theorem Gr.refl (H : Hp) (α : List Addr) : Gr H α H α := ⟨⟨[], by simp⟩, .refl H⟩
theorem Gr.trans {H H1 H2 : Hp} {α α1 α2 : List Addr} (a : Gr H α H1 α1) (b : Gr H1 α1 H2 α2) : Gr H α H2 α2 := by
  obtain ⟨⟨β, e⟩, s⟩ := a
  obtain ⟨⟨γ, e'⟩, s'⟩ := b
  exact ⟨⟨β ++ γ, by rw [e', e, List.append_assoc]⟩, s.trans s'⟩
theorem Gr.at {H H' : Hp} {α α' : List Addr} (g : Gr H α H' α') {n : Nat} {a : Addr} (h : α[n]? = some a) : α'[n]? = some a := by
  obtain ⟨β, e⟩ := g.pre
  have hn : n < α.length := (List.getElem?_eq_some_iff.mp h).1
  rw [e, List.getElem?_append_left hn]; exact h
section
variable {K : PySem.W.Frag} {H H' : Hp} {α α' : List Addr}
mutual
theorem RepU.mono (g : Gr H α H' α') : ∀ (u : U) (v : V), RepU K H α u v → RepU K H' α' u v
  | .non, _, h => h
  | .bl _, _, h => h
  | .int _, _, h => h
  | .str _, _, h => h
  | .tup l, v, h => by
    unfold RepU at h ⊢
    obtain ⟨a, xs, e, s, r⟩ := h
    exact ⟨a, xs, e, g.st.sqT s, RepL.mono g l xs r⟩
  | .ref n, v, h => by
    unfold RepU at h ⊢
    obtain ⟨a, e, q⟩ := h
    exact ⟨a, g.at e, q⟩
theorem RepL.mono (g : Gr H α H' α') : ∀ (l : List U) (xs : List V), RepL K H α l xs → RepL K H' α' l xs
  | [], xs, h => h
  | u :: l, xs, h => by
    unfold RepL at h ⊢
    obtain ⟨x, r, e, h1, h2⟩ := h
    exact ⟨x, r, e, RepU.mono g u x h1, RepL.mono g l r h2⟩
end
theorem RepL.length : ∀ {l : List U} {xs : List V}, RepL K H α l xs → l.length = xs.length
  | [], xs, h => by unfold RepL at h; subst h; rfl
  | u :: l, xs, h => by
    unfold RepL at h
    obtain ⟨x, r, e, _, h2⟩ := h
    subst e
    simp [RepL.length h2]
theorem RepL.get : ∀ {l : List U} {xs : List V} {i : Nat} {u : U}, RepL K H α l xs → l[i]? = some u → ∃ x, xs[i]? = some x ∧ RepU K H α u x
  | [], xs, i, u, h, e => by simp at e
  | w :: l, xs, i, u, h, e => by
    unfold RepL at h
    obtain ⟨x, r, e', h1, h2⟩ := h
    subst e'
    cases i with
    | zero => simp at e; subst e; exact ⟨x, rfl, h1⟩
    | succ i => simpa using RepL.get (i := i) h2 (by simpa using e)
theorem RepL.nil : RepL K H α [] [] := by unfold RepL; rfl
theorem RepL.cons {u : U} {l : List U} {x : V} {xs : List V} (h : RepU K H α u x) (t : RepL K H α l xs) : RepL K H α (u :: l) (x :: xs) := by
  unfold RepL; exact ⟨x, xs, rfl, h, t⟩
theorem RepL.append : ∀ {l l' : List U} {xs ys : List V}, RepL K H α l xs → RepL K H α l' ys → RepL K H α (l ++ l') (xs ++ ys)
  | [], l', xs, ys, h, t => by unfold RepL at h; subst h; exact t
  | u :: l, l', xs, ys, h, t => by
    unfold RepL at h
    obtain ⟨x, r, e, h1, h2⟩ := h
    subst e
    exact .cons h1 (RepL.append h2 t)
theorem RepL.take : ∀ {l : List U} {xs : List V} (n : Nat), RepL K H α l xs → RepL K H α (l.take n) (xs.take n)
  | [], xs, n, h => by unfold RepL at h; subst h; simp [RepL.nil]
  | u :: l, xs, 0, h => by simp [RepL.nil]
  | u :: l, xs, n + 1, h => by
    unfold RepL at h
    obtain ⟨x, r, e, h1, h2⟩ := h
    subst e
    exact .cons h1 (RepL.take n h2)
theorem RepL.drop : ∀ {l : List U} {xs : List V} (n : Nat), RepL K H α l xs → RepL K H α (l.drop n) (xs.drop n)
  | [], xs, n, h => by unfold RepL at h; subst h; simp [RepL.nil]
  | u :: l, xs, 0, h => h
  | u :: l, xs, n + 1, h => by
    unfold RepL at h
    obtain ⟨x, r, e, h1, h2⟩ := h
    subst e
    exact RepL.drop n h2
theorem RepL.set {u : U} {x : V} (q : RepU K H α u x) : ∀ {l : List U} {xs : List V} (n : Nat), RepL K H α l xs → RepL K H α (l.set n u) (xs.set n x)
  | [], xs, n, h => by unfold RepL at h; subst h; exact .nil
  | w :: l, xs, 0, h => by
    unfold RepL at h
    obtain ⟨y, r, e, h1, h2⟩ := h
    subst e
    exact .cons q h2
  | w :: l, xs, n + 1, h => by
    unfold RepL at h
    obtain ⟨y, r, e, h1, h2⟩ := h
    subst e
    exact .cons h1 (RepL.set q n h2)
theorem RepL.erase : ∀ {l : List U} {xs : List V} (n : Nat), RepL K H α l xs → RepL K H α (l.eraseIdx n) (xs.eraseIdx n)
  | [], xs, n, h => by unfold RepL at h; subst h; exact .nil
  | w :: l, xs, 0, h => by
    unfold RepL at h
    obtain ⟨y, r, e, h1, h2⟩ := h
    subst e
    exact h2
  | w :: l, xs, n + 1, h => by
    unfold RepL at h
    obtain ⟨y, r, e, h1, h2⟩ := h
    subst e
    exact .cons h1 (RepL.erase n h2)
theorem RepL.reverse : ∀ {l : List U} {xs : List V}, RepL K H α l xs → RepL K H α l.reverse xs.reverse
  | [], xs, h => by unfold RepL at h; subst h; exact .nil
  | w :: l, xs, h => by
    unfold RepL at h
    obtain ⟨y, r, e, h1, h2⟩ := h
    subst e
    rw [List.reverse_cons, List.reverse_cons]
    exact (RepL.reverse h2).append (.cons h1 .nil)
theorem RepL.ints : ∀ (ns : List Int), RepL K H α (ns.map U.int) (ns.map V.int)
  | [] => .nil
  | n :: r => .cons rfl (RepL.ints r)
end
noncomputable def RO (K : PySem.W.Frag) (H : Hp) (a : Addr) (xs : List V) : Prop :=
  (∃ o, H a = some (.frz o (.lst xs))) ∨ ∃ (o : Obj) (its : Array Value) (n : Nat), K.lookup a = some o ∧ o.cls = .type "list" ∧ o.dict = none ∧ o.data = .seq its n ∧ its.size ≤ sizeLine ∧ Vals xs its.toList
theorem RO.sq {K : PySem.W.Frag} {H : Hp} {a : Addr} {xs : List V} (h : RO K H a xs) : SqL K H a xs := by
  rcases h with ⟨o, h⟩ | h
  · exact .inl (.inr ⟨o, h⟩)
  · exact .inr h
theorem RO.stay {K : PySem.W.Frag} {H H' : Hp} {a : Addr} {xs : List V} (st : Stay H H') (h : RO K H a xs) : RO K H' a xs := by
  rcases h with ⟨o, h⟩ | h
  · exact .inl ⟨o, st.2 _ _ _ h⟩
  · exact .inr h
noncomputable def HRep (K : PySem.W.Frag) (H : Hp) (α : List Addr) (a : Addr) : HU → Prop
  | .lst us => ∃ xs, H a = some (.lst xs) ∧ RepL K H α us xs
  | .ro us => ∃ xs, RO K H a xs ∧ RepL K H α us xs
  | .dic kvs => ∃ vs, H a = some (.dK vs) ∧ kvs.map (·.1) = vs.map (·.1) ∧ RepL K H α (kvs.map (·.2)) (vs.map (·.2))
  | .rod kvs => ∃ o vs, H a = some (.frz o (.dK vs)) ∧ kvs.map (·.1) = vs.map (·.1) ∧ RepL K H α (kvs.map (·.2)) (vs.map (·.2))
  | .ins C fs => ∃ Ca dx vs, PySem.W.nsIn K mainGlobals C = some (some (.ref Ca)) ∧ H a = some (.ins Ca dx vs) ∧ fs.map (·.1) = vs.map (·.1) ∧ RepL K H α (fs.map (·.2)) (vs.map (·.2))
noncomputable def HU.isRo : HU → Bool
  | .ro _ => true
  | _ => false
structure Abs (K : PySem.W.Frag) (H : Hp) (α : List Addr) (L : UH) : Prop where
  len : α.length = L.length
  inj : ∀ (i j : Nat) (a : Addr) (o o' : HU), α[i]? = some a → α[j]? = some a → L[i]? = some o → L[j]? = some o' → i = j ∨ o.isRo = true ∨ o'.isRo = true
  rep : ∀ (i : Nat) (a : Addr) (o : HU), α[i]? = some a → L[i]? = some o → HRep K H α a o
theorem Abs.addr {K : PySem.W.Frag} {H : Hp} {α : List Addr} {L : UH} (A : Abs K H α L) {n : Nat} {o : HU} (h : L[n]? = some o) : ∃ a, α[n]? = some a ∧ HRep K H α a o := by
  have hn : n < α.length := by rw [A.len]; exact (List.getElem?_eq_some_iff.mp h).1
  exact ⟨α[n], List.getElem?_eq_getElem hn, A.rep n _ o (List.getElem?_eq_getElem hn) h⟩
theorem HRep.other {K : PySem.W.Frag} {H H' : Hp} {α α' : List Addr} {a : Addr} {o : HU} (g : Gr H α H' α') (hs : o.isRo = true ∨ ∀ u, H a = some u → H' a = some u) (h : HRep K H α a o) : HRep K H' α' a o := by
  cases o with
  | lst us => obtain ⟨xs, e, r⟩ := h; exact ⟨xs, (hs.resolve_left (by simp [HU.isRo])) _ e, r.mono g⟩
  | ro us => obtain ⟨xs, e, r⟩ := h; exact ⟨xs, e.stay g.st, r.mono g⟩
  | dic kvs => obtain ⟨vs, e, k, r⟩ := h; exact ⟨vs, (hs.resolve_left (by simp [HU.isRo])) _ e, k, r.mono g⟩
  | rod kvs => obtain ⟨o, vs, e, k, r⟩ := h; exact ⟨o, vs, (hs.resolve_left (by simp [HU.isRo])) _ e, k, r.mono g⟩
  | ins C fs => obtain ⟨Ca, dx, vs, n, e, k, r⟩ := h; exact ⟨Ca, dx, vs, n, (hs.resolve_left (by simp [HU.isRo])) _ e, k, r.mono g⟩
theorem HRep.some {K : PySem.W.Frag} {H : Hp} {α : List Addr} {a : Addr} {o : HU} (h : HRep K H α a o) (n : o.isRo = false) : ∃ u, H a = some u := by
  cases o with
  | lst us => obtain ⟨xs, e, r⟩ := h; exact ⟨_, e⟩
  | ro us => simp [HU.isRo] at n
  | dic kvs => obtain ⟨vs, e, k, r⟩ := h; exact ⟨_, e⟩
  | rod kvs => obtain ⟨o, vs, e, k, r⟩ := h; exact ⟨_, e⟩
  | ins C fs => obtain ⟨Ca, dx, vs, n', e, k, r⟩ := h; exact ⟨_, e⟩
theorem Abs.new {K : PySem.W.Frag} {H : Hp} {α : List Addr} {L : UH} {p : Addr} {o : HO} {u : HU} (A : Abs K H α L) (hp : H p = none) (hr : HRep K (upd H p o) (α ++ [p]) p u) :
    Abs K (upd H p o) (α ++ [p]) (L ++ [u]) ∧ Gr H α (upd H p o) (α ++ [p]) := by
  have g : Gr H α (upd H p o) (α ++ [p]) := ⟨⟨[p], rfl⟩, .new hp o⟩
  have hl := A.len
  refine ⟨⟨by simp [hl], fun i j a o1 o2 e1 e2 e3 e4 => ?_, fun i a o1 e1 e2 => ?_⟩, g⟩
  · have fresh : ∀ (k : Nat) (o3 : HU), α[k]? = some p → L[k]? = some o3 → o3.isRo = true := fun k o3 q1 q2 => by
      cases hh : o3.isRo with
      | true => rfl
      | false =>
        obtain ⟨u3, q⟩ := (A.rep k p o3 q1 q2).some hh
        rw [hp] at q; cases q
    by_cases hi : i < α.length
    · rw [List.getElem?_append_left hi] at e1
      rw [List.getElem?_append_left (by omega)] at e3
      by_cases hj : j < α.length
      · rw [List.getElem?_append_left hj] at e2
        rw [List.getElem?_append_left (by omega)] at e4
        exact A.inj i j a o1 o2 e1 e2 e3 e4
      · rw [List.getElem?_append_right (by omega)] at e2
        have : a = p := by
          cases hk : j - α.length with
          | zero => rw [hk] at e2; simp at e2; exact e2.symm
          | succ k => rw [hk] at e2; simp at e2
        subst this
        exact .inr (.inl (fresh i o1 e1 e3))
    · rw [List.getElem?_append_right (by omega)] at e1
      have hia : a = p ∧ i = α.length := by
        cases hk : i - α.length with
        | zero => rw [hk] at e1; simp at e1; exact ⟨e1.symm, by omega⟩
        | succ k => rw [hk] at e1; simp at e1
      obtain ⟨rfl, hi'⟩ := hia
      by_cases hj : j < α.length
      · rw [List.getElem?_append_left hj] at e2
        rw [List.getElem?_append_left (by omega)] at e4
        exact .inr (.inr (fresh j o2 e2 e4))
      · rw [List.getElem?_append_right (by omega)] at e2
        have : j = α.length := by
          cases hk : j - α.length with
          | zero => omega
          | succ k => rw [hk] at e2; simp at e2
        exact .inl (by omega)
  · by_cases hi : i < α.length
    · rw [List.getElem?_append_left hi] at e1
      rw [List.getElem?_append_left (by omega)] at e2
      refine (A.rep i a o1 e1 e2).other g ?_
      exact .inr fun u3 q => by rw [upd_ne (ne_of_none q hp)]; exact q
    · rw [List.getElem?_append_right (by omega)] at e1
      rw [List.getElem?_append_right (by omega)] at e2
      have h1 : i - α.length = 0 := by
        cases hk : i - α.length with
        | zero => rfl
        | succ k => rw [hk] at e1; simp at e1
      rw [h1] at e1
      rw [show i - L.length = 0 by omega] at e2
      simp at e1 e2
      subst e1; subst e2
      exact hr
theorem Abs.put {K : PySem.W.Frag} {H : Hp} {α : List Addr} {L : UH} {p : Addr} {n : Nat} {o0 o : HO} {u0 u : HU} (A : Abs K H α L) (hn : α[n]? = some p) (hL : L[n]? = some u0) (hro : u0.isRo = false) (hro' : u.isRo = false) (hp : H p = some o0) (hm : Mut (some o0)) (hr : HRep K (upd H p o) α p u) :
    Abs K (upd H p o) α (L.set n u) ∧ Gr H α (upd H p o) α := by
  have g : Gr H α (upd H p o) α := ⟨⟨[], by simp⟩, .write hp hm o⟩
  have hl := A.len
  have hlt : n < L.length := (List.getElem?_eq_some_iff.mp hL).1
  have look : ∀ (i : Nat) (o1 : HU), (L.set n u)[i]? = some o1 → ∃ o2, L[i]? = some o2 ∧ o2.isRo = o1.isRo ∧ (i ≠ n → o2 = o1) := fun i o1 e => by
    by_cases hi : n = i
    · subst hi
      rw [List.getElem?_set_self hlt] at e
      cases e
      exact ⟨u0, hL, by rw [hro, hro'], fun z => absurd rfl z⟩
    · rw [List.getElem?_set_ne hi] at e
      exact ⟨o1, e, rfl, fun _ => rfl⟩
  refine ⟨⟨by simp [hl], fun i j a o1 o2 e1 e2 e3 e4 => ?_, fun i a o1 e1 e2 => ?_⟩, g⟩
  · obtain ⟨x1, q1, r1, _⟩ := look i o1 e3
    obtain ⟨x2, q2, r2, _⟩ := look j o2 e4
    rw [← r1, ← r2]
    exact A.inj i j a x1 x2 e1 e2 q1 q2
  · by_cases hi : n = i
    · subst hi
      rw [List.getElem?_set_self hlt] at e2
      cases e2
      rw [hn] at e1; cases e1
      exact hr
    · rw [List.getElem?_set_ne hi] at e2
      refine (A.rep i a o1 e1 e2).other g ?_
      by_cases hap : a = p
      · subst hap
        rcases A.inj i n a o1 u0 e1 hn e2 hL with z | z | z
        · exact absurd z.symm hi
        · exact .inl z
        · rw [hro] at z; cases z
      · exact .inr fun u3 q => by rw [upd_ne hap]; exact q
structure RepS (K : PySem.W.Frag) (H : Hp) (α : List Addr) (δ : UE) (σ : L2.St) : Prop where
  len : δ.length = σ.length
  at_ : ∀ (i : Nat) (u : U), δ[i]? = some (some u) → ∃ v, σ[i]? = some (some v) ∧ RepU K H α u v
theorem RepS.mono {K : PySem.W.Frag} {H H' : Hp} {α α' : List Addr} {δ : UE} {σ : L2.St} (g : Gr H α H' α') (h : RepS K H α δ σ) : RepS K H' α' δ σ :=
  ⟨h.len, fun i u e => let ⟨v, q, r⟩ := h.at_ i u e; ⟨v, q, r.mono g⟩⟩
theorem RepS.set {K : PySem.W.Frag} {H : Hp} {α : List Addr} {δ : UE} {σ : L2.St} (h : RepS K H α δ σ) (i : Nat) {u : U} {v : V} (r : RepU K H α u v) : RepS K H α (δ.set i (some u)) (σ.set i (some v)) :=
  ⟨by simp [h.len], fun j w e => by
    by_cases hj : i = j
    · subst hj
      by_cases hi : i < δ.length
      · rw [List.getElem?_set_self hi] at e
        cases e
        exact ⟨v, List.getElem?_set_self (by rw [← h.len]; exact hi), r⟩
      · rw [List.getElem?_eq_none (by simpa using hi)] at e; cases e
    · rw [List.getElem?_set_ne hj] at e
      obtain ⟨v', q, r'⟩ := h.at_ j w e
      exact ⟨v', by rw [List.getElem?_set_ne hj]; exact q, r'⟩⟩
theorem RepS.start {K : PySem.W.Frag} {H : Hp} {α : List Addr} (N : List Str) {us : List U} {vs : List V} (h : RepL K H α us vs) : RepS K H α (us.map some ++ List.replicate (N.length - us.length) none) (start N vs) := by
  have hl := h.length
  refine ⟨by simp [L2.start, hl], fun i u e => ?_⟩
  by_cases hi : i < us.length
  · rw [List.getElem?_append_left (by simpa using hi), List.getElem?_map] at e
    cases q : us[i]? with
    | none => rw [q] at e; simp at e
    | some w =>
      rw [q] at e
      simp at e
      subst e
      obtain ⟨x, e2, r⟩ := h.get q
      refine ⟨x, ?_, r⟩
      unfold L2.start
      rw [List.getElem?_append_left (by simp; omega), List.getElem?_map, e2]; rfl
  · rw [List.getElem?_append_right (by simpa using hi)] at e
    have := List.mem_of_getElem? e
    simp at this
noncomputable abbrev FE := UE → UH → Option (U × UH)
noncomputable abbrev FT := UE → UH → Option (Bool × UH)
noncomputable abbrev FA := UE → UH → Option (List U × UH)
noncomputable def lE (K : PySem.W.Frag) (f : FE) : TE := fun σ H Q => ∃ α δ L, Abs K H α L ∧ RepS K H α δ σ ∧ ∃ u L', f δ L = some (u, L') ∧ ∀ v H' α', Gr H α H' α' → Abs K H' α' L' → RepU K H' α' u v → Q v H'
noncomputable def lT (K : PySem.W.Frag) (f : FT) : TT := fun σ H Q => ∃ α δ L, Abs K H α L ∧ RepS K H α δ σ ∧ ∃ b L', f δ L = some (b, L') ∧ ∀ H' α', Gr H α H' α' → Abs K H' α' L' → Q b H'
noncomputable def lA (K : PySem.W.Frag) (f : FA) : TA := fun σ H Q => ∃ α δ L, Abs K H α L ∧ RepS K H α δ σ ∧ ∃ us L', f δ L = some (us, L') ∧ ∀ vs H' α', Gr H α H' α' → Abs K H' α' L' → RepL K H' α' us vs → Q vs H'
noncomputable def PEF (X : Cx) (e : Expr) (f : FE) : Prop := PE X e (lE X.K f)
noncomputable def PTF (X : Cx) (e : Expr) (f : FT) : Prop := PT X e (lT X.K f)
noncomputable def PWF (X : Cx) (e : Expr) (f : FT) : Prop := PW X e (lT X.K f)
noncomputable def PAF (X : Cx) (es : List Expr) (f : FA) : Prop := PA X es (lA X.K f)
section
variable {X : Cx} {e : Expr} {es : List Expr}
theorem PE.imp {t t' : TE} (h : PE X e t) (hi : ∀ σ H Q, t' σ H Q → t σ H Q) : PE X e t' := fun pins s σ H Q I q => h pins s σ H Q I (hi σ H Q q)
theorem PT.imp {t t' : TT} (h : PT X e t) (hi : ∀ σ H Q, t' σ H Q → t σ H Q) : PT X e t' := fun pins s σ H Q I q => h pins s σ H Q I (hi σ H Q q)
theorem PW.imp {t t' : TT} (h : PW X e t) (hi : ∀ σ H Q, t' σ H Q → t σ H Q) : PW X e t' := fun wh pins s σ H Q I q => h wh pins s σ H Q I (hi σ H Q q)
theorem PA.imp {t t' : TA} (h : PA X es t) (hi : ∀ σ H Q, t' σ H Q → t σ H Q) : PA X es t' := fun pos pins s σ H Q I q => h pos pins s σ H Q I (hi σ H Q q)
end
noncomputable def fVar (i : Nat) : FE := fun δ L => (δ[i]?).join.map fun u => (u, L)
noncomputable def fC (u : U) : FE := fun _ L => some (u, L)
section
variable {X : Cx} {a b c e : Expr} {pos : Pos}
theorem pf_v (i : Nat) {x : Str} {pos : Pos} (hN : X.N[i]? = some x := by rfl) (hv : Vis X.env.scope x := by first | exact Or.inl rfl | exact Or.inr (Or.inl rfl) | exact Or.inr (Or.inr rfl))
    (hd : (x == ("__debug__" : Str)) = false := by decide) (hcd : (x == ("__classdict__" : Str)) = false := by decide) : PEF X (.Name x pos) (fVar i) := by
  refine PE.imp (pe_var hN hv hd hcd) ?_
  rintro σ H Q ⟨α, δ, L, A, S, u, L', e, q⟩
  unfold fVar at e
  cases h : δ[i]? with
  | none => rw [h] at e; simp at e
  | some o =>
    cases o with
    | none => rw [h] at e; simp at e
    | some w =>
      rw [h] at e
      simp at e
      obtain ⟨rfl, rfl⟩ := e
      obtain ⟨v, hv, r⟩ := S.at_ i w h
      exact ⟨v, hv, q v H α (.refl _ _) A r⟩
theorem pf_c {v : V} {u : U} (h : PE X e (tC v)) (r : ∀ H α, RepU X.K H α u v) : PEF X e (fC u) := by
  refine PE.imp h ?_
  rintro σ H Q ⟨α, δ, L, A, S, w, L', e, q⟩
  unfold fC at e
  cases e
  exact q v H α (.refl _ _) A (r H α)
theorem pf_int {i : Int} {j pos} : PEF X (.Constant (.int i) j pos) (fC (.int i)) := pf_c pe_int fun _ _ => rfl
theorem pf_bl {b : Bool} {j pos} : PEF X (.Constant (.bool b) j pos) (fC (.bl b)) := pf_c pe_bl fun _ _ => rfl
theorem pf_non {j pos} : PEF X (.Constant .none j pos) (fC .non) := pf_c pe_non fun _ _ => rfl
theorem pf_str {x : Str} {j pos} : PEF X (.Constant (.str x) j pos) (fC (.str x)) := pf_c pe_str fun _ _ => rfl
noncomputable abbrev S2 := U → U → UH → Option (U × UH)
noncomputable def SemR2 (K : PySem.W.Frag) (r : R2) (sem : S2) : Prop := ∀ (H : Hp) (α : List Addr) (L : UH) (u w : U) (x y : V) (z : U) (L' : UH) (Q : VK), Abs K H α L → RepU K H α u x → RepU K H α w y → sem u w L = some (z, L') →
  (∀ v H' α', Gr H α H' α' → Abs K H' α' L' → RepU K H' α' z v → Q v H') → r x y H Q
noncomputable def f2 (sem : S2) (fa fb : FE) : FE := fun δ L => (fa δ L).bind fun p => (fb δ p.2).bind fun q => sem p.1 q.1 q.2
theorem lE_op {K : PySem.W.Frag} {r : R2} {sem : S2} {fa fb : FE} (h : SemR2 K r sem) : ∀ σ H Q, lE K (f2 sem fa fb) σ H Q → tOp r (lE K fa) (lE K fb) σ H Q := by
  rintro σ H Q ⟨α, δ, L, A, S, z, L3, e, q⟩
  obtain ⟨⟨u, L1⟩, e1, e⟩ := Option.bind_eq_some_iff.mp e
  obtain ⟨⟨w, L2⟩, e2, e3⟩ := Option.bind_eq_some_iff.mp e
  refine ⟨α, δ, L, A, S, u, L1, e1, fun x H1 α1 g1 A1 r1 => ⟨α1, δ, L1, A1, S.mono g1, w, L2, e2, fun y H2 α2 g2 A2 r2 => ?_⟩⟩
  exact h H2 α2 L2 u w x y z L3 Q A2 (r1.mono g2) r2 e3 fun v H3 α3 g3 A3 r3 => q v H3 α3 (g1.trans (g2.trans g3)) A3 r3
theorem pf_op {op : Operator} {r : R2} {sem : S2} {fa fb : FE} (ho : OpR X (binaryOp op) r) (h : SemR2 X.K r sem) (ha : PEF X a fa) (hb : PEF X b fb) : PEF X (.BinOp a op b pos) (f2 sem fa fb) := PE.imp (pe_op ho ha hb) (lE_op h)
theorem pf_cmp {op : CmpOp} {r : R2} {sem : S2} {fa fb : FE} (ho : OpR X (compareOp op) r) (h : SemR2 X.K r sem) (ha : PEF X a fa) (hb : PEF X b fb) (hm : behindInMarks op b = false) : PEF X (.Compare a [op] [b] pos) (f2 sem fa fb) := PE.imp (pe_cmpR ho ha hb hm) (lE_op h)
noncomputable def fTest (f : FE) : FT := fun δ L => (f δ L).bind fun p => match p.1 with | .bl k => some (k, p.2) | _ => none
theorem lT_test {K : PySem.W.Frag} {t : TE} {f : FE} (ht : ∀ σ H Q, lE K f σ H Q → t σ H Q) : ∀ σ H Q, lT K (fTest f) σ H Q → tTest t σ H Q := by
  rintro σ H Q ⟨α, δ, L, A, S, b, L1, e, q⟩
  obtain ⟨⟨u, L2⟩, e1, e⟩ := Option.bind_eq_some_iff.mp e
  refine ht σ H _ ⟨α, δ, L, A, S, u, L2, e1, fun x H1 α1 g1 A1 r1 => ?_⟩
  cases u with
  | bl k => simp at e; obtain ⟨rfl, rfl⟩ := e; exact ⟨k, r1, q H1 α1 g1 A1⟩
  | _ => simp at e
theorem ptf_cmp {op : CmpOp} {r : R2} {sem : S2} {fa fb : FE} (ho : OpR X (compareOp op) r) (h : SemR2 X.K r sem) (ha : PEF X a fa) (hb : PEF X b fb) (hm : behindInMarks op b = false) : PTF X (.Compare a [op] [b] pos) (fTest (f2 sem fa fb)) := PT.imp (pt_cmpR ho ha hb hm) (lT_test (lE_op h))
end
end MR
set_option Elab.async false
set_option linter.all false
set_option maxRecDepth 100000
set_option maxHeartbeats 1000000
namespace MR
open PySem PySem.Spec PyProof.Rows L2
section
variable {X : Cx} {a b c e : Expr} {pos : Pos} {rest : List Expr}
noncomputable def fAnd (f g : FT) : FT := fun δ L => (f δ L).bind fun p => if p.1 = true then g δ p.2 else some (false, p.2)
noncomputable def fOr (f g : FT) : FT := fun δ L => (f δ L).bind fun p => if p.1 = true then some (true, p.2) else g δ p.2
noncomputable def fNot (f : FT) : FT := fun δ L => (f δ L).map fun p => (!p.1, p.2)
noncomputable def fAndV (f g : FE) : FE := fun δ L => (f δ L).bind fun p => match p.1 with | .bl k => if k = true then g δ p.2 else some (.bl false, p.2) | _ => none
noncomputable def fOrV (f g : FE) : FE := fun δ L => (f δ L).bind fun p => match p.1 with | .bl k => if k = true then some (.bl true, p.2) else g δ p.2 | _ => none
noncomputable def fNotV (f : FE) : FE := fun δ L => (f δ L).bind fun p => match p.1 with | .bl k => some (.bl (!k), p.2) | _ => none
noncomputable def fIf (c : FT) (f g : FE) : FE := fun δ L => (c δ L).bind fun p => if p.1 = true then f δ p.2 else g δ p.2
theorem pwf_or1 {f : FT} (ha : PTF X a f) : PWF X (.BoolOp .Or [a] pos) f := pw_or1 ha
theorem pwf_or {f g : FT} (ha : PTF X a f) (hb : PWF X (.BoolOp .Or (b :: rest) pos) g) : PWF X (.BoolOp .Or (a :: b :: rest) pos) (fOr f g) := by
  refine PW.imp (pw_or ha hb) ?_
  rintro σ H Q ⟨α, δ, L, A, S, z, L3, e, q⟩
  obtain ⟨⟨u, L1⟩, e1, e⟩ := Option.bind_eq_some_iff.mp e
  refine ⟨α, δ, L, A, S, u, L1, e1, fun H1 α1 g1 A1 => ?_⟩
  cases u with
  | false => exact iteF ⟨α1, δ, L1, A1, S.mono g1, z, L3, e, fun H2 α2 g2 A2 => q H2 α2 (g1.trans g2) A2⟩
  | true => cases e; exact iteT (q H1 α1 g1 A1)
theorem PWF.pt {f : FT} (h : PWF X e f) : PTF X e f := PW.pt h
theorem ptf_not {f : FT} (ha : PTF X a f) : PTF X (.UnaryOp .Not a pos) (fNot f) := by
  refine PT.imp (pt_not ha) ?_
  rintro σ H Q ⟨α, δ, L, A, S, z, L3, e, q⟩
  obtain ⟨⟨u, L1⟩, e1, e⟩ := Option.map_eq_some_iff.mp e
  cases e
  exact ⟨α, δ, L, A, S, u, L1, e1, fun H1 α1 g1 A1 => q H1 α1 g1 A1⟩
theorem pf_one {op} {f : FE} (h : PEF X a f) : PEF X (.BoolOp op [a] pos) f := pe_one h
theorem pf_and {f g : FE} (ha : PEF X a f) (hb : PEF X (.BoolOp .And (b :: rest) pos) g) : PEF X (.BoolOp .And (a :: b :: rest) pos) (fAndV f g) := by
  refine PE.imp (pe_and ha hb) ?_
  rintro σ H Q ⟨α, δ, L, A, S, z, L3, e, q⟩
  obtain ⟨⟨u, L1⟩, e1, e⟩ := Option.bind_eq_some_iff.mp e
  refine ⟨α, δ, L, A, S, u, L1, e1, fun v H1 α1 g1 A1 r1 => ?_⟩
  cases u with
  | bl k =>
    cases k with
    | true => exact ⟨true, r1, iteT ⟨α1, δ, L1, A1, S.mono g1, z, L3, e, fun v H2 α2 g2 A2 r => q v H2 α2 (g1.trans g2) A2 r⟩⟩
    | false => cases e; exact ⟨false, r1, iteF (q _ H1 α1 g1 A1 rfl)⟩
  | _ => simp at e
theorem pf_or {f g : FE} (ha : PEF X a f) (hb : PEF X (.BoolOp .Or (b :: rest) pos) g) : PEF X (.BoolOp .Or (a :: b :: rest) pos) (fOrV f g) := by
  refine PE.imp (pe_or ha hb) ?_
  rintro σ H Q ⟨α, δ, L, A, S, z, L3, e, q⟩
  obtain ⟨⟨u, L1⟩, e1, e⟩ := Option.bind_eq_some_iff.mp e
  refine ⟨α, δ, L, A, S, u, L1, e1, fun v H1 α1 g1 A1 r1 => ?_⟩
  cases u with
  | bl k =>
    cases k with
    | false => exact ⟨false, r1, iteF ⟨α1, δ, L1, A1, S.mono g1, z, L3, e, fun v H2 α2 g2 A2 r => q v H2 α2 (g1.trans g2) A2 r⟩⟩
    | true => cases e; exact ⟨true, r1, iteT (q _ H1 α1 g1 A1 rfl)⟩
  | _ => simp at e
theorem pf_if {c : Expr} {t : FT} {f g : FE} (hc : PTF X c t) (ha : PEF X a f) (hb : PEF X b g) : PEF X (.IfExp c a b pos) (fIf t f g) := by
  refine PE.imp (pe_ifExp hc ha hb) ?_
  rintro σ H Q ⟨α, δ, L, A, S, z, L3, e, q⟩
  obtain ⟨⟨u, L1⟩, e1, e⟩ := Option.bind_eq_some_iff.mp e
  refine ⟨α, δ, L, A, S, u, L1, e1, fun H1 α1 g1 A1 => ?_⟩
  cases u with
  | true => exact iteT ⟨α1, δ, L1, A1, S.mono g1, z, L3, e, fun v H2 α2 g2 A2 r => q v H2 α2 (g1.trans g2) A2 r⟩
  | false => exact iteF ⟨α1, δ, L1, A1, S.mono g1, z, L3, e, fun v H2 α2 g2 A2 r => q v H2 α2 (g1.trans g2) A2 r⟩
noncomputable def fNil : FA := fun _ L => some ([], L)
noncomputable def fCons (f : FE) (g : FA) : FA := fun δ L => (f δ L).bind fun p => (g δ p.2).map fun q => (p.1 :: q.1, q.2)
theorem paf_nil : PAF X [] fNil := by
  refine PA.imp pa_nil ?_
  rintro σ H Q ⟨α, δ, L, A, S, z, L3, e, q⟩
  cases e
  exact q [] H α (.refl _ _) A .nil
theorem paf_cons {es : List Expr} {f : FE} {g : FA} (ha : PEF X e f) (hr : PAF X es g) (hs : starEach (e :: es) X.env = (false, eval e X.env) :: starEach es X.env := by rfl) : PAF X (e :: es) (fCons f g) := by
  refine PA.imp (pa_cons ha hr hs) ?_
  rintro σ H Q ⟨α, δ, L, A, S, z, L3, e, q⟩
  obtain ⟨⟨u, L1⟩, e1, e⟩ := Option.bind_eq_some_iff.mp e
  obtain ⟨⟨us, L2⟩, e2, e⟩ := Option.map_eq_some_iff.mp e
  cases e
  exact ⟨α, δ, L, A, S, u, L1, e1, fun x H1 α1 g1 A1 r1 => ⟨α1, δ, L1, A1, S.mono g1, us, L2, e2, fun xs H2 α2 g2 A2 r2 => q (x :: xs) H2 α2 (g1.trans g2) A2 (.cons (r1.mono g2) r2)⟩⟩
noncomputable def small (n : Nat) : Bool := decide (n ≤ sizeLine)
noncomputable def fTup (g : FA) : FE := fun δ L => (g δ L).bind fun p => if small p.1.length = true then some (.tup p.1, p.2) else none
noncomputable def fLst (g : FA) : FE := fun δ L => (g δ L).bind fun p => if small p.1.length = true then some (.ref p.2.length, p.2 ++ [.lst p.1]) else none
theorem small_le {n : Nat} (h : small n = true) : n ≤ sizeLine := of_decide_eq_true h
theorem Abs.tup {K : PySem.W.Frag} {H : Hp} {α : List Addr} {L : UH} {p : Addr} {us : List U} {xs : List V} (A : Abs K H α L) (r : RepL K H α us xs) (hp : H p = none) :
    Gr H α (upd H p (.tup xs)) α ∧ Abs K (upd H p (.tup xs)) α L ∧ RepU K (upd H p (.tup xs)) α (.tup us) (.ref p) := by
  have g : Gr H α (upd H p (.tup xs)) α := ⟨⟨[], by simp⟩, .new hp _⟩
  refine ⟨g, ⟨A.len, A.inj, fun i a o e1 e2 => (A.rep i a o e1 e2).other g (.inr fun u q => by rw [upd_ne (ne_of_none q hp)]; exact q)⟩, ?_⟩
  unfold RepU
  exact ⟨p, xs, rfl, .of upd_same, r.mono g⟩
theorem Abs.lst {K : PySem.W.Frag} {H : Hp} {α : List Addr} {L : UH} {p : Addr} {us : List U} {xs : List V} (A : Abs K H α L) (r : RepL K H α us xs) (hp : H p = none) :
    Gr H α (upd H p (.lst xs)) (α ++ [p]) ∧ Abs K (upd H p (.lst xs)) (α ++ [p]) (L ++ [.lst us]) ∧ RepU K (upd H p (.lst xs)) (α ++ [p]) (.ref L.length) (.ref p) := by
  have g : Gr H α (upd H p (.lst xs)) (α ++ [p]) := ⟨⟨[p], rfl⟩, .new hp _⟩
  obtain ⟨A', _⟩ := A.new (o := .lst xs) (u := .lst us) hp ⟨xs, upd_same, r.mono g⟩
  refine ⟨g, A', ?_⟩
  unfold RepU
  exact ⟨p, by rw [← A.len]; simp, rfl⟩
theorem pf_tup {es : List Expr} {g : FA} {x1} (h : PAF X es g) : PEF X (.Tuple es x1 pos) (fTup g) := by
  refine PE.imp (pe_tup h) ?_
  rintro σ H Q ⟨α, δ, L, A, S, z, L3, e, q⟩
  obtain ⟨⟨us, L1⟩, e1, e⟩ := Option.bind_eq_some_iff.mp e
  refine ⟨α, δ, L, A, S, us, L1, e1, fun xs H1 α1 g1 A1 r1 => ?_⟩
  simp only at e
  split at e
  · rename_i hs
    cases e
    refine ⟨by rw [← r1.length]; exact small_le hs, fun p hp => ?_⟩
    obtain ⟨g2, A2, r2⟩ := A1.tup r1 hp
    exact q _ _ α1 (g1.trans g2) A2 r2
  · cases e
theorem pf_lst {es : List Expr} {g : FA} (h : PAF X es g) : PEF X (.List es pos) (fLst g) := by
  refine PE.imp (pe_lst h) ?_
  rintro σ H Q ⟨α, δ, L, A, S, z, L3, e, q⟩
  obtain ⟨⟨us, L1⟩, e1, e⟩ := Option.bind_eq_some_iff.mp e
  refine ⟨α, δ, L, A, S, us, L1, e1, fun xs H1 α1 g1 A1 r1 => ?_⟩
  simp only at e
  split at e
  · rename_i hs
    cases e
    refine ⟨by rw [← r1.length]; exact small_le hs, fun p hp => ?_⟩
    obtain ⟨g2, A2, r2⟩ := A1.lst r1 hp
    exact q _ _ _ (g1.trans g2) A2 r2
  · cases e
noncomputable abbrev SC := List U → UH → Option (U × UH)
noncomputable def SemC (K : PySem.W.Frag) (r : List V → Hp → VK → Prop) (sem : SC) : Prop := ∀ (H : Hp) (α : List Addr) (L : UH) (us : List U) (xs : List V) (z : U) (L' : UH) (Q : VK), Abs K H α L → RepL K H α us xs → sem us L = some (z, L') →
  (∀ v H' α', Gr H α H' α' → Abs K H' α' L' → RepU K H' α' z v → Q v H') → r xs H Q
noncomputable def fCall (sem : SC) (g : FA) : FE := fun δ L => (g δ L).bind fun p => sem p.1 p.2
theorem lE_cb {K : PySem.W.Frag} {r : List V → Hp → VK → Prop} {sem : SC} {g : FA} (h : SemC K r sem) : ∀ σ H Q, lE K (fCall sem g) σ H Q → tCB r (lA K g) σ H Q := by
  rintro σ H Q ⟨α, δ, L, A, S, z, L3, e, q⟩
  obtain ⟨⟨us, L1⟩, e1, e⟩ := Option.bind_eq_some_iff.mp e
  exact ⟨α, δ, L, A, S, us, L1, e1, fun xs H1 α1 g1 A1 r1 => h H1 α1 L1 us xs z L3 Q A1 r1 e fun v H2 α2 g2 A2 r2 => q v H2 α2 (g1.trans g2) A2 r2⟩
variable {x : Str} {p : Pos} {es : List Expr} {id T : String} {r : List V → Hp → VK → Prop} {sem : SC} {g : FA}
theorem pf_callB (hc : CallR X (.builtin id) r) (h : SemC X.K r sem) (hg : Gl X x) (hm : X.mg x = none) (hv : bootBuiltins x = some (.builtin id)) (ha : PAF X (e :: es) g) (hn : x ≠ "__name__" := by decide) (hdb : (x == ("__debug__" : Str)) = false := by decide)
    (he : starEach (e :: es) X.env = (false, eval e X.env) :: starEach es X.env := by rfl) (hpl : (backTo pos (starEach es X.env)).any (·.1) = false := by rfl) :
    PEF X (.Call (.Name x p) (e :: es) [] pos) (fCall sem g) := PE.imp (pe_callB hc hg hm hv ha hn hdb he hpl) (lE_cb h)
theorem pf_callTy (hc : CallR X (.type T) r) (h : SemC X.K r sem) (hg : Gl X x) (hm : X.mg x = none) (hv : bootBuiltins x = some (.type T)) (ha : PAF X (e :: es) g) (hn : x ≠ "__name__" := by decide) (hdb : (x == ("__debug__" : Str)) = false := by decide)
    (he : starEach (e :: es) X.env = (false, eval e X.env) :: starEach es X.env := by rfl) (hpl : (backTo pos (starEach es X.env)).any (·.1) = false := by rfl) :
    PEF X (.Call (.Name x p) (e :: es) [] pos) (fCall sem g) := PE.imp (pe_callTy hc hg hm hv ha hn hdb he hpl) (lE_cb h)
noncomputable abbrev SM := U → List U → UH → Option (U × UH)
noncomputable def SemM (K : PySem.W.Frag) (r : V → List V → Hp → VK → Prop) (sem : SM) : Prop := ∀ (H : Hp) (α : List Addr) (L : UH) (u : U) (us : List U) (x : V) (xs : List V) (z : U) (L' : UH) (Q : VK), Abs K H α L → RepU K H α u x → RepL K H α us xs → sem u us L = some (z, L') →
  (∀ v H' α', Gr H α H' α' → Abs K H' α' L' → RepU K H' α' z v → Q v H') → r x xs H Q
noncomputable def tyU (T : String) (u : U) (L : UH) : Bool := match u with
  | .str _ => T == "str"
  | .int _ => T == "int"
  | .ref n => match L[n]? with
    | some (.lst _) => T == "list"
    | some (.ro _) => T == "list"
    | some (.dic _) => T == "dict"
    | _ => false
  | _ => false
theorem tyU_ok {K : PySem.W.Frag} {H : Hp} {α : List Addr} {L : UH} {u : U} {x : V} (A : Abs K H α L) (r : RepU K H α u x) (h : tyU T u L = true) : tyV K T x H := by
  cases u with
  | str y => unfold RepU at r; subst r; simpa [tyU, tyV] using h
  | int i => unfold RepU at r; subst r; simpa [tyU, tyV] using h
  | ref n =>
    unfold RepU at r
    obtain ⟨a, ea, rfl⟩ := r
    unfold tyU at h
    simp only at h
    cases q : L[n]? with
    | none => rw [q] at h; simp at h
    | some o =>
      have hr := A.rep n a o ea q
      rw [q] at h
      cases o with
      | lst us => simp at h; obtain ⟨xs, e, _⟩ := hr; exact .inl ⟨h, xs, .of e⟩
      | ro us => simp at h; obtain ⟨xs, e, _⟩ := hr; exact .inl ⟨h, xs, e.sq⟩
      | dic kvs => simp at h; obtain ⟨vs, e, _⟩ := hr; exact .inr (.inr (.inl ⟨h, .inl ⟨vs, e⟩⟩))
      | rod kvs => simp at h
      | ins C fs => simp at h
  | non => simp [tyU] at h
  | bl b => simp [tyU] at h
  | tup l => simp [tyU] at h
noncomputable def fMeth (T : String) (sem : SM) (f : FE) (g : FA) : FE := fun δ L => (f δ L).bind fun p => if tyU T p.1 p.2 = true then (g δ p.2).bind fun q => sem p.1 q.1 q.2 else none
theorem lE_bm {K : PySem.W.Frag} {r : V → List V → Hp → VK → Prop} {sem : SM} {f : FE} {g : FA} (h : SemM K r sem) : ∀ σ H Q, lE K (fMeth T sem f g) σ H Q → tBM K T r (lE K f) (lA K g) σ H Q := by
  rintro σ H Q ⟨α, δ, L, A, S, z, L3, e, q⟩
  obtain ⟨⟨u, L1⟩, e1, e⟩ := Option.bind_eq_some_iff.mp e
  simp only at e
  split at e
  · rename_i ht
    obtain ⟨⟨us, L2⟩, e2, e⟩ := Option.bind_eq_some_iff.mp e
    refine ⟨α, δ, L, A, S, u, L1, e1, fun x H1 α1 g1 A1 r1 => ⟨tyU_ok A1 r1 ht, α1, δ, L1, A1, S.mono g1, us, L2, e2, fun xs H2 α2 g2 A2 r2 => ?_⟩⟩
    exact h H2 α2 L2 u us x xs z L3 Q A2 (r1.mono g2) r2 e fun v H3 α3 g3 A3 r3 => q v H3 α3 (g1.trans (g2.trans g3)) A3 r3
  · cases e
section
variable {o e : Expr} {es : List Expr} {f : FE} {g : FA} {name : Str} {apos cpos : Pos} {T id : String} {r : V → List V → Hp → VK → Prop} {sem : SM}
theorem pf_bm (pa : PlainAttrs T) (slot : Slot T name id) (hty : typeOf (.builtin id) = pure (.type "method_descriptor")) (hm : MtR X id r) (h : SemM X.K r sem) (ho : PEF X o f) (ha : PAF X (e :: es) g)
    (hbase : attributeBase o name X.env (eval o X.env) = eval o X.env := by rfl)
    (hfew : ((backTo cpos (starEach (e :: es) X.env)).all (fun x => !x.1) && (backToKw cpos (keywordEach [] X.env)).all (fun x => x.1.isSome) && decide ((e :: es).length + ([] : List Keyword).length + (if ([] : List Keyword).isEmpty then 0 else 1) < 30)) = true := by rfl)
    (hline : (apos.endLine == cpos.line) = true := by rfl) (hst : starEach (e :: es) X.env = (false, eval e X.env) :: starEach es X.env := by rfl) (hpl : (backTo cpos (starEach es X.env)).any (·.1) = false := by rfl) :
    PEF X (.Call (.Attribute o name apos) (e :: es) [] cpos) (fMeth T sem f g) :=
  PE.imp (pe_bm pa slot hty hm ho ha hbase hfew hline hst hpl) (lE_bm h)
end
end
end MR
set_option Elab.async false
set_option linter.all false
set_option maxRecDepth 100000
set_option maxHeartbeats 1000000
namespace MR
open PySem PySem.Spec PyProof.Rows L2
noncomputable abbrev FN := List U → UH → Option (U × UH)
noncomputable def spF (K : PySem.W.Frag) (n : Nat) (f : FN) : Sp := fun vs H Q _ => ∃ α L us, Abs K H α L ∧ RepL K H α us vs ∧ us.length = n ∧ ∃ u L', f us L = some (u, L') ∧ ∀ v H' α', Gr H α H' α' → Abs K H' α' L' → RepU K H' α' u v → Q v H'
section
variable {X : Cx} {a b c e o : Expr} {es : List Expr} {pos p : Pos} {x : Str} {k : Nat} {f : Addr} {fd : FuncData} {ps : List Str} {F : FN} {g : FA} {fa fb fc : FE}
noncomputable def fOwn (n : Nat) (F : FN) (g : FA) : FE := fun δ L => (g δ L).bind fun p => if p.1.length = n then F p.1 p.2 else none
theorem pf_call {n : Nat} (hF : FnOk X.prog X.w X.K X.mg X.base CX0 k f fd ps (spF X.K n F)) (hr : Room k X.A) (hg : Gl X x) (hm : X.mg x = some (.ref f)) (hk : PySem.W.keepIn X.K (.ref f) = true) (hb : Binds X.K fd ps [])
    (ha : PAF X (e :: es) g) (hdb : (x == ("__debug__" : Str)) = false := by decide) (he : starEach (e :: es) X.env = (false, eval e X.env) :: starEach es X.env := by rfl) (hpl : (backTo pos (starEach es X.env)).any (·.1) = false := by rfl) :
    PEF X (.Call (.Name x p) (e :: es) [] pos) (fOwn n F g) := by
  refine PE.imp (pe_call hF hr hg hm hk hb .nil pass0 ha hdb he hpl) ?_
  rintro σ H Q ⟨α, δ, L, A, S, z, L3, e, q⟩
  obtain ⟨⟨us, L1⟩, e1, e⟩ := Option.bind_eq_some_iff.mp e
  simp only at e
  split at e
  · rename_i hl
    refine ⟨α, δ, L, A, S, us, L1, e1, fun xs H1 α1 g1 A1 r1 => ?_⟩
    exact ⟨α1, L1, us, A1, by rw [List.append_nil]; exact r1, hl, z, L3, e, fun v H2 α2 g2 A2 r2 => q v H2 α2 (g1.trans g2) A2 r2⟩
  · cases e
theorem pf_ix {r : R2} {sem : S2} (hr : IxR X r) (h : SemR2 X.K r sem) (ha : PEF X a fa) (hb : PEF X b fb) (hs : PlainIx b) : PEF X (.Subscript a b pos) (f2 sem fa fb) := PE.imp (pe_ix hr ha hb hs) (lE_op h)
noncomputable abbrev FO := UE → UH → Option (Option Int × UH)
noncomputable def lO (K : PySem.W.Frag) (f : FO) : TO := fun σ H Q => ∃ α δ L, Abs K H α L ∧ RepS K H α δ σ ∧ ∃ i L', f δ L = some (i, L') ∧ ∀ H' α', Gr H α H' α' → Abs K H' α' L' → Q i H'
noncomputable def POF (X : Cx) (e : Option Expr) (f : FO) : Prop := PO X e (lO X.K f)
noncomputable def fNoPart : FO := fun _ L => some (none, L)
noncomputable def fPart (f : FE) : FO := fun δ L => (f δ L).bind fun p => match p.1 with | .int i => some (some i, p.2) | _ => none
theorem PO.imp {e : Option Expr} {t t' : TO} (h : PO X e t) (hi : ∀ σ H Q, t' σ H Q → t σ H Q) : PO X e t' := fun pins s σ H Q I q => h pins s σ H Q I (hi σ H Q q)
theorem pof_none : POF X none fNoPart := by
  refine PO.imp po_none ?_
  rintro σ H Q ⟨α, δ, L, A, S, z, L3, e, q⟩
  cases e
  exact q H α (.refl _ _) A
theorem pof_some (h : PEF X e fa) : POF X (some e) (fPart fa) := by
  refine PO.imp (po_some h) ?_
  rintro σ H Q ⟨α, δ, L, A, S, z, L3, e, q⟩
  obtain ⟨⟨u, L1⟩, e1, e⟩ := Option.bind_eq_some_iff.mp e
  refine ⟨α, δ, L, A, S, u, L1, e1, fun x H1 α1 g1 A1 r1 => ?_⟩
  cases u with
  | int i => cases e; exact ⟨i, r1, q H1 α1 g1 A1⟩
  | _ => simp at e
noncomputable abbrev SS := U → Option Int → Option Int → UH → Option (U × UH)
noncomputable def SemSl (K : PySem.W.Frag) (r : V → Option Int → Option Int → Hp → VK → Prop) (sem : SS) : Prop := ∀ (H : Hp) (α : List Addr) (L : UH) (u : U) (x : V) (lo hi : Option Int) (z : U) (L' : UH) (Q : VK), Abs K H α L → RepU K H α u x → sem u lo hi L = some (z, L') →
  (∀ v H' α', Gr H α H' α' → Abs K H' α' L' → RepU K H' α' z v → Q v H') → r x lo hi H Q
noncomputable def fSl (sem : SS) (f : FE) (l h : FO) : FE := fun δ L => (f δ L).bind fun p => (l δ p.2).bind fun q => (h δ q.2).bind fun r => sem p.1 q.1 r.1 r.2
theorem pf_slice {r : V → Option Int → Option Int → Hp → VK → Prop} {sem : SS} {lo hi : Option Expr} {fl fh : FO} {p2 : Pos} (hr : SlR X r) (h : SemSl X.K r sem) (he : PEF X e fa) (hl : POF X lo fl) (hu : POF X hi fh) : PEF X (.Subscript e (.Slice lo hi none p2) pos) (fSl sem fa fl fh) := by
  refine PE.imp (pe_slice hr he hl hu) ?_
  rintro σ H Q ⟨α, δ, L, A, S, z, L3, e, q⟩
  obtain ⟨⟨u, L1⟩, e1, e⟩ := Option.bind_eq_some_iff.mp e
  obtain ⟨⟨i, L2⟩, e2, e⟩ := Option.bind_eq_some_iff.mp e
  obtain ⟨⟨j, L4⟩, e3, e⟩ := Option.bind_eq_some_iff.mp e
  refine ⟨α, δ, L, A, S, u, L1, e1, fun x H1 α1 g1 A1 r1 => ⟨α1, δ, L1, A1, S.mono g1, i, L2, e2, fun H2 α2 g2 A2 => ⟨α2, δ, L2, A2, (S.mono g1).mono g2, j, L4, e3, fun H3 α3 g3 A3 => ?_⟩⟩⟩
  exact h H3 α3 L4 u x i j z L3 Q A3 ((r1.mono g2).mono g3) e fun v H4 α4 g4 A4 r4 => q v H4 α4 (g1.trans (g2.trans (g3.trans g4))) A4 r4
noncomputable def fNeg (f : FE) : FE := fun δ L => (f δ L).bind fun p => match p.1 with | .int i => some (.int (-i), p.2) | _ => none
theorem pf_neg (ha : PEF X a fa) : PEF X (.UnaryOp .USub a pos) (fNeg fa) := by
  refine PE.imp (pe_un un_neg ha) ?_
  rintro σ H Q ⟨α, δ, L, A, S, z, L3, e, q⟩
  obtain ⟨⟨u, L1⟩, e1, e⟩ := Option.bind_eq_some_iff.mp e
  refine ⟨α, δ, L, A, S, u, L1, e1, fun x H1 α1 g1 A1 r1 => ?_⟩
  cases u with
  | int i => cases e; exact ⟨i, r1, q _ H1 α1 g1 A1 rfl⟩
  | _ => simp at e
noncomputable def fChain (s1 s2 : S2) (fa fb fc : FE) : FE := fun δ L => (fa δ L).bind fun p => (fb δ p.2).bind fun q => (s1 p.1 q.1 q.2).bind fun r => match r.1 with
  | .bl k => if k = true then (fc δ r.2).bind fun t => s2 q.1 t.1 t.2 else some (.bl false, r.2)
  | _ => none
theorem lE_chain {K : PySem.W.Frag} {r r' : R2} {s1 s2 : S2} (h1 : SemR2 K r s1) (h2 : SemR2 K r' s2) : ∀ σ H Q, lE K (fChain s1 s2 fa fb fc) σ H Q → tChain r r' (lE K fa) (lE K fb) (lE K fc) σ H Q := by
  rintro σ H Q ⟨α, δ, L, A, S, z, L3, e, q⟩
  obtain ⟨⟨u, L1⟩, e1, e⟩ := Option.bind_eq_some_iff.mp e
  obtain ⟨⟨w, L2⟩, e2, e⟩ := Option.bind_eq_some_iff.mp e
  obtain ⟨⟨t, L4⟩, e3, e⟩ := Option.bind_eq_some_iff.mp e
  refine ⟨α, δ, L, A, S, u, L1, e1, fun x H1 α1 g1 A1 r1 => ⟨α1, δ, L1, A1, S.mono g1, w, L2, e2, fun y H2 α2 g2 A2 r2 => ?_⟩⟩
  refine h1 H2 α2 L2 u w x y t L4 _ A2 (r1.mono g2) r2 e3 fun v H3 α3 g3 A3 r3 => ?_
  cases t with
  | bl k =>
    refine ⟨k, r3, ?_⟩
    cases k with
    | true =>
      obtain ⟨⟨s, L5⟩, e4, e⟩ := Option.bind_eq_some_iff.mp e
      refine iteT ⟨α3, δ, L4, A3, ((S.mono g1).mono g2).mono g3, s, L5, e4, fun y' H4 α4 g4 A4 r4 => ?_⟩
      exact h2 H4 α4 L5 w s y y' z L3 Q A4 ((r2.mono g3).mono g4) r4 e fun v H5 α5 g5 A5 r5 => q v H5 α5 (g1.trans (g2.trans (g3.trans (g4.trans g5)))) A5 r5
    | false => cases e; exact iteF (q _ H3 α3 (g1.trans (g2.trans g3)) A3 rfl)
  | _ => simp at e
theorem pf_chain {op op' : CmpOp} {r r' : R2} {s1 s2 : S2} (ho : OpR X (compareOp op) r) (ho' : OpR X (compareOp op') r') (h1 : SemR2 X.K r s1) (h2 : SemR2 X.K r' s2) (ha : PEF X a fa) (hb : PEF X b fb) (hc : PEF X c fc) (hm : lastMarks [op, op'] [b, c] = false := by with_unfolding_all rfl) :
    PEF X (.Compare a [op, op'] [b, c] pos) (fChain s1 s2 fa fb fc) := PE.imp (pe_chain ho ho' ha hb hc hm) (lE_chain h1 h2)
theorem ptf_chain {op op' : CmpOp} {r r' : R2} {s1 s2 : S2} (ho : OpR X (compareOp op) r) (ho' : OpR X (compareOp op') r') (h1 : SemR2 X.K r s1) (h2 : SemR2 X.K r' s2) (ha : PEF X a fa) (hb : PEF X b fb) (hc : PEF X c fc) (hm : lastMarks [op, op'] [b, c] = false := by with_unfolding_all rfl) :
    PTF X (.Compare a [op, op'] [b, c] pos) (fTest (fChain s1 s2 fa fb fc)) := PT.imp (pt_chain ho ho' ha hb hc hm) (lT_test (lE_chain h1 h2))
noncomputable def truU (u : U) (L : UH) : Option Bool := match u with
  | .non => some false
  | .bl b => some b
  | .int i => some (i != 0)
  | .str y => if small y.length = true then some ((y.length : Int) != 0) else none
  | .tup l => some (!l.isEmpty)
  | .ref n => match L[n]? with
    | some (.lst xs) => some (!xs.isEmpty)
    | some (.ro xs) => some (!xs.isEmpty)
    | some (.dic kvs) => some (!kvs.isEmpty)
    | _ => none
theorem isEmpty_len {α β : Type} {l : List α} {m : List β} (h : l.length = m.length) : l.isEmpty = m.isEmpty := by
  cases l <;> cases m <;> simp_all
theorem truU_ok {K : PySem.W.Frag} {H : Hp} {α : List Addr} {L : UH} {u : U} {x : V} {k : Bool} (A : Abs K H α L) (r : RepU K H α u x) (h : truU u L = some k) : TruV K x H k := by
  cases u with
  | non => unfold RepU at r; subst r; exact (Option.some.inj h).symm
  | bl b => unfold RepU at r; subst r; exact (Option.some.inj h).symm
  | int i => unfold RepU at r; subst r; exact (Option.some.inj h).symm
  | str y =>
    unfold RepU at r; subst r
    unfold truU at h
    simp only at h
    split at h
    · rename_i hs; cases h; exact ⟨small_le hs, rfl⟩
    · cases h
  | tup l =>
    unfold RepU at r
    obtain ⟨a, xs, rfl, s, r⟩ := r
    exact .inr (.inl ⟨xs, s, by rw [← isEmpty_len r.length]; exact (Option.some.inj h).symm⟩)
  | ref n =>
    unfold RepU at r
    obtain ⟨a, ea, rfl⟩ := r
    unfold truU at h
    simp only at h
    cases q : L[n]? with
    | none => rw [q] at h; simp at h
    | some o =>
      have hr := A.rep n a o ea q
      rw [q] at h
      cases o with
      | lst us => obtain ⟨xs, e, r⟩ := hr; exact .inl ⟨xs, .of e, by rw [← isEmpty_len r.length]; exact (Option.some.inj h).symm⟩
      | ro us => obtain ⟨xs, e, r⟩ := hr; exact .inl ⟨xs, e.sq, by rw [← isEmpty_len r.length]; exact (Option.some.inj h).symm⟩
      | dic kvs => obtain ⟨vs, e, ek, _⟩ := hr; exact .inr (.inr ⟨vs, e, by rw [← isEmpty_len (show kvs.length = vs.length by simpa using congrArg List.length ek)]; exact (Option.some.inj h).symm⟩)
      | rod kvs => simp at h
      | ins C fs => simp at h
noncomputable def fTru (f : FE) : FT := fun δ L => (f δ L).bind fun p => (truU p.1 p.2).map fun k => (k, p.2)
theorem ptf_tru (ha : PEF X a fa) (he : ∀ whole, isTrue a X.env whole = (do let v ← whole; standAt a.pos; holding [v] (truthy v)) := by intro _; rfl) : PTF X a (fTru fa) := by
  refine PT.imp (pt_truth ha he) ?_
  rintro σ H Q ⟨α, δ, L, A, S, z, L3, e, q⟩
  obtain ⟨⟨u, L1⟩, e1, e⟩ := Option.bind_eq_some_iff.mp e
  obtain ⟨k, e2, e⟩ := Option.map_eq_some_iff.mp e
  cases e
  exact ⟨α, δ, L, A, S, u, _, e1, fun x H1 α1 g1 A1 r1 => ⟨_, truU_ok A1 r1 e2, q H1 α1 g1 A1⟩⟩
end
inductive Fl where
  | nx (δ : UE) | rt (u : U) | bk (δ : UE) | ct (δ : UE)
noncomputable abbrev FS := UE → UH → Option (Fl × UH)
noncomputable def Post (K : PySem.W.Frag) (D : Ends) (H : Hp) (α : List Addr) (fl : Fl) (L' : UH) : Prop := match fl with
  | .nx δ' => ∀ σ' H' α', Gr H α H' α' → Abs K H' α' L' → RepS K H' α' δ' σ' → D.nx σ' H'
  | .bk δ' => ∀ σ' H' α', Gr H α H' α' → Abs K H' α' L' → RepS K H' α' δ' σ' → D.bk σ' H'
  | .ct δ' => ∀ σ' H' α', Gr H α H' α' → Abs K H' α' L' → RepS K H' α' δ' σ' → D.ct σ' H'
  | .rt u => ∀ v H' α', Gr H α H' α' → Abs K H' α' L' → RepU K H' α' u v → D.rt v H'
theorem Post.from {K : PySem.W.Frag} {D : Ends} {H H1 : Hp} {α α1 : List Addr} {fl : Fl} {L' : UH} (g : Gr H α H1 α1) (p : Post K D H α fl L') : Post K D H1 α1 fl L' := by
  cases fl with
  | nx δ => exact fun σ' H' α' g' => p σ' H' α' (g.trans g')
  | bk δ => exact fun σ' H' α' g' => p σ' H' α' (g.trans g')
  | ct δ => exact fun σ' H' α' g' => p σ' H' α' (g.trans g')
  | rt u => exact fun v H' α' g' => p v H' α' (g.trans g')
noncomputable def lS (K : PySem.W.Frag) (f : FS) : TS := fun D σ H => ∃ α δ L, Abs K H α L ∧ RepS K H α δ σ ∧ ∃ fl L', f δ L = some (fl, L') ∧ Post K D H α fl L'
noncomputable def PSF (X : Cx) (st : Stmt) (f : FS) : Prop := PS X st (lS X.K f)
noncomputable def PSsF (X : Cx) (st : List Stmt) (f : FS) : Prop := PSs X st (lS X.K f)
section
variable {X : Cx} {st : Stmt} {rest : List Stmt} {e : Expr} {pos : Pos} {f g : FS} {fe : FE}
theorem PS.imp {t t' : TS} (h : PS X st t) (hi : ∀ D σ H, t' D σ H → t D σ H) : PS X st t' := fun pins s σ H D I q => h pins s σ H D I (hi D σ H q)
theorem PSs.imp {sts : List Stmt} {t t' : TS} (h : PSs X sts t) (hi : ∀ D σ H, t' D σ H → t D σ H) : PSs X sts t' := fun pins s σ H D I q => h pins s σ H D I (hi D σ H q)
noncomputable def fNext : FS := fun δ L => some (.nx δ, L)
noncomputable def fSeq (f g : FS) : FS := fun δ L => (f δ L).bind fun p => match p.1 with | .nx δ' => g δ' p.2 | fl => some (fl, p.2)
theorem psf_nil : PSsF X [] fNext := by
  refine PSs.imp pss_nil ?_
  rintro D σ H ⟨α, δ, L, A, S, fl, L', e, q⟩
  cases e
  exact q σ H α (.refl _ _) A S
theorem psf_cons (h1 : PSF X st f) (h2 : PSsF X rest g) : PSsF X (st :: rest) (fSeq f g) := by
  refine PSs.imp (pss_cons h1 h2) ?_
  rintro D σ H ⟨α, δ, L, A, S, fl, L', e, q⟩
  obtain ⟨⟨fl1, L1⟩, e1, e⟩ := Option.bind_eq_some_iff.mp e
  refine ⟨α, δ, L, A, S, fl1, L1, e1, ?_⟩
  cases fl1 with
  | nx δ1 => exact fun σ1 H1 α1 g1 A1 S1 => ⟨α1, δ1, L1, A1, S1, fl, L', e, q.from g1⟩
  | rt u => cases e; exact q
  | bk δ1 => cases e; exact q
  | ct δ1 => cases e; exact q
theorem psf_one (h1 : PSF X st f) : PSsF X [st] f := pss_one h1
noncomputable def fRet (f : FE) : FS := fun δ L => (f δ L).map fun p => (.rt p.1, p.2)
noncomputable def fDrop (f : FE) : FS := fun δ L => (f δ L).map fun p => (.nx δ, p.2)
noncomputable def fRetN : FS := fun _ L => some (.rt .non, L)
theorem psf_ret (he : PEF X e fe) : PSF X (.Return (some e) pos) (fRet fe) := by
  refine PS.imp (ps_ret he) ?_
  rintro D σ H ⟨α, δ, L, A, S, fl, L', e, q⟩
  obtain ⟨⟨u, L1⟩, e1, e⟩ := Option.map_eq_some_iff.mp e
  cases e
  exact ⟨α, δ, L, A, S, u, _, e1, fun v H1 α1 g1 A1 r1 => q v H1 α1 g1 A1 r1⟩
theorem psf_expr (he : PEF X e fe) (hs : swapsWith e none pos.line X.env = pure false := by rfl) : PSF X (.Expr e pos) (fDrop fe) := by
  refine PS.imp (ps_expr he hs) ?_
  rintro D σ H ⟨α, δ, L, A, S, fl, L', e, q⟩
  obtain ⟨⟨u, L1⟩, e1, e⟩ := Option.map_eq_some_iff.mp e
  cases e
  exact ⟨α, δ, L, A, S, u, _, e1, fun v H1 α1 g1 A1 r1 => q σ H1 α1 g1 A1 (S.mono g1)⟩
noncomputable def fIfS (c : FT) (f g : FS) : FS := fun δ L => (c δ L).bind fun p => if p.1 = true then f δ p.2 else g δ p.2
theorem psf_if {c : Expr} {a b : List Stmt} {tc : FT} (hc : PTF X c tc) (ha : PSsF X a f) (hb : PSsF X b g) : PSF X (.If c a b pos) (fIfS tc f g) := by
  refine PS.imp (ps_if hc ha hb) ?_
  rintro D σ H ⟨α, δ, L, A, S, fl, L', e, q⟩
  obtain ⟨⟨u, L1⟩, e1, e⟩ := Option.bind_eq_some_iff.mp e
  refine ⟨α, δ, L, A, S, u, L1, e1, fun H1 α1 g1 A1 => ?_⟩
  cases u with
  | true => exact iteT ⟨α1, δ, L1, A1, S.mono g1, fl, L', e, q.from g1⟩
  | false => exact iteF ⟨α1, δ, L1, A1, S.mono g1, fl, L', e, q.from g1⟩
noncomputable def fNever : FS := fun _ _ => none
theorem psf_never : PSF X st fNever := by
  refine PS.imp ps_never ?_
  rintro D σ H ⟨α, δ, L, A, S, fl, L', e, q⟩
  cases e
end
noncomputable abbrev FG := U → UE → UH → Option (UE × UH)
noncomputable abbrev FGs := List U → UE → UH → Option (UE × UH)
noncomputable def lG (K : PySem.W.Frag) (f : FG) : TG := fun v σ H Q => ∃ α δ L u, Abs K H α L ∧ RepS K H α δ σ ∧ RepU K H α u v ∧ ∃ δ' L', f u δ L = some (δ', L') ∧ ∀ σ' H' α', Gr H α H' α' → Abs K H' α' L' → RepS K H' α' δ' σ' → Q σ' H'
noncomputable def lGs (K : PySem.W.Frag) (f : FGs) : TGs := fun vs σ H Q => ∃ α δ L us, Abs K H α L ∧ RepS K H α δ σ ∧ RepL K H α us vs ∧ ∃ δ' L', f us δ L = some (δ', L') ∧ ∀ σ' H' α', Gr H α H' α' → Abs K H' α' L' → RepS K H' α' δ' σ' → Q σ' H'
noncomputable def PGF (X : Cx) (e : Expr) (f : FG) : Prop := PG X e (lG X.K f)
noncomputable def PGsF (X : Cx) (es : List Expr) (f : FGs) : Prop := PGs X es (lGs X.K f)
section
variable {X : Cx} {e : Expr} {es : List Expr} {pos : Pos}
theorem PG.imp {t t' : TG} (h : PG X e t) (hi : ∀ v σ H Q, t' v σ H Q → t v σ H Q) : PG X e t' := fun pins s σ H v u Q I r q => h pins s σ H v u Q I r (hi v σ H Q q)
theorem PGs.imp {t t' : TGs} (h : PGs X es t) (hi : ∀ v σ H Q, t' v σ H Q → t v σ H Q) : PGs X es t' := fun pins s σ H v u Q I r q => h pins s σ H v u Q I r (hi v σ H Q q)
noncomputable def gN (i : Nat) : FG := fun u δ L => some (δ.set i (some u), L)
theorem pgf_name {i : Nat} {x : Str} (hN : X.N.Nodup) (hi : X.N[i]? = some x := by rfl) (hx : Loc X.env.scope x := by first | exact Or.inl rfl | exact Or.inr rfl) (hf : X.fn x = true ∨ X.env.scope.names.lookup x = some .local := by first | exact .inl rfl | exact .inr rfl) : PGF X (.Name x pos) (gN i) := by
  refine PG.imp (pg_name (i := i) hN hi hx hf) ?_
  rintro v σ H Q ⟨α, δ, L, u, A, S, r, δ', L', e, q⟩
  cases e
  exact q _ H α (.refl _ _) A (S.set i r)
noncomputable def gNil : FGs := fun us δ L => match us with | [] => some (δ, L) | _ => none
noncomputable def gCons (f : FG) (g : FGs) : FGs := fun us δ L => match us with | [] => none | u :: r => (f u δ L).bind fun p => g r p.1 p.2
theorem pgsf_nil : PGsF X [] MR.gNil := by
  refine PGs.imp pgs_nil ?_
  rintro vs σ H Q ⟨α, δ, L, us, A, S, r, δ', L', e, q⟩
  cases us with
  | nil => cases e; exact ⟨by unfold RepL at r; exact r, q σ H α (.refl _ _) A S⟩
  | cons u us => cases e
theorem pgsf_cons {f : FG} {g : FGs} (h1 : PGF X e f) (h2 : PGsF X es g) (hs : (assignEach (e :: es) X.env).map (·.2) = assign e X.env :: (assignEach es X.env).map (·.2) := by rfl) : PGsF X (e :: es) (MR.gCons f g) := by
  refine PGs.imp (pgs_cons h1 h2 hs) ?_
  rintro vs σ H Q ⟨α, δ, L, us, A, S, r, δ', L', e, q⟩
  cases us with
  | nil => cases e
  | cons u us =>
    unfold RepL at r
    obtain ⟨x, xs, rfl, r1, r2⟩ := r
    obtain ⟨⟨δ1, L1⟩, e1, e⟩ := Option.bind_eq_some_iff.mp e
    refine ⟨x, xs, rfl, α, δ, L, u, A, S, r1, δ1, L1, e1, fun σ1 H1 α1 g1 A1 S1 => ?_⟩
    exact ⟨α1, δ1, L1, us, A1, S1, r2.mono g1, δ', L', e, fun σ2 H2 α2 g2 A2 S2 => q σ2 H2 α2 (g1.trans g2) A2 S2⟩
noncomputable def gTup (n : Nat) (g : FGs) : FG := fun u δ L => match u with | .tup us => if us.length = n then g us δ L else none | _ => none
theorem pgf_tup {k : Nat} {g : FGs} {n : Nat} (hc : X.calm = true) (h : PGsF X es g) (hn : (assignEach es X.env).length = n := by rfl) (hst : (assignEach es X.env).findIdx? (·.1) = none := by rfl) : PGF X (.Tuple es k pos) (MR.gTup n g) := by
  refine PG.imp (pg_tup hc h hn hst) ?_
  rintro v σ H Q ⟨α, δ, L, u, A, S, r, δ', L', e, q⟩
  cases u with
  | tup us =>
    unfold RepU at r
    obtain ⟨a, xs, rfl, s, r⟩ := r
    unfold MR.gTup at e
    simp only at e
    split at e
    · rename_i hl
      exact ⟨a, xs, rfl, s, by rw [← r.length]; exact hl, α, δ, L, us, A, S, r, δ', L', e, q⟩
    · cases e
  | _ => simp [MR.gTup] at e
noncomputable def fAsg (fe : FE) (g : FG) : FS := fun δ L => (fe δ L).bind fun p => (g p.1 δ p.2).map fun q => (.nx q.1, q.2)
theorem psf_set {i : Nat} {x : Str} {fe : FE} {pos' : Pos} (hN : X.N.Nodup) (he : PEF X e fe) (hi : X.N[i]? = some x := by rfl) (hx : Loc X.env.scope x := by first | exact Or.inl rfl | exact Or.inr rfl)
    (hs : swapsWith e (some (.Name x pos')) pos.line X.env = pure false := by rfl) (hf : X.fn x = true ∨ X.env.scope.names.lookup x = some .local := by first | exact .inl rfl | exact .inr rfl) :
    PSF X (.Assign [.Name x pos'] e pos) (fAsg fe (gN i)) := by
  refine PS.imp (ps_set (i := i) hN hi hx he hs hf) ?_
  rintro D σ H ⟨α, δ, L, A, S, fl, L', e, q⟩
  obtain ⟨⟨u, L1⟩, e1, e⟩ := Option.bind_eq_some_iff.mp e
  obtain ⟨⟨δ2, L2⟩, e2, e⟩ := Option.map_eq_some_iff.mp e
  cases e
  cases e2
  exact ⟨α, δ, L, A, S, u, _, e1, fun v H1 α1 g1 A1 r1 => q _ H1 α1 g1 A1 ((S.mono g1).set i r1)⟩
end
end MR
set_option Elab.async false
set_option linter.all false
set_option maxRecDepth 100000
set_option maxHeartbeats 1000000
namespace MR
open PySem PySem.Spec PyProof.Rows L2
noncomputable def lstAt (L : UH) (n : Nat) : Option (List U) := match L[n]? with
  | some (.lst us) => some us
  | _ => none
noncomputable def seqAt (L : UH) (n : Nat) : Option (List U) := match L[n]? with
  | some (.lst us) => some us
  | some (.ro us) => some us
  | _ => none
inductive IU where
  | seq (us : List U) | ref (n : Nat) | enm (n : Nat) | zip2 (n m : Nat) | zipT (us : List U) (m : Nat)
noncomputable def pairU : Option U → Option U → Option U
  | some x, some y => some (.tup [x, y])
  | _, _ => none
noncomputable def IU.at (i : IU) (k : Nat) (L : UH) : Option (Option U) := match i with
  | .seq us => some us[k]?
  | .ref n => match L[n]? with
    | some (.lst us) => some us[k]?
    | some (.ro us) => some us[k]?
    | _ => none
  | .enm n => (seqAt L n).map fun us => (us[k]?).map fun u => .tup [.int k, u]
  | .zip2 n m => (seqAt L n).bind fun us => (seqAt L m).map fun ws => pairU us[k]? ws[k]?
  | .zipT us m => (seqAt L m).map fun ws => pairU us[k]? ws[k]?
noncomputable def IU.size (i : IU) (L : UH) : Nat := match i with
  | .seq us => us.length
  | .ref n => match L[n]? with
    | some (.lst us) => us.length
    | some (.ro us) => us.length
    | _ => 0
  | .enm n => match seqAt L n with
    | some us => us.length
    | none => 0
  | .zip2 n m => match seqAt L n, seqAt L m with
    | some us, some ws => min us.length ws.length
    | _, _ => 0
  | .zipT us m => match seqAt L m with
    | some ws => min us.length ws.length
    | none => 0
noncomputable abbrev FI := UE → UH → Option (IU × UH)
noncomputable def ItRep (K : PySem.W.Frag) (J : It) (i : IU) (H : Hp) (α : List Addr) : Prop := ∀ (H2 : Hp) (α2 : List Addr) (L2 : UH), Gr H α H2 α2 → Abs K H2 α2 L2 → ∀ k : Nat,
  (∀ u, i.at k L2 = some (some u) → J.go k H2 ∧ ∀ x H3, J.yld k H2 x H3 → Gr H2 α2 H3 α2 ∧ Abs K H3 α2 L2 ∧ RepU K H3 α2 u x) ∧ (i.at k L2 = some none → J.stop k H2)
noncomputable def lI (K : PySem.W.Frag) (f : FI) : TI := fun σ H R => ∃ α δ L, Abs K H α L ∧ RepS K H α δ σ ∧ ∃ i L', f δ L = some (i, L') ∧ ∀ J H' α', Gr H α H' α' → Abs K H' α' L' → ItRep K J i H' α' → R J H'
noncomputable def PIF (X : Cx) (tg iter : Expr) (f : FI) : Prop := PI X tg iter (lI X.K f)
section
variable {X : Cx} {tg iter l : Expr} {pos : Pos} {fe : FE}
theorem PI.imp {t t' : TI} (h : PI X tg iter t) (hi : ∀ σ H R, t' σ H R → t σ H R) : PI X tg iter t' := fun pins s σ H R I q => h pins s σ H R I (hi σ H R q)
theorem PI.or {t t' : TI} (h : PI X tg iter t) (h' : PI X tg iter t') : PI X tg iter (fun σ H R => t σ H R ∨ t' σ H R) := fun pins s σ H R I q => by
  rcases q with q | q
  · exact h pins s σ H R I q
  · exact h' pins s σ H R I q
noncomputable def iSeqU (u : U) (L : UH) : Option IU := match u with
  | .tup us => some (.seq us)
  | .ref n => match L[n]? with
    | some (.lst _) => some (.ref n)
    | some (.ro _) => some (.ref n)
    | _ => none
  | _ => none
theorem itl_rep {K : PySem.W.Frag} {H : Hp} {α : List Addr} {n : Nat} {a : Addr} (ea : α[n]? = some a) : ItRep K (Itl K a) (.ref n) H α := by
  intro H2 α2 L2 g A2 k
  have ea2 := g.at ea
  have go : ∀ (us : List U) (xs : List V), SqL K H2 a xs → RepL K H2 α2 us xs → (∀ ys, SqL K H2 a ys → True) → (∀ u, us[k]? = some u → (Itl K a).go k H2 ∧ ∀ x H3, (Itl K a).yld k H2 x H3 → Gr H2 α2 H3 α2 ∧ Abs K H3 α2 L2 ∧ RepU K H3 α2 u x) ∧ (us[k]? = none → (Itl K a).stop k H2) := by
    intro us xs sq r _
    refine ⟨fun u eu => ?_, fun eu => ?_⟩
    · obtain ⟨x, ex, rx⟩ := r.get eu
      refine ⟨⟨xs, x, sq, ex⟩, ?_⟩
      rintro y H3 ⟨rfl, hy⟩
      have := hy xs sq
      rw [ex] at this; cases this
      exact ⟨.refl _ _, A2, rx⟩
    · exact ⟨xs, sq, by rw [← r.length]; exact List.getElem?_eq_none_iff.mp eu⟩
  unfold IU.at
  simp only
  cases q : L2[n]? with
  | none => simp
  | some o =>
    have hr := A2.rep n a o ea2 q
    cases o with
    | lst us =>
      obtain ⟨xs, e, r⟩ := hr
      obtain ⟨h1, h2⟩ := go us xs (.of e) r fun _ _ => trivial
      exact ⟨fun u eu => h1 u (Option.some.inj eu), fun eu => h2 (Option.some.inj eu)⟩
    | ro us =>
      obtain ⟨xs, e, r⟩ := hr
      obtain ⟨h1, h2⟩ := go us xs e.sq r fun _ _ => trivial
      exact ⟨fun u eu => h1 u (Option.some.inj eu), fun eu => h2 (Option.some.inj eu)⟩
    | dic kvs => simp
    | rod kvs => simp
    | ins C fs => simp
theorem itt_rep {K : PySem.W.Frag} {H : Hp} {α : List Addr} {us : List U} {xs : List V} {a : Addr} (sq : SqT K H a xs) (r : RepL K H α us xs) : ItRep K (Itt K a) (.seq us) H α := by
  intro H2 α2 L2 g A2 k
  have sq2 := g.st.sqT (K := K) sq
  have r2 := r.mono g
  refine ⟨fun u eu => ?_, fun eu => ?_⟩
  · obtain ⟨x, ex, rx⟩ := r2.get (Option.some.inj eu)
    refine ⟨⟨xs, x, sq2, ex⟩, ?_⟩
    rintro y H3 ⟨rfl, hy⟩
    have := hy xs sq2
    rw [ex] at this; cases this
    exact ⟨.refl _ _, A2, rx⟩
  · exact ⟨xs, sq2, by rw [← r2.length]; exact List.getElem?_eq_none_iff.mp (Option.some.inj eu)⟩
theorem itr_rep {K : PySem.W.Frag} {H : Hp} {α : List Addr} (lo : Int) (n : Nat) : ItRep K (Itr lo n) (.seq ((List.range n).map fun i => U.int (lo + (i : Nat)))) H α := by
  intro H2 α2 L2 g A2 k
  refine ⟨fun u eu => ?_, fun eu => ?_⟩
  · have eu := Option.some.inj eu
    rw [List.getElem?_map] at eu
    by_cases hk : k < n
    · rw [List.getElem?_range hk] at eu
      simp at eu
      refine ⟨hk, ?_⟩
      rintro x H3 ⟨rfl, rfl⟩
      subst eu
      exact ⟨.refl _ _, A2, rfl⟩
    · rw [List.getElem?_eq_none (by simpa using hk)] at eu
      simp at eu
  · have := List.getElem?_eq_none_iff.mp (Option.some.inj eu)
    show n ≤ k
    simpa using this
noncomputable def fSeqI (f : FE) : FI := fun δ L => (f δ L).bind fun p => (iSeqU p.1 p.2).map fun i => (i, p.2)
theorem pif_seq (h : PEF X l fe) : PIF X tg l (fSeqI fe) := by
  refine PI.imp (PI.or (pi_list h) (pi_tup h)) ?_
  rintro σ H R ⟨α, δ, L, A, S, i, L3, e, q⟩
  obtain ⟨⟨u, L1⟩, e1, e⟩ := Option.bind_eq_some_iff.mp e
  obtain ⟨j, e2, e⟩ := Option.map_eq_some_iff.mp e
  cases e
  cases u with
  | tup us =>
    cases e2
    refine .inr ⟨α, δ, L, A, S, _, _, e1, fun x H1 α1 g1 A1 r1 => ?_⟩
    unfold RepU at r1
    obtain ⟨a, xs, rfl, sq, r⟩ := r1
    exact ⟨a, rfl, ⟨xs, sq⟩, q _ H1 α1 g1 A1 (itt_rep sq r)⟩
  | ref n =>
    refine .inl ⟨α, δ, L, A, S, _, _, e1, fun x H1 α1 g1 A1 r1 => ?_⟩
    unfold RepU at r1
    obtain ⟨a, ea, rfl⟩ := r1
    refine ⟨a, rfl, ?_⟩
    unfold iSeqU at e2
    simp only at e2
    cases w : L1[n]? with
    | none => simp only [w] at e2; cases e2
    | some o =>
      have hr := A1.rep n a o ea w
      cases o with
      | lst us => simp only [w] at e2; cases e2; obtain ⟨xs, e, r⟩ := hr; exact ⟨⟨xs, .of e⟩, q _ H1 α1 g1 A1 (itl_rep ea)⟩
      | ro us => simp only [w] at e2; cases e2; obtain ⟨xs, e, r⟩ := hr; exact ⟨⟨xs, e.sq⟩, q _ H1 α1 g1 A1 (itl_rep ea)⟩
      | dic kvs => simp only [w] at e2; cases e2
      | rod kvs => simp only [w] at e2; cases e2
      | ins C fs => simp only [w] at e2; cases e2
  | _ => cases e2
noncomputable def rangeU (lo : Int) (n : Nat) : List U := (List.range n).map fun i => U.int (lo + (i : Nat))
noncomputable def fRng1 (g : FA) : FI := fun δ L => (g δ L).bind fun p => match p.1 with
  | [.int j] => if -(2 ^ 62) ≤ j ∧ j < 2 ^ 62 then some (.seq (rangeU 0 j.toNat), p.2) else none
  | _ => none
noncomputable def fRng2 (g : FA) : FI := fun δ L => (g δ L).bind fun p => match p.1 with
  | [.int i, .int j] => if (-(2 ^ 62) ≤ i ∧ i < 2 ^ 62) ∧ -(2 ^ 62) ≤ j ∧ j < 2 ^ 62 then some (.seq (rangeU i (j - i).toNat), p.2) else none
  | _ => none
theorem RepL.one {K : PySem.W.Frag} {H : Hp} {α : List Addr} {u : U} {xs : List V} (h : RepL K H α [u] xs) : ∃ x, xs = [x] ∧ RepU K H α u x := by
  unfold RepL at h
  obtain ⟨x, r, e, h1, h2⟩ := h
  unfold RepL at h2
  subst h2
  exact ⟨x, e, h1⟩
theorem RepL.two {K : PySem.W.Frag} {H : Hp} {α : List Addr} {u w : U} {xs : List V} (h : RepL K H α [u, w] xs) : ∃ x y, xs = [x, y] ∧ RepU K H α u x ∧ RepU K H α w y := by
  unfold RepL at h
  obtain ⟨x, r, e, h1, h2⟩ := h
  obtain ⟨y, e2, h3⟩ := h2.one
  subst e2
  exact ⟨x, y, e, h1, h3⟩
theorem pif_range1 {a : Expr} {g : FA} {p pos : Pos} (hg : Gl X "range") (hm : X.mg "range" = none) (ha : PAF X [a] g) (hs : starEach [a] X.env = [(false, eval a X.env)] := by rfl) : PIF X tg (.Call (.Name "range" p) [a] [] pos) (fRng1 g) := by
  refine PI.imp (pi_range1 hg hm ha hs) ?_
  rintro σ H R ⟨α, δ, L, A, S, i, L3, e, q⟩
  obtain ⟨⟨us, L1⟩, e1, e⟩ := Option.bind_eq_some_iff.mp e
  refine ⟨α, δ, L, A, S, us, L1, e1, fun xs H1 α1 g1 A1 r1 => ?_⟩
  simp only at e
  split at e
  · rename_i _ j
    split at e
    · rename_i hj
      cases e
      obtain ⟨x, rfl, rx⟩ := r1.one
      unfold RepU at rx
      subst rx
      exact ⟨j, rfl, hj.1, hj.2, q _ H1 α1 g1 A1 (itr_rep 0 _)⟩
    · cases e
  · cases e
noncomputable def loopU (i : IU) (g : FG) (body : FS) : Nat → Nat → UE → UH → Option (Fl × UH)
  | 0, _, _, _ => none
  | m + 1, k, δ, L => match i.at k L with
    | none => none
    | some none => some (.nx δ, L)
    | some (some u) => (g u δ L).bind fun p => (body p.1 p.2).bind fun q => match q.1 with
      | .nx δ' => loopU i g body m (k + 1) δ' q.2
      | .ct δ' => loopU i g body m (k + 1) δ' q.2
      | .bk δ' => some (.nx δ', q.2)
      | .rt w => some (.rt w, q.2)
noncomputable def fFor (fi : FI) (g : FG) (body : FS) : FS := fun δ L => (fi δ L).bind fun p => loopU p.1 g body (p.1.size p.2 + 1) 0 δ p.2
theorem psf_for {body : List Stmt} {fi : FI} {g : FG} {fb : FS} (hp : PassesOwn (model X.prog X.w) X.A X.env X.xe) (hc : X.calm = true) (hi : PIF X tg iter fi) (hg : PGF X tg g) (hb : PSsF X body fb)
    (hs : ∀ x, foldedSetIterable iter X.env x = pure x := by intro _; rfl) : PSF X (.For tg iter body [] pos) (fFor fi g fb) := by
  refine PS.imp (ps_for hp hc hi hg hb hs) ?_
  rintro D σ H ⟨α, δ, L, A, S, fl, L', e, q⟩
  obtain ⟨⟨it, L1⟩, e1, e⟩ := Option.bind_eq_some_iff.mp e
  refine ⟨α, δ, L, A, S, it, L1, e1, fun J H1 α1 g1 A1 hJ => ?_⟩
  refine ⟨fun k m σ2 H2 => ∃ α2 δ2 L2, Gr H1 α1 H2 α2 ∧ Abs X.K H2 α2 L2 ∧ RepS X.K H2 α2 δ2 σ2 ∧ loopU it g fb m k δ2 L2 = some (fl, L') ∧ Post X.K D H2 α2 fl L', ⟨_, α1, δ, L1, .refl _ _, A1, S.mono g1, e, q.from g1⟩, ?_⟩
  rintro k m σ2 H2 ⟨α2, δ2, L2, g2, A2, S2, e2, q2⟩
  cases m with
  | zero => cases e2
  | succ m =>
    obtain ⟨hgo, hstop⟩ := hJ H2 α2 L2 g2 A2 k
    unfold loopU at e2
    cases hat : it.at k L2 with
    | none => rw [hat] at e2; cases e2
    | some o =>
      cases o with
      | none =>
        rw [hat] at e2
        cases e2
        exact .inl ⟨hstop hat, q2 σ2 H2 α2 (.refl _ _) A2 S2⟩
      | some u =>
        rw [hat] at e2
        obtain ⟨go, yld⟩ := hgo u hat
        obtain ⟨⟨δ3, L3⟩, e3, e2⟩ := Option.bind_eq_some_iff.mp e2
        obtain ⟨⟨fl4, L4⟩, e4, e2⟩ := Option.bind_eq_some_iff.mp e2
        refine .inr ⟨go, fun σ5 H5 => ∃ α5 δ5 L5, Gr H1 α1 H5 α5 ∧ Abs X.K H5 α5 L5 ∧ RepS X.K H5 α5 δ5 σ5 ∧ loopU it g fb m (k + 1) δ5 L5 = some (fl, L') ∧ Post X.K D H5 α5 fl L', fun σ5 H5 h5 => ⟨m, Nat.lt_succ_self _, h5⟩, fun x H3 y3 => ?_⟩
        obtain ⟨g3, A3, r3⟩ := yld x H3 y3
        refine ⟨α2, δ2, L2, u, A3, S2.mono g3, r3, δ3, L3, e3, fun σ4 H4 α4 g4 A4 S4 => ⟨α4, δ3, L3, A4, S4, fl4, L4, e4, ?_⟩⟩
        have gA := g2.trans (g3.trans g4)
        have gB := g3.trans g4
        cases fl4 with
        | nx δ5 => exact fun σ5 H5 α5 g5 A5 S5 => ⟨α5, δ5, L4, gA.trans g5, A5, S5, e2, q2.from (gB.trans g5)⟩
        | ct δ5 => exact fun σ5 H5 α5 g5 A5 S5 => ⟨α5, δ5, L4, gA.trans g5, A5, S5, e2, q2.from (gB.trans g5)⟩
        | bk δ5 => cases e2; exact fun σ5 H5 α5 g5 A5 S5 => q2 σ5 H5 α5 (gB.trans g5) A5 S5
        | rt w => cases e2; exact fun v H5 α5 g5 A5 r5 => q2 v H5 α5 (gB.trans g5) A5 r5
noncomputable def whileU (c : FT) (body : FS) : Nat → UE → UH → Option (Fl × UH)
  | 0, _, _ => none
  | m + 1, δ, L => (c δ L).bind fun p => if p.1 = true then (body δ p.2).bind fun q => match q.1 with
      | .nx δ' => whileU c body m δ' q.2
      | .ct δ' => whileU c body m δ' q.2
      | .bk δ' => some (.nx δ', q.2)
      | .rt w => some (.rt w, q.2)
    else some (.nx δ, p.2)
theorem psf_while {c : Expr} {body : List Stmt} {tc : FT} {fb : FS} (n : Nat) (hp : PassesOwn (model X.prog X.w) X.A X.env X.xe) (hc : PTF X c tc) (hb : PSsF X body fb) : PSF X (.While c body [] pos) (whileU tc fb n) := by
  refine PS.imp (ps_while hp hc hb) ?_
  rintro D σ H ⟨α, δ, L, A, S, fl, L', e, q⟩
  refine ⟨fun m σ2 H2 => ∃ α2 δ2 L2, Abs X.K H2 α2 L2 ∧ RepS X.K H2 α2 δ2 σ2 ∧ whileU tc fb m δ2 L2 = some (fl, L') ∧ Post X.K D H2 α2 fl L', ⟨n, α, δ, L, A, S, e, q⟩, ?_⟩
  rintro m σ2 H2 ⟨α2, δ2, L2, A2, S2, e2, q2⟩
  cases m with
  | zero => cases e2
  | succ m =>
    unfold whileU at e2
    obtain ⟨⟨b, L3⟩, e3, e2⟩ := Option.bind_eq_some_iff.mp e2
    refine ⟨α2, δ2, L2, A2, S2, b, L3, e3, fun H3 α3 g3 A3 => ?_⟩
    cases b with
    | false => cases e2; exact iteF (q2 σ2 H3 α3 g3 A3 (S2.mono g3))
    | true =>
      obtain ⟨⟨fl4, L4⟩, e4, e2⟩ := Option.bind_eq_some_iff.mp e2
      refine iteT ⟨fun σ5 H5 => ∃ α5 δ5 L5, Abs X.K H5 α5 L5 ∧ RepS X.K H5 α5 δ5 σ5 ∧ whileU tc fb m δ5 L5 = some (fl, L') ∧ Post X.K D H5 α5 fl L', fun σ5 H5 h5 => ⟨m, Nat.lt_succ_self _, h5⟩, ?_⟩
      refine ⟨α3, δ2, L3, A3, S2.mono g3, fl4, L4, e4, ?_⟩
      cases fl4 with
      | nx δ5 => exact fun σ5 H5 α5 g5 A5 S5 => ⟨α5, δ5, L4, A5, S5, e2, q2.from (g3.trans g5)⟩
      | ct δ5 => exact fun σ5 H5 α5 g5 A5 S5 => ⟨α5, δ5, L4, A5, S5, e2, q2.from (g3.trans g5)⟩
      | bk δ5 => cases e2; exact fun σ5 H5 α5 g5 A5 S5 => q2 σ5 H5 α5 (g3.trans g5) A5 S5
      | rt w => cases e2; exact fun v H5 α5 g5 A5 r5 => q2 v H5 α5 (g3.trans g5) A5 r5
end
noncomputable def fnU (n m : Nat) (body : FS) : FN := fun us L => if us.length = m then (body (us.map some ++ List.replicate (n - us.length) none) L).bind fun p => match p.1 with
  | .rt u => some (u, p.2)
  | .nx _ => some (.non, p.2)
  | _ => none
  else none
section
variable {P : Program} {w : World} {K : PySem.W.Frag} {mg : Str → Option Value} {base : Heap}
theorem Fun.okF {x qual : Str} {st : Stmt} {f : Addr} {fd : FuncData} {N ps : List Str} {k : Nat} {body : FS} (F : Fun K x qual st f fd) (S : FnScope N ps (defScope st))
    (hbody : ∀ (cdv : Value) (A : Around) (outer : List PySem.Env) (s : Shared) (H : Hp) (E : XK), Room k (A.deeper (envOfC qual (defScope st) s.heap.objs.size f cdv)) → PSsF (cxOf CX0 P w K mg base N qual (defScope st) f cdv A outer s H E).nox (defBody st) body) :
    FnOk P w K mg base CX0 (k + 1) f fd ps (spF K ps.length (fnU N.length ps.length body)) := by
  refine F.ok S (fun vs H Q E ⟨α, L, us, A, r, hl, _⟩ => by rw [← r.length]; exact hl) (fun cdv A outer s H vs Q E hr h => ?_)
  obtain ⟨α, L, us, Ab, r, hl, u, L', e, q⟩ := h
  refine ⟨_, hbody cdv A outer s H E hr, ?_⟩
  unfold fnU at e
  rw [if_pos hl] at e
  obtain ⟨⟨fl, L1⟩, e1, e⟩ := Option.bind_eq_some_iff.mp e
  refine ⟨α, _, L, Ab, RepS.start N r, fl, L1, e1, ?_⟩
  cases fl with
  | rt w => cases e; exact q
  | nx δ => cases e; exact fun σ' H' α' g' A' S' => q .non H' α' g' A' rfl
  | bk δ => cases e
  | ct δ => cases e
end
end MR
set_option Elab.async false
set_option linter.all false
set_option maxRecDepth 100000
set_option maxHeartbeats 1000000
namespace MR
open PySem PySem.Spec PyProof.Rows L2
section
variable {K : PySem.W.Frag} {H : Hp} {α : List Addr} {L : UH} {u : U} {x : V}
theorem lstAt_some {n : Nat} {us : List U} (h : lstAt L n = some us) : L[n]? = some (.lst us) := by
  unfold lstAt at h
  split at h
  · rename_i e; cases h; exact e
  · cases h
theorem lstAt_ok {n : Nat} {us : List U} (A : Abs K H α L) (h : lstAt L n = some us) : ∃ a xs, α[n]? = some a ∧ H a = some (.lst xs) ∧ RepL K H α us xs := by
  obtain ⟨a, ea, xs, e, r⟩ := A.addr (lstAt_some h)
  exact ⟨a, xs, ea, e, r⟩
theorem seqAt_ok {n : Nat} {us : List U} (A : Abs K H α L) (h : seqAt L n = some us) : ∃ a xs, α[n]? = some a ∧ SqL K H a xs ∧ RepL K H α us xs := by
  unfold seqAt at h
  split at h
  · rename_i e; cases h
    obtain ⟨a, ea, xs, e, r⟩ := A.addr e
    exact ⟨a, xs, ea, .of e, r⟩
  · rename_i e; cases h
    obtain ⟨a, ea, xs, e, r⟩ := A.addr e
    exact ⟨a, xs, ea, e.sq, r⟩
  · cases h
theorem Abs.setL {n : Nat} {a : Addr} {xs ys : List V} {us ws : List U} (A : Abs K H α L) (h : lstAt L n = some us) (ea : α[n]? = some a) (e : H a = some (.lst xs)) (r : RepL K H α ws ys) :
    Gr H α (upd H a (.lst ys)) α ∧ Abs K (upd H a (.lst ys)) α (L.set n (.lst ws)) := by
  have g : Gr H α (upd H a (.lst ys)) α := ⟨⟨[], by simp⟩, .write e (by exact trivial) _⟩
  obtain ⟨A', _⟩ := A.put (o := .lst ys) (u := .lst ws) ea (lstAt_some h) rfl rfl e (by exact trivial) ⟨ys, upd_same, r.mono g⟩
  exact ⟨g, A'⟩
theorem RepU.ref_of {n : Nat} (A : Abs K H α L) (h : RepU K H α (.ref n) x) : ∃ a, α[n]? = some a ∧ x = .ref a := by unfold RepU at h; exact h
end
noncomputable def semAdd : S2 := fun u w L => match u, w with
  | .int i, .int j => some (.int (i + j), L)
  | .str a, .str b => if small (a.length + b.length) = true then some (.str (a ++ b), L) else none
  | .tup a, .tup b => if a.isEmpty = false ∧ small (a.length + b.length) = true then some (.tup (a ++ b), L) else none
  | .ref n, .ref m => (lstAt L n).bind fun a => (lstAt L m).bind fun b => if small (a.length + b.length) = true then some (.ref L.length, L ++ [.lst (a ++ b)]) else none
  | _, _ => none
noncomputable def rAddA (K : PySem.W.Frag) : R2 := fun x y H Q => rI0 (fun i j => .int (i + j)) x y H Q ∨ (∃ i j, x = .str i ∧ y = .str j ∧ i.length + j.length ≤ sizeLine ∧ Q (.str (i ++ j)) H) ∨ rCatT K x y H Q ∨ rCat x y H Q
theorem op_addA {X : Cx} : OpR X (binaryOp .Add) (rAddA X.K) := op_add.or (op_add_str.or (op_catT.or op_cat))
theorem sem_add {K : PySem.W.Frag} : SemR2 K (rAddA K) semAdd := by
  intro H α L u w x y z L' Q A ru rw e q
  unfold semAdd at e
  split at e
  · cases e
    unfold RepU at ru rw
    exact .inl ⟨_, _, ru, rw, q _ H α (.refl _ _) A rfl⟩
  · split at e
    · rename_i h
      cases e
      unfold RepU at ru rw
      exact .inr (.inl ⟨_, _, ru, rw, small_le h, q _ H α (.refl _ _) A rfl⟩)
    · cases e
  · rename_i a b
    split at e
    · rename_i h
      cases e
      unfold RepU at ru rw
      obtain ⟨p, xs, rfl, s1, r1⟩ := ru
      obtain ⟨p2, ys, rfl, s2, r2⟩ := rw
      have e1 := r1.length
      have e2 := r2.length
      refine .inr (.inr (.inl ⟨p, p2, xs, ys, rfl, rfl, s1, s2, ?_, by rw [← e1, ← e2]; exact small_le h.2, fun hy => ?_, fun hy l hl => ?_⟩))
      · intro hx; subst hx
        cases a with
        | nil => simp at h
        | cons _ _ => simp at e1
      · subst hy
        have hb : b = [] := by
          cases b with
          | nil => rfl
          | cons _ _ => simp at e2
        subst hb
        refine q _ H α (.refl _ _) A ?_
        unfold RepU
        exact ⟨p, xs, rfl, s1, by rw [List.append_nil]; exact r1⟩
      · obtain ⟨g, A', r⟩ := A.tup (r1.append r2) hl
        exact q _ _ α g A' r
    · cases e
  · rename_i n m
    obtain ⟨a, ha, e⟩ := Option.bind_eq_some_iff.mp e
    obtain ⟨b, hb, e⟩ := Option.bind_eq_some_iff.mp e
    split at e
    · rename_i h
      cases e
      obtain ⟨p, xs, e1, h1, r1⟩ := lstAt_ok A ha
      obtain ⟨p2, ys, e2, h2, r2⟩ := lstAt_ok A hb
      obtain ⟨p', e1', rfl⟩ := ru.ref_of A
      obtain ⟨p2', e2', rfl⟩ := rw.ref_of A
      rw [e1] at e1'; cases e1'
      rw [e2] at e2'; cases e2'
      refine .inr (.inr (.inr ⟨p, p2, xs, ys, rfl, rfl, h1, h2, by rw [← r1.length, ← r2.length]; exact small_le h, fun l hl => ?_⟩))
      obtain ⟨g, A', r⟩ := A.lst (r1.append r2) hl
      exact q _ _ _ g A' r
    · cases e
  · cases e
noncomputable def semI (C : Int → Int → Bool) (g : Int → Int → U) : S2 := fun u w L => match u, w with
  | .int i, .int j => if C i j = true then some (g i j, L) else none
  | _, _ => none
theorem sem_I {K : PySem.W.Frag} {C : Int → Int → Prop} {Cb : Int → Int → Bool} {g : Int → Int → V} {g' : Int → Int → U} (hC : ∀ i j, Cb i j = true → C i j) (hg : ∀ i j H α, RepU K H α (g' i j) (g i j)) : SemR2 K (rI C g) (semI Cb g') := by
  intro H α L u w x y z L' Q A ru rw e q
  unfold semI at e
  split at e
  · split at e
    · rename_i h
      cases e
      unfold RepU at ru rw
      exact ⟨_, _, ru, rw, hC _ _ h, q _ H α (.refl _ _) A (hg _ _ _ _)⟩
    · cases e
  · cases e
noncomputable def semI0 (g : Int → Int → U) : S2 := fun u w L => match u, w with
  | .int i, .int j => some (g i j, L)
  | _, _ => none
theorem sem_I0 {K : PySem.W.Frag} {g : Int → Int → V} {g' : Int → Int → U} (hg : ∀ i j H α, RepU K H α (g' i j) (g i j)) : SemR2 K (rI0 g) (semI0 g') := by
  intro H α L u w x y z L' Q A ru rw e q
  unfold semI0 at e
  split at e
  · cases e
    unfold RepU at ru rw
    exact ⟨_, _, ru, rw, q _ H α (.refl _ _) A (hg _ _ _ _)⟩
  · cases e
noncomputable def semSub : S2 := semI0 fun i j => .int (i - j)
theorem sem_sub {K : PySem.W.Frag} : SemR2 K (rI0 fun i j => .int (i - j)) semSub := sem_I0 fun _ _ _ _ => rfl
noncomputable def mulOk (i j : Int) : Bool := (decide (-(2 ^ 64) < i) && decide (i < 2 ^ 64)) || (decide (-(2 ^ 64) < j) && decide (j < 2 ^ 64))
noncomputable def semMul : S2 := fun u w L => match u, w with
  | .int i, .int j => if mulOk i j = true then some (.int (i * j), L) else none
  | .str a, .int j => if a.length ≤ 1000 ∧ -1000 ≤ j ∧ j ≤ 1000 then some (.str (Txt.mul a j), L) else none
  | .ref n, .int k => (lstAt L n).bind fun a => if -1000000 ≤ k ∧ k ≤ 1000000 ∧ small (a.length * k.toNat) = true then some (.ref L.length, L ++ [.lst (List.replicate k.toNat a).flatten]) else none
  | _, _ => none
noncomputable def CDivW (i j : Int) : Prop := 0 < j ∧ j < 1152921504606846976
theorem op_fdivW {X : Cx} : OpR X (binaryOp .FloorDiv) (rI CDivW fun i j => .int (i / j)) := opI fun i j _ _ _ _ _ hc q => by
  have h1 : (0 : Int) < j := hc.1
  have h2 : j < 1152921504606846976 := hc.2
  refine floordiv_int (by omega) (by rw [Int.fdiv_eq_ediv_of_nonneg i (by omega)]; exact q) (.inl (PyProof.noPylong_of_log2 ?_))
  have h3 : j.natAbs.log2 < 60 := (Nat.log2_lt (by omega)).mpr (by omega)
  omega
noncomputable def divOk (i j : Int) : Bool := decide (0 < j) && decide (j < 1152921504606846976)
noncomputable def semDiv : S2 := semI divOk fun i j => .int (i / j)
theorem sem_div {K : PySem.W.Frag} : SemR2 K (rI CDivW fun i j => .int (i / j)) semDiv := sem_I (fun i j h => by simpa [divOk, CDivW] using h) fun _ _ _ _ => rfl
noncomputable def semMod : S2 := semI (fun _ j => decide (0 < j)) fun i j => .int (i % j)
theorem sem_mod {K : PySem.W.Frag} : SemR2 K (rI (fun _ j => 0 < j) fun i j => .int (i % j)) semMod := sem_I (fun i j h => by simpa using h) fun _ _ _ _ => rfl
noncomputable def powOk (i j : Int) : Bool := decide (0 ≤ j) && decide (j ≤ 1000000) && decide (i.natAbs < 2 ^ 64)
noncomputable def semPow : S2 := semI powOk fun i j => .int (i ^ j.toNat)
noncomputable def semLe : S2 := semI0 fun i j => .bl (decide (i ≤ j))
noncomputable def semGt : S2 := semI0 fun i j => .bl (decide (j < i))
noncomputable def semGe : S2 := semI0 fun i j => .bl (decide (j ≤ i))
noncomputable def semLt : S2 := semI0 fun i j => .bl (decide (i < j))
theorem sem_le {K : PySem.W.Frag} : SemR2 K (rI0 fun i j => .bl (decide (i ≤ j))) semLe := sem_I0 fun _ _ _ _ => rfl
theorem sem_gt {K : PySem.W.Frag} : SemR2 K (rI0 fun i j => .bl (decide (j < i))) semGt := sem_I0 fun _ _ _ _ => rfl
theorem sem_ge {K : PySem.W.Frag} : SemR2 K (rI0 fun i j => .bl (decide (j ≤ i))) semGe := sem_I0 fun _ _ _ _ => rfl
theorem sem_lt {K : PySem.W.Frag} : SemR2 K (rI0 fun i j => .bl (decide (i < j))) semLt := sem_I0 fun _ _ _ _ => rfl
noncomputable def mapO {β γ : Type} (f : β → Option γ) : List β → Option (List γ)
  | [] => some []
  | u :: r => (f u).bind fun d => (mapO f r).map fun ds => d :: ds
noncomputable def toP (L : UH) : Nat → U → Option PyData
  | 0, _ => none
  | _ + 1, .non => some .none
  | _ + 1, .bl b => some (.bool b)
  | _ + 1, .int i => some (.int i)
  | _ + 1, .str x => some (.str x)
  | n + 1, .tup l => (mapO (toP L n) l).map .tuple
  | n + 1, .ref k => (seqAt L k).bind fun l => (mapO (toP L n) l).map .list
section
variable {X : Cx} {pins : List (Addr × Obj)} {σ : L2.St} {H : Hp} {s : Shared} {α : List Addr} {L : UH}
theorem toP_all {n : Nat} (ih : ∀ (u : U) (x : V) (v : Value) (d : PyData), RepU X.K H α u x → RelV x v → toP L n u = some d → ∃ as, Reads s.heap v d as) : ∀ (l : List U) (xs : List V) (vs : List Value) (ds : List PyData), RepL X.K H α l xs → Vals xs vs → mapO (toP L n) l = some ds → ∃ as, ReadsAll s.heap vs ds as
  | [], xs, vs, ds, r, hv, e => by
    unfold RepL at r; subst r; cases hv; cases e; exact ⟨_, .nil⟩
  | u :: l, xs, vs, ds, r, hv, e => by
    unfold RepL at r
    obtain ⟨x, xr, rfl, r1, r2⟩ := r
    cases hv with
    | cons h1 h2 =>
      obtain ⟨d, e1, e⟩ := Option.bind_eq_some_iff.mp e
      obtain ⟨dr, e2, e⟩ := Option.map_eq_some_iff.mp e
      subst e
      obtain ⟨as, q1⟩ := ih u x _ d r1 h1 e1
      obtain ⟨bs, q2⟩ := toP_all ih l xr _ dr r2 h2 e2
      exact ⟨_, .cons q1 q2⟩
theorem toP_ok (I : Inv X pins σ H s) (A : Abs X.K H α L) : ∀ (n : Nat) (u : U) (x : V) (v : Value) (d : PyData), RepU X.K H α u x → RelV x v → toP L n u = some d → ∃ as, Reads s.heap v d as
  | 0, _, _, _, _, _, _, e => by cases e
  | n + 1, u, x, v, d, r, hv, e => by
    cases u with
    | non => unfold RepU at r; subst r; cases hv; cases e; exact ⟨_, .none⟩
    | bl b => unfold RepU at r; subst r; cases hv; cases e; exact ⟨_, .bool b⟩
    | int i => unfold RepU at r; subst r; obtain ⟨t, rfl⟩ := hv; cases e; exact ⟨_, .int i t⟩
    | str y => unfold RepU at r; subst r; obtain ⟨t, rfl⟩ := hv; cases e; exact ⟨_, .str y t⟩
    | tup l =>
      unfold RepU at r
      obtain ⟨a, xs, rfl, sq, r⟩ := r
      cases hv
      unfold toP at e
      obtain ⟨ds, e1, e⟩ := Option.map_eq_some_iff.mp e
      subst e
      obtain ⟨its, hv, ⟨o, h1, h2, m, h3⟩, _⟩ := I.tuple sq
      obtain ⟨as, q⟩ := toP_all (toP_ok I A n) l xs its ds r hv e1
      exact ⟨_, .tuple h1 h2 h3 (by simpa using q)⟩
    | ref k =>
      unfold RepU at r
      obtain ⟨a, ea, rfl⟩ := r
      cases hv
      unfold toP at e
      obtain ⟨l, hl, e⟩ := Option.bind_eq_some_iff.mp e
      obtain ⟨ds, e1, e⟩ := Option.map_eq_some_iff.mp e
      subst e
      obtain ⟨a', xs, ea', sq, r⟩ := seqAt_ok A hl
      rw [ea] at ea'; cases ea'
      obtain ⟨its, hv, ⟨o, m, h1, h2, _, h3⟩, _⟩ := I.list sq
      obtain ⟨as, q⟩ := toP_all (toP_ok I A n) l xs its ds r hv e1
      exact ⟨_, .list h1 h2 h3 (by simpa using q)⟩
end
noncomputable def eqP (u w : U) (L : UH) : Option Bool := (toP L 8 u).bind fun d => (toP L 8 w).bind fun e => if SeqAt.shaped d = true ∧ SeqAt.shaped e = true then some (PyData.eqv d e) else none
noncomputable def rEqU (K : PySem.W.Frag) (neg : Bool) : R2 := fun x y H Q => ∃ α L u w b, Abs K H α L ∧ RepU K H α u x ∧ RepU K H α w y ∧ eqP u w L = some b ∧ Q (.bl (if neg then !b else b)) H
theorem op_eqU {X : Cx} (hu : X.A.units + 64 < cLine) : OpR X (compareOp .Eq) (rEqU X.K false) := by
  intro pins s σ H x y v u Q I rx ry h
  obtain ⟨α, L, a, b, k, A, ra, rb, e, q⟩ := h
  obtain ⟨d, e1, e⟩ := Option.bind_eq_some_iff.mp e
  obtain ⟨d2, e2, e⟩ := Option.bind_eq_some_iff.mp e
  split at e
  · rename_i hs
    cases e
    obtain ⟨as, q1⟩ := toP_ok I A 8 a x v d ra rx e1
    obtain ⟨bs, q2⟩ := toP_ok I A 8 b y u d2 rb ry e2
    exact eq_dataH q1 q2 hs.1 hs.2 hu ⟨.bl _, H, I, rfl, q⟩
  · cases e
theorem op_neU {X : Cx} (hu : X.A.units + 64 < cLine) : OpR X (compareOp .NotEq) (rEqU X.K true) := by
  intro pins s σ H x y v u Q I rx ry h
  obtain ⟨α, L, a, b, k, A, ra, rb, e, q⟩ := h
  obtain ⟨d, e1, e⟩ := Option.bind_eq_some_iff.mp e
  obtain ⟨d2, e2, e⟩ := Option.bind_eq_some_iff.mp e
  split at e
  · rename_i hs
    cases e
    obtain ⟨as, q1⟩ := toP_ok I A 8 a x v d ra rx e1
    obtain ⟨bs, q2⟩ := toP_ok I A 8 b y u d2 rb ry e2
    exact ne_dataH q1 q2 hs.1 hs.2 hu ⟨.bl _, H, I, rfl, q⟩
  · cases e
noncomputable def semEq : S2 := fun u w L => (eqP u w L).map fun b => (.bl b, L)
noncomputable def semNe : S2 := fun u w L => (eqP u w L).map fun b => (.bl (!b), L)
theorem sem_eq {K : PySem.W.Frag} : SemR2 K (rEqU K false) semEq := by
  intro H α L u w x y z L' Q A ru rw e q
  obtain ⟨b, e1, e⟩ := Option.map_eq_some_iff.mp e
  cases e
  exact ⟨α, _, u, w, b, A, ru, rw, e1, q _ H α (.refl _ _) A rfl⟩
theorem sem_ne {K : PySem.W.Frag} : SemR2 K (rEqU K true) semNe := by
  intro H α L u w x y z L' Q A ru rw e q
  obtain ⟨b, e1, e⟩ := Option.map_eq_some_iff.mp e
  cases e
  exact ⟨α, _, u, w, b, A, ru, rw, e1, q _ H α (.refl _ _) A rfl⟩
noncomputable def semIs (neg : Bool) : S2 := fun u w L => match u, w with
  | .non, .non => some (.bl (!neg), L)
  | .bl a, .bl b => some (.bl (if neg then !(a == b) else a == b), L)
  | .int _, .non => some (.bl neg, L)
  | .bl _, .non => some (.bl neg, L)
  | .str _, .non => some (.bl neg, L)
  | .tup _, .non => some (.bl neg, L)
  | .ref _, .non => some (.bl neg, L)
  | _, _ => none
noncomputable def isSome : U → Bool
  | .non => false
  | _ => true
noncomputable def rIsU (neg : Bool) : R2 := fun x y H Q => (y = .non ∧ Q (.bl (if neg then !decide (x = .non) else decide (x = .non))) H) ∨ ∃ a b, x = .bl a ∧ y = .bl b ∧ Q (.bl (if neg then !(a == b) else a == b)) H
theorem op_isU {X : Cx} : OpR X (compareOp .Is) (rIsU false) := op_isN.or (by
  intro pins s σ H x y v u Q I rx ry h
  obtain ⟨a, b, rfl, rfl, q⟩ := h
  cases rx; cases ry
  exact is_bool ⟨.bl _, H, I, rfl, q⟩)
theorem sem_is {K : PySem.W.Frag} (neg : Bool) : SemR2 K (rIsU neg) (semIs neg) := by
  intro H α L u w x y z L' Q A ru rw e q
  unfold semIs at e
  have fin : ∀ (k : Bool), x ≠ .non → w = .non → some (U.bl neg, L) = some (z, L') → rIsU neg x y H Q := fun _ hx hw e' => by
    subst hw
    obtain ⟨rfl, rfl⟩ : U.bl neg = z ∧ L = L' := by simpa using e'
    unfold RepU at rw
    subst rw
    refine .inl ⟨rfl, ?_⟩
    rw [decide_eq_false hx]
    have : (if neg = true then !false else false) = neg := by cases neg <;> rfl
    rw [this]
    exact q _ H α (.refl _ _) A rfl
  split at e
  · cases e
    unfold RepU at ru rw
    subst ru; subst rw
    refine .inl ⟨rfl, ?_⟩
    have : (if neg = true then !decide (V.non = V.non) else decide (V.non = V.non)) = !neg := by cases neg <;> simp
    rw [this]
    exact q _ H α (.refl _ _) A rfl
  · cases e
    unfold RepU at ru rw
    exact .inr ⟨_, _, ru, rw, q _ H α (.refl _ _) A rfl⟩
  · unfold RepU at ru; subst ru; exact fin true (fun z => nomatch z) rfl e
  · unfold RepU at ru; subst ru; exact fin true (fun z => nomatch z) rfl e
  · unfold RepU at ru; subst ru; exact fin true (fun z => nomatch z) rfl e
  · unfold RepU at ru; obtain ⟨_, _, rfl, _⟩ := ru; exact fin true (fun z => nomatch z) rfl e
  · unfold RepU at ru; obtain ⟨_, _, rfl⟩ := ru; exact fin true (fun z => nomatch z) rfl e
  · cases e
end MR
set_option Elab.async false
set_option linter.all false
set_option maxRecDepth 100000
set_option maxHeartbeats 1000000
namespace MR
open PySem PySem.Spec PyProof.Rows L2
theorem RepL.atI {K : PySem.W.Frag} {H : Hp} {α : List Addr} {us : List U} {xs : List V} {i : Int} {u : U} (r : RepL K H α us xs) (h : L2.atI us i = some u) : ∃ x, L2.atI xs i = some x ∧ RepU K H α u x := by
  unfold L2.atI at h ⊢
  obtain ⟨j, e1, e2⟩ := Option.bind_eq_some_iff.mp h
  obtain ⟨x, e3, r3⟩ := r.get e2
  exact ⟨x, by rw [← r.length, e1]; exact e3, r3⟩
noncomputable def semIx : S2 := fun u w L => match u, w with
  | .tup l, .int i => (L2.atI l i).map fun z => (z, L)
  | .ref n, .int i => (seqAt L n).bind fun l => (L2.atI l i).map fun z => (z, L)
  | .str x, .int i => if small x.length = true then (L2.atI x.cps.toList i).map fun c => (.str ⟨#[c]⟩, L) else none
  | _, _ => none
theorem sem_ix {K : PySem.W.Frag} : SemR2 K (rIx K) semIx := by
  intro H α L u w x y z L' Q A ru rw e q
  unfold semIx at e
  split at e
  · obtain ⟨c, e1, e⟩ := Option.map_eq_some_iff.mp e
    cases e
    unfold RepU at ru rw
    obtain ⟨a, xs, rfl, sq, r⟩ := ru
    obtain ⟨v, e2, r2⟩ := r.atI e1
    exact .inr (.inl ⟨a, xs, _, v, rfl, rw, sq, e2, q _ H α (.refl _ _) A r2⟩)
  · obtain ⟨l, hl, e⟩ := Option.bind_eq_some_iff.mp e
    obtain ⟨c, e1, e⟩ := Option.map_eq_some_iff.mp e
    cases e
    obtain ⟨a, xs, ea, sq, r⟩ := seqAt_ok A hl
    obtain ⟨a', ea', rfl⟩ := ru.ref_of A
    rw [ea] at ea'; cases ea'
    unfold RepU at rw
    obtain ⟨v, e2, r2⟩ := r.atI e1
    exact .inl ⟨a, xs, _, v, rfl, rw, sq, e2, q _ H α (.refl _ _) A r2⟩
  · split at e
    · rename_i hs
      obtain ⟨c, e1, e⟩ := Option.map_eq_some_iff.mp e
      cases e
      unfold RepU at ru rw
      exact .inr (.inr ⟨_, _, c, ru, rw, small_le hs, e1, q _ H α (.refl _ _) A rfl⟩)
    · cases e
  · cases e
noncomputable def cutU (l : List U) (lo hi : Option Int) : List U := (l.drop (HT.sIx l.length 0 lo)).take (HT.sIx l.length l.length hi - HT.sIx l.length 0 lo)
theorem RepL.cut {K : PySem.W.Frag} {H : Hp} {α : List Addr} {us : List U} {xs : List V} (r : RepL K H α us xs) (lo hi : Option Int) : RepL K H α (cutU us lo hi) (cutV xs lo hi) := by
  unfold cutU cutV
  rw [r.length]
  exact (r.drop _).take _
noncomputable def semSl : SS := fun u lo hi L => match u with
  | .tup l => if HT.sIx l.length 0 lo = 0 ∧ HT.sIx l.length l.length hi = l.length then none else some (.tup (cutU l lo hi), L)
  | .ref n => (seqAt L n).map fun l => (.ref L.length, L ++ [.lst (cutU l lo hi)])
  | _ => none
noncomputable def rSlA (K : PySem.W.Frag) : V → Option Int → Option Int → Hp → VK → Prop := fun x lo hi H Q => rSlT K x lo hi H Q ∨ rSlL K x lo hi H Q
theorem sl_all {X : Cx} : SlR X (rSlA X.K) := sl_tup.or sl_list
theorem sem_sl {K : PySem.W.Frag} : SemSl K (rSlA K) semSl := by
  intro H α L u x lo hi z L' Q A ru e q
  unfold semSl at e
  split at e
  · split at e
    · cases e
    · rename_i hn
      cases e
      unfold RepU at ru
      obtain ⟨a, xs, rfl, sq, r⟩ := ru
      refine .inl ⟨a, xs, rfl, sq, by rw [← r.length]; exact hn, fun p hp => ?_⟩
      obtain ⟨g, A', r'⟩ := A.tup (r.cut lo hi) hp
      exact q _ _ α g A' r'
  · obtain ⟨l, hl, e⟩ := Option.map_eq_some_iff.mp e
    cases e
    obtain ⟨a, xs, ea, sq, r⟩ := seqAt_ok A hl
    obtain ⟨a', ea', rfl⟩ := ru.ref_of A
    rw [ea] at ea'; cases ea'
    refine .inr ⟨a, xs, rfl, sq, fun p hp => ?_⟩
    obtain ⟨g, A', r'⟩ := A.lst (r.cut lo hi) hp
    exact q _ _ _ g A' r'
  · cases e
noncomputable def toV : U → Option V
  | .non => some .non
  | .bl b => some (.bl b)
  | .int i => some (.int i)
  | .str x => some (.str x)
  | _ => none
theorem toV_ok {K : PySem.W.Frag} {H : Hp} {α : List Addr} {u : U} {x y : V} (r : RepU K H α u x) (h : toV u = some y) : x = y ∧ flatV y = true := by
  cases u <;> simp only [toV] at h <;> first
    | (cases h; unfold RepU at r; exact ⟨r, rfl⟩)
    | cases h
theorem toVs_ok {K : PySem.W.Frag} {H : Hp} {α : List Addr} : ∀ {us : List U} {xs ys : List V}, RepL K H α us xs → mapO toV us = some ys → xs = ys ∧ ys.all flatV = true
  | [], xs, ys, r, h => by unfold RepL at r; subst r; cases h; exact ⟨rfl, rfl⟩
  | u :: us, xs, ys, r, h => by
    unfold RepL at r
    obtain ⟨x, xr, rfl, r1, r2⟩ := r
    obtain ⟨y, e1, h⟩ := Option.bind_eq_some_iff.mp h
    obtain ⟨yr, e2, h⟩ := Option.map_eq_some_iff.mp h
    subst h
    obtain ⟨rfl, h1⟩ := toV_ok r1 e1
    obtain ⟨rfl, h2⟩ := toVs_ok r2 e2
    exact ⟨rfl, by simp [h1, h2]⟩
noncomputable def semIn (neg : Bool) : S2 := fun u w L => match w with
  | .tup l => (toV u).bind fun x => (mapO toV l).map fun xs => (.bl (if neg then !inV x xs else inV x xs), L)
  | .ref n => (seqAt L n).bind fun l => (toV u).bind fun x => (mapO toV l).map fun xs => (.bl (if neg then !inV x xs else inV x xs), L)
  | .str j => match u with
    | .str i => some (.bl (if neg then !(!(Builtin.Str.occurrences j i 0 j.length 1).isEmpty) else !(Builtin.Str.occurrences j i 0 j.length 1).isEmpty), L)
    | _ => none
  | _ => none
noncomputable def rInA (K : PySem.W.Frag) (neg : Bool) : R2 := fun x y H Q => rIn K neg x y H Q ∨ ∃ i j, x = .str i ∧ y = .str j ∧ Q (.bl (if neg then !(!(Builtin.Str.occurrences j i 0 j.length 1).isEmpty) else !(Builtin.Str.occurrences j i 0 j.length 1).isEmpty)) H
theorem op_inA {X : Cx} : OpR X (compareOp .In) (rInA X.K false) := op_in_seq.or op_in_str
theorem sem_in {K : PySem.W.Frag} (neg : Bool) : SemR2 K (rInA K neg) (semIn neg) := by
  intro H α L u w x y z L' Q A ru rw e q
  unfold semIn at e
  split at e
  · obtain ⟨x', e1, e⟩ := Option.bind_eq_some_iff.mp e
    obtain ⟨xs, e2, e⟩ := Option.map_eq_some_iff.mp e
    cases e
    unfold RepU at rw
    obtain ⟨a, ys, rfl, sq, r⟩ := rw
    obtain ⟨rfl, f1⟩ := toV_ok ru e1
    obtain ⟨rfl, f2⟩ := toVs_ok r e2
    exact .inl ⟨a, ys, rfl, .inr sq, f1, f2, q _ H α (.refl _ _) A rfl⟩
  · obtain ⟨l, hl, e⟩ := Option.bind_eq_some_iff.mp e
    obtain ⟨x', e1, e⟩ := Option.bind_eq_some_iff.mp e
    obtain ⟨xs, e2, e⟩ := Option.map_eq_some_iff.mp e
    cases e
    obtain ⟨a, ys, ea, sq, r⟩ := seqAt_ok A hl
    obtain ⟨a', ea', rfl⟩ := rw.ref_of A
    rw [ea] at ea'; cases ea'
    obtain ⟨rfl, f1⟩ := toV_ok ru e1
    obtain ⟨rfl, f2⟩ := toVs_ok r e2
    exact .inl ⟨a, ys, rfl, .inl sq, f1, f2, q _ H α (.refl _ _) A rfl⟩
  · split at e
    · cases e
      unfold RepU at ru rw
      exact .inr ⟨_, _, ru, rw, q _ H α (.refl _ _) A rfl⟩
    · cases e
  · cases e
noncomputable def lenU (u : U) (L : UH) : Option Nat := match u with
  | .str y => if small y.length = true then some y.length else none
  | .tup l => some l.length
  | .ref n => (seqAt L n).map List.length
  | _ => none
noncomputable def semLen : SC := fun us L => match us with
  | [u] => (lenU u L).map fun (n : Nat) => (U.int (n : Int), L)
  | _ => none
theorem sem_len {K : PySem.W.Frag} : SemC K (fun xs H Q => ∃ x n, xs = [x] ∧ LenV K x H n ∧ Q (.int n) H) semLen := by
  intro H α L us xs z L' Q A r e q
  unfold semLen at e
  split at e
  · rename_i u
    obtain ⟨n, e1, e⟩ := Option.map_eq_some_iff.mp e
    cases e
    obtain ⟨x, rfl, rx⟩ := r.one
    refine ⟨x, n, rfl, ?_, q _ H α (.refl _ _) A rfl⟩
    cases u with
    | str y =>
      unfold lenU at e1
      simp only at e1
      split at e1
      · rename_i hs; cases e1; unfold RepU at rx; subst rx; exact ⟨small_le hs, rfl⟩
      · cases e1
    | tup l =>
      cases e1
      unfold RepU at rx
      obtain ⟨a, ys, rfl, sq, r2⟩ := rx
      exact .inr ⟨ys, sq, r2.length⟩
    | ref k =>
      obtain ⟨l, hl, e2⟩ := Option.map_eq_some_iff.mp e1
      subst e2
      obtain ⟨a, ys, ea, sq, r2⟩ := seqAt_ok A hl
      obtain ⟨a', ea', rfl⟩ := rx.ref_of A
      rw [ea] at ea'; cases ea'
      exact .inl ⟨ys, sq, r2.length⟩
    | _ => cases e1
  · cases e
noncomputable def toI : U → Option Int
  | .int i => some i
  | _ => none
theorem toIs_ok {K : PySem.W.Frag} {H : Hp} {α : List Addr} : ∀ {us : List U} {xs : List V} {ns : List Int}, RepL K H α us xs → mapO toI us = some ns → xs = ns.map V.int
  | [], xs, ys, r, h => by unfold RepL at r; subst r; cases h; rfl
  | u :: us, xs, ys, r, h => by
    unfold RepL at r
    obtain ⟨x, xr, rfl, r1, r2⟩ := r
    obtain ⟨y, e1, h⟩ := Option.bind_eq_some_iff.mp h
    obtain ⟨yr, e2, h⟩ := Option.map_eq_some_iff.mp h
    subst h
    cases u <;> simp only [toI] at e1 <;> first
      | (cases e1; unfold RepU at r1; subst r1; rw [toIs_ok r2 e2]; rfl)
      | cases e1
noncomputable def maxI : List Int → Int
  | [] => 0
  | [a] => a
  | a :: r => max a (maxI r)
theorem maxI_is : ∀ (ns : List Int) (M : Int), M ∈ ns → (∀ a, a ∈ ns → a ≤ M) → maxI ns = M
  | [], M, h, _ => by cases h
  | [a], M, h, _ => by simp at h; exact h.symm
  | a :: b :: r, M, h, hm => by
    show max a (maxI (b :: r)) = M
    by_cases hb : M ∈ b :: r
    · rw [maxI_is (b :: r) M hb fun c hc => hm c (List.mem_cons_of_mem _ hc)]
      have := hm a (List.mem_cons_self ..)
      omega
    · rcases List.mem_cons.mp h with rfl | h
      · have hle : ∀ (l : List Int), l ≠ [] → (∀ c, c ∈ l → c ≤ M) → maxI l ≤ M := by
          intro l
          induction l with
          | nil => intro h; exact absurd rfl h
          | cons c t ih =>
            intro _ hc
            cases t with
            | nil => exact hc c (List.mem_cons_self ..)
            | cons d t =>
              have h1 := hc c (List.mem_cons_self ..)
              have h2 := ih (by simp) fun e he => hc e (List.mem_cons_of_mem _ he)
              show max c (maxI (d :: t)) ≤ M
              omega
        have := hle (b :: r) (by simp) fun c hc => hm c (List.mem_cons_of_mem _ hc)
        omega
      · exact absurd h hb
section
variable {X : Cx}
theorem call_sumL (hc : X.calm = true) : CallR X (.builtin "sum") (fun xs H Q => ∃ (p : Addr) (ns : List Int), xs = [.ref p] ∧ SqL X.K H p (ns.map V.int) ∧ Q (.int ns.sum) H) := by
  intro pins s σ H xs us Q I r h
  obtain ⟨p, ns, rfl, hq, q⟩ := h
  obtain ⟨u, rfl, rx⟩ := vals1 r
  cases rx
  obtain ⟨its, r', pl, hz⟩ := I.list hq
  have hi : IntsAre its ns := intsAre_of r'
  obtain ⟨m, F⟩ := I.fr
  obtain ⟨xs, hx⟩ := hi.allInts.items
  have hl' : s.heap.IsList p (intItems xs) := hx ▸ pl.isList
  refine sum_intListG (I.ok.hd hc) hl' fun h' tk t' hk => ?_
  have e1 : ns = xs.toList.map (·.1) := by
    rw [← nums_intItems, ← hx]
    exact (show numsOf its.toArray.toList = ns from hi.numsOf).symm
  have e2 : preSum (numAt xs) xs.size = ns.sum := by
    rw [preSum_eq, List.take_of_length_le (by simp), e1]
  rw [e2]
  exact ⟨.int ns.sum, H, I.kept hk, ⟨_, rfl⟩, q⟩
theorem call_sumT (hc : X.calm = true) : CallR X (.builtin "sum") (fun xs H Q => ∃ (p : Addr) (ns : List Int), xs = [.ref p] ∧ SqT X.K H p (ns.map V.int) ∧ Q (.int ns.sum) H) := by
  intro pins s σ H xs us Q I r h
  obtain ⟨p, ns, rfl, hq, q⟩ := h
  obtain ⟨u, rfl, rx⟩ := vals1 r
  cases rx
  obtain ⟨its, r', pl, hz⟩ := I.tuple hq
  have hi : IntsAre its ns := intsAre_of r'
  obtain ⟨xs, hx⟩ := hi.allInts.items
  have hl' : s.heap.IsTuple p (intItems xs) := hx ▸ pl
  refine PySem.W.ktm_sumG (I.ok.hd hc) hl' fun h' tk t' hk => ?_
  have e1 : ns = xs.toList.map (·.1) := by
    rw [← nums_intItems, ← hx]
    exact (show numsOf its.toArray.toList = ns from hi.numsOf).symm
  have e2 : preSum (numAt xs) xs.size = ns.sum := by
    rw [preSum_eq, List.take_of_length_le (by simp), e1]
  rw [e2]
  exact ⟨.int ns.sum, H, I.kept hk, ⟨_, rfl⟩, q⟩
theorem call_sumA (hc : X.calm = true) : CallR X (.builtin "sum") (fun xs H Q => (∃ (p : Addr) (ns : List Int), xs = [.ref p] ∧ SqL X.K H p (ns.map V.int) ∧ Q (.int ns.sum) H) ∨ ∃ (p : Addr) (ns : List Int), xs = [.ref p] ∧ SqT X.K H p (ns.map V.int) ∧ Q (.int ns.sum) H) := (call_sumL hc).or (call_sumT hc)
theorem call_maxL (hc : X.calm = true) : CallR X (.builtin "max") (fun xs H Q => ∃ (p : Addr) (ns : List Int), xs = [.ref p] ∧ SqL X.K H p (ns.map V.int) ∧ 0 < ns.length ∧ Q (.int (maxI ns)) H) := by
  intro pins s σ H xs us Q I r h
  obtain ⟨p, ns, rfl, hq, hne, q⟩ := h
  obtain ⟨u, rfl, rx⟩ := vals1 r
  cases rx
  obtain ⟨its, r', pl, hz⟩ := I.list hq
  have hi : IntsAre its ns := intsAre_of r'
  obtain ⟨xs, e⟩ := hi.allInts.items
  have hns : ns = xs.toList.map (·.1) := by rw [← hi.numsOf, ← nums_intItems, ← e]
  have hsz : 0 < xs.size := by
    have h3 := hne; rw [hns, List.length_map, Array.length_toList] at h3; exact h3
  have hl' : s.heap.IsList p (intItems xs) := e ▸ pl.isList
  refine max_intList (I.ok.hd hc) hl' hsz fun v h' tk hv hk => ?_
  obtain ⟨t, rfl⟩ := intItems_at hv
  obtain ⟨h1, h2⟩ := argBest_gt (numAt xs) (xs.size - 1)
  have hM := maxI_is ns (numAt xs (argBest (fun i j => decide (numAt xs i > numAt xs j)) (xs.size - 1))) (by rw [hns, numAt_eq]; exact getD_mem (by rw [List.length_map, Array.length_toList]; omega)) (fun a ha => by
    rw [hns] at ha
    obtain ⟨j, hj, rfl⟩ := mem_getD ha
    rw [List.length_map, Array.length_toList] at hj
    rw [← numAt_eq]; exact h2 j (by omega))
  rw [hM] at q
  exact ⟨.int _, H, I.kept hk, ⟨_, rfl⟩, q⟩
end
noncomputable def semSum : SC := fun us L => match us with
  | [.ref n] => (seqAt L n).bind fun l => (mapO toI l).map fun ns => (.int ns.sum, L)
  | [.tup l] => (mapO toI l).map fun ns => (.int ns.sum, L)
  | _ => none
theorem refs_at {K : PySem.W.Frag} {H : Hp} {α : List Addr} {L : UH} {n : Nat} {l : List U} {x : V} (A : Abs K H α L) (hl : seqAt L n = some l) (rx : RepU K H α (.ref n) x) : ∃ a ys, x = .ref a ∧ SqL K H a ys ∧ RepL K H α l ys := by
  obtain ⟨a, ys, ea, sq, r2⟩ := seqAt_ok A hl
  obtain ⟨a', ea', rfl⟩ := rx.ref_of A
  rw [ea] at ea'; cases ea'
  exact ⟨a, ys, rfl, sq, r2⟩
theorem sem_sum {K : PySem.W.Frag} : SemC K (fun xs H Q => (∃ (p : Addr) (ns : List Int), xs = [.ref p] ∧ SqL K H p (ns.map V.int) ∧ Q (.int ns.sum) H) ∨ ∃ (p : Addr) (ns : List Int), xs = [.ref p] ∧ SqT K H p (ns.map V.int) ∧ Q (.int ns.sum) H) semSum := by
  intro H α L us xs z L' Q A r e q
  unfold semSum at e
  split at e
  · obtain ⟨l, hl, e⟩ := Option.bind_eq_some_iff.mp e
    obtain ⟨ns, e1, e⟩ := Option.map_eq_some_iff.mp e
    cases e
    obtain ⟨x, rfl, rx⟩ := r.one
    obtain ⟨a, ys, rfl, sq, r2⟩ := refs_at A hl rx
    rw [toIs_ok r2 e1] at sq
    exact .inl ⟨a, ns, rfl, sq, q _ H α (.refl _ _) A rfl⟩
  · obtain ⟨ns, e1, e⟩ := Option.map_eq_some_iff.mp e
    cases e
    obtain ⟨x, rfl, rx⟩ := r.one
    unfold RepU at rx
    obtain ⟨a, ys, rfl, sq, r2⟩ := rx
    rw [toIs_ok r2 e1] at sq
    exact .inr ⟨a, ns, rfl, sq, q _ H α (.refl _ _) A rfl⟩
  · cases e
noncomputable def semMM (g2 : Int → Int → Int) (gl : List Int → Int) : SC := fun us L => match us with
  | [.int i, .int j] => some (.int (g2 i j), L)
  | [.ref n] => (seqAt L n).bind fun l => (mapO toI l).bind fun ns => if ns.isEmpty = true then none else some (.int (gl ns), L)
  | _ => none
noncomputable def semMax : SC := semMM (fun i j => if j > i then j else i) maxI
theorem sem_MM {K : PySem.W.Frag} {g2 : Int → Int → Int} {gl : List Int → Int} : SemC K (fun xs H Q => (∃ i j, xs = [.int i, .int j] ∧ Q (.int (g2 i j)) H) ∨ ∃ (p : Addr) (ns : List Int), xs = [.ref p] ∧ SqL K H p (ns.map V.int) ∧ 0 < ns.length ∧ Q (.int (gl ns)) H) (semMM g2 gl) := by
  intro H α L us xs z L' Q A r e q
  unfold semMM at e
  split at e
  · cases e
    obtain ⟨x, y, rfl, rx, ry⟩ := r.two
    unfold RepU at rx ry
    exact .inl ⟨_, _, by rw [rx, ry], q _ H α (.refl _ _) A rfl⟩
  · obtain ⟨l, hl, e⟩ := Option.bind_eq_some_iff.mp e
    obtain ⟨ns, e1, e⟩ := Option.bind_eq_some_iff.mp e
    split at e
    · cases e
    · rename_i hne
      cases e
      obtain ⟨x, rfl, rx⟩ := r.one
      obtain ⟨a, ys, rfl, sq, r2⟩ := refs_at A hl rx
      rw [toIs_ok r2 e1] at sq
      exact .inr ⟨a, ns, rfl, sq, by cases ns <;> simp_all, q _ H α (.refl _ _) A rfl⟩
  · cases e
theorem call_maxA {X : Cx} (hc : X.calm = true) : CallR X (.builtin "max") (fun xs H Q => (∃ i j, xs = [.int i, .int j] ∧ Q (.int (if j > i then j else i)) H) ∨ ∃ (p : Addr) (ns : List Int), xs = [.ref p] ∧ SqL X.K H p (ns.map V.int) ∧ 0 < ns.length ∧ Q (.int (maxI ns)) H) := (call_max2 hc).or (call_maxL hc)
theorem sem_max {K : PySem.W.Frag} : SemC K (fun xs H Q => (∃ i j, xs = [.int i, .int j] ∧ Q (.int (if j > i then j else i)) H) ∨ ∃ (p : Addr) (ns : List Int), xs = [.ref p] ∧ SqL K H p (ns.map V.int) ∧ 0 < ns.length ∧ Q (.int (maxI ns)) H) semMax := sem_MM
noncomputable def semTuple : SC := fun us L => match us with
  | [.ref n] => (seqAt L n).map fun l => (.tup l, L)
  | [.tup l] => some (.tup l, L)
  | _ => none
theorem sem_tuple {K : PySem.W.Frag} : SemC K (fun xs H Q => ∃ p ys, xs = [.ref p] ∧ ((SqL K H p ys ∧ ∀ l, H l = none → Q (.ref l) (upd H l (.tup ys))) ∨ (SqT K H p ys ∧ Q (.ref p) H))) semTuple := by
  intro H α L us xs z L' Q A r e q
  unfold semTuple at e
  split at e
  · obtain ⟨l, hl, e⟩ := Option.map_eq_some_iff.mp e
    cases e
    obtain ⟨x, rfl, rx⟩ := r.one
    obtain ⟨a, ys, rfl, sq, r2⟩ := refs_at A hl rx
    refine ⟨a, ys, rfl, .inl ⟨sq, fun p hp => ?_⟩⟩
    obtain ⟨g, A', r'⟩ := A.tup r2 hp
    exact q _ _ _ g A' r'
  · cases e
    obtain ⟨x, rfl, rx⟩ := r.one
    have rx' := rx
    unfold RepU at rx
    obtain ⟨a, ys, rfl, sq, r2⟩ := rx
    exact ⟨a, ys, rfl, .inr ⟨sq, q _ H α (.refl _ _) A rx'⟩⟩
  · cases e
noncomputable def semAppend : SM := fun u us L => match u, us with
  | .ref n, [y] => (lstAt L n).bind fun l => if decide (l.length < sizeLine) = true then some (.non, L.set n (.lst (l ++ [y]))) else none
  | _, _ => none
theorem ref_lst {K : PySem.W.Frag} {H : Hp} {α : List Addr} {L : UH} {n : Nat} {l : List U} {x : V} (A : Abs K H α L) (hl : lstAt L n = some l) (rx : RepU K H α (.ref n) x) : ∃ a ys, x = .ref a ∧ α[n]? = some a ∧ H a = some (.lst ys) ∧ RepL K H α l ys := by
  obtain ⟨a, ys, ea, sq, r2⟩ := lstAt_ok A hl
  obtain ⟨a', ea', rfl⟩ := rx.ref_of A
  rw [ea] at ea'; cases ea'
  exact ⟨a, ys, rfl, ea, sq, r2⟩
theorem sem_append {K : PySem.W.Frag} : SemM K rAppend semAppend := by
  intro H α L u us x xs z L' Q A ru r e q
  unfold semAppend at e
  split at e
  · obtain ⟨l, hl, e⟩ := Option.bind_eq_some_iff.mp e
    split at e
    · rename_i hs
      cases e
      obtain ⟨y, rfl, ry⟩ := r.one
      obtain ⟨a, ys, rfl, ea, h, r2⟩ := ref_lst A hl ru
      obtain ⟨g, A'⟩ := A.setL hl ea h (r2.append (.cons ry .nil))
      exact ⟨a, ys, y, rfl, rfl, h, by rw [← r2.length]; exact of_decide_eq_true hs, q _ _ _ g A' rfl⟩
    · cases e
  · cases e
noncomputable def semPop : SM := fun u us L => match u, us with
  | .ref n, [.int i] => (lstAt L n).bind fun l => if -(2 ^ 63) ≤ i ∧ i < 2 ^ 63 then (seqIndex? i l.length).bind fun k => (l[k]?).map fun y => (y, L.set n (.lst (l.eraseIdx k))) else none
  | _, _ => none
theorem sem_pop {K : PySem.W.Frag} : SemM K rPopAt semPop := by
  intro H α L u us x xs z L' Q A ru r e q
  unfold semPop at e
  split at e
  · obtain ⟨l, hl, e⟩ := Option.bind_eq_some_iff.mp e
    split at e
    · rename_i hs
      obtain ⟨k, ek, e⟩ := Option.bind_eq_some_iff.mp e
      obtain ⟨y, ey, e⟩ := Option.map_eq_some_iff.mp e
      cases e
      obtain ⟨v, rfl, rv⟩ := r.one
      unfold RepU at rv
      subst rv
      obtain ⟨a, ys, rfl, ea, h, r2⟩ := ref_lst A hl ru
      obtain ⟨w, ew, rw⟩ := r2.get ey
      obtain ⟨g, A'⟩ := A.setL hl ea h (r2.erase k)
      exact ⟨a, ys, _, k, w, rfl, rfl, h, hs.1, hs.2, by rw [← r2.length]; exact ek, ew, q _ _ _ g A' (rw.mono g)⟩
    · cases e
  · cases e
noncomputable def gSub (fo fi : FE) : FG := fun v δ L => (fo δ L).bind fun p => (fi δ p.2).bind fun q => match p.1, q.1 with
  | .ref n, .int k => (lstAt q.2 n).bind fun l => (ixN l.length k).map fun j => (δ, q.2.set n (.lst (l.set j v)))
  | _, _ => none
end MR
set_option Elab.async false
set_option linter.all false
set_option maxRecDepth 100000
set_option maxHeartbeats 1000000
namespace MR
open PySem PySem.Spec PyProof.Rows L2
noncomputable def tyName (u : U) (L : UH) : Option String := match u with
  | .non => some "NoneType"
  | .bl _ => some "bool"
  | .int _ => some "int"
  | .str _ => some "str"
  | .tup _ => some "tuple"
  | .ref n => match L[n]? with
    | some (.lst _) => some "list"
    | some (.ro _) => some "list"
    | some (.dic _) => some "dict"
    | _ => none
noncomputable def isT (t c : String) : Bool := t == c || (t == "bool" && c == "int")
noncomputable def fIsi (c : String) (f : FE) : FE := fun δ L => (f δ L).bind fun p => (tyName p.1 p.2).map fun t => (.bl (isT t c), p.2)
end MR
namespace MR
open PySem PySem.Spec PyProof.Rows L2
theorem law_sp {K : PySem.W.Frag} {F : FN} {H : Hp} {a : Addr} {ns : List Int} {E : XK} (ho : Only H) (hS : SqL K H a (ns.map V.int)) (h : ∃ L', F [.ref 0] [.ro (ns.map U.int)] = some (.bl true, L')) : spF K 1 F [.ref a] H (fun v _ => v = .bl true) E := by
  obtain ⟨L', e⟩ := h
  have ro : RO K H a (ns.map V.int) := by
    rcases hS with (q | ⟨o, q⟩) | q
    · rcases ho a with z | ⟨o, xs, z⟩
      · rw [z] at q; cases q
      · rw [z] at q; cases q
    · exact .inl ⟨o, q⟩
    · exact .inr q
  refine ⟨[a], [.ro (ns.map U.int)], [.ref 0], ⟨rfl, fun i j b o o' e1 e2 e3 e4 => ?_, fun i b o e1 e2 => ?_⟩, .cons ?_ .nil, rfl, .bl true, L', e, fun v H' α' _ _ r => r⟩
  · cases i with
    | zero => cases j with
      | zero => exact .inl rfl
      | succ j => simp at e2
    | succ i => simp at e1
  · cases i with
    | zero => simp at e1 e2; subst e1; subst e2; exact ⟨_, ro, RepL.ints ns⟩
    | succ i => simp at e1
  · unfold RepU; exact ⟨a, rfl, rfl⟩
end MR
set_option Elab.async false
set_option linter.all false
set_option maxRecDepth 100000
set_option maxHeartbeats 2000000
namespace MR
open PySem PySem.Spec PyProof.Rows L2
theorem closure_of (env : PySem.Env) : ∀ (names : List (Str × NameKind)) (cs : List (Str × Addr)), (∀ y ∈ names, y.2 = .free → ∃ c, env.cells.lookup y.1 = some c) → (∀ x c, cs.lookup x = some c → env.cells.lookup x = some c) →
    ∃ cl : List (Str × Addr), (forIn names cs fun (x : Str × NameKind) r => if (x.2 == NameKind.free) = true then do let c ← cellOf env x.1; pure (ForInStep.yield ((x.1, c) :: r)) else pure (ForInStep.yield r) : Sem (List (Str × Addr))) = pure cl ∧
      (∀ x c, cl.lookup x = some c → env.cells.lookup x = some c) ∧ (∀ y ∈ names, y.2 = .free → ∃ c, cl.lookup y.1 = some c) ∧ ∀ x, (∃ c, cs.lookup x = some c) → ∃ c, cl.lookup x = some c
  | [], cs, _, h2 => ⟨cs, rfl, h2, (fun _ h => nomatch h), fun _ h => h⟩
  | (n, k) :: r, cs, h1, h2 => by
    cases hk : k == NameKind.free with
    | true =>
      have hk' : k = .free := by simpa using hk
      obtain ⟨c, hc⟩ := h1 (n, k) (List.mem_cons_self ..) hk'
      have look : ∀ x c', List.lookup x ((n, c) :: cs) = some c' → env.cells.lookup x = some c' := fun x c' e => by
        rw [List.lookup_cons] at e
        cases hx : x == n with
        | true => rw [hx] at e; simp at e; subst e; have : x = n := by simpa using hx
                  rw [this]; exact hc
        | false => rw [hx] at e; exact h2 x c' e
      obtain ⟨cl, e, p1, p2, p3⟩ := closure_of env r ((n, c) :: cs) (fun y hy => h1 y (List.mem_cons_of_mem _ hy)) look
      refine ⟨cl, ?_, p1, fun y hy hf => ?_, fun x hx => ?_⟩
      · rw [List.forIn_cons]
        have e0 : (cellOf env n : Sem Addr) = pure c := by unfold cellOf; rw [hc]
        simp only [hk, if_true, e0]
        exact e
      · rcases List.mem_cons.mp hy with rfl | hy
        · exact p3 n ⟨c, by simp⟩
        · exact p2 y hy hf
      · refine p3 x ?_
        rw [List.lookup_cons]
        cases hx' : x == n with
        | true => exact ⟨c, rfl⟩
        | false => exact hx
    | false =>
      obtain ⟨cl, e, p1, p2, p3⟩ := closure_of env r cs (fun y hy => h1 y (List.mem_cons_of_mem _ hy)) h2
      refine ⟨cl, ?_, p1, fun y hy hf => ?_, p3⟩
      · rw [List.forIn_cons]
        simp only [hk, Bool.false_eq_true, if_false]
        exact e
      · rcases List.mem_cons.mp hy with rfl | hy
        · rw [show k = NameKind.free from hf] at hk; cases hk
        · exact p2 y hy hf
theorem closureFor_ex {scope : Scope} {env : PySem.Env} (h : ∀ y ∈ scope.names, y.2 = .free → ∃ c, env.cells.lookup y.1 = some c) :
    ∃ cl, closureFor scope env = pure cl ∧ (∀ x c, cl.lookup x = some c → env.cells.lookup x = some c) ∧ ∀ y ∈ scope.names, y.2 = .free → ∃ c, cl.lookup y.1 = some c := by
  obtain ⟨cl, e, p1, p2, _⟩ := closure_of env scope.names [] h (fun x c e => by simp at e)
  refine ⟨cl, ?_, p1, p2⟩
  unfold closureFor
  show (forIn scope.names [] _ >>= fun cs => pure cs) = pure cl
  have : (forIn scope.names ([] : List (Str × Addr)) (fun (x : Str × NameKind) (r : List (Str × Addr)) => if (x.2 == NameKind.free) = true then do let c ← cellOf env x.1; pure (ForInStep.yield ((x.1, c) :: r)) else pure (ForInStep.yield r)) : Sem (List (Str × Addr))) >>= (fun cs => pure cs) = pure cl := by rw [e]; rfl
  exact this
end MR
set_option Elab.async false
set_option linter.all false
set_option maxRecDepth 100000
set_option maxHeartbeats 4000000
namespace MR
open PySem PySem.Spec PyProof.Rows L2
noncomputable def blk (X : Cx) (scope : Scope) (cl : List (Str × Addr)) (C : Addr) (N' : List Str) (s2 : Shared) (H2 : Hp) (fp : List Addr) (pins : List (Addr × Obj)) : Cx :=
  { X with env := compEnvC scope cl C X.env, N := N', s₀ := s2, H₀ := H2, outer := X.stack, ex := fp, fn := fun _ => false, pn := X.pn ++ pins, xe := fun _ _ => False }
theorem HOk.adopt {P : Program} {w : World} {H : Hp} {h : Heap} {a : Addr} {o : HO} (x : HOk P w H h) (hn : H a = none) (new : ObjOk P w (upd H a o) h a o) : HOk P w (upd H a o) h := fun b u e => by
  by_cases hb : b = a
  · subst hb; rw [upd_same] at e; cases e; exact new
  · rw [upd_ne hb] at e
    exact (x b u e).stay (fun c v _ q => q) (fun c q => by rw [upd_ne (ne_of_none q hn)]; exact q) fun c xs q => by rw [upd_ne (ne_of_none q hn)]; exact q
theorem Un.adopt {fs ex : List Addr} {H H1 : Hp} {h h1 : Heap} {a : Addr} {o : HO} (u : Un fs ex H H1 h h1) (hn : H1 a = none) (ha : h.get? a = none) : Un fs ex H (upd H1 a o) h h1 where
  keep := u.keep
  slot := u.slot
  free := fun b ob q n hx => by
    have : b ≠ a := fun z => by rw [z, ha] at q; cases q
    rw [upd_ne this]; exact u.free b ob q n hx
  there := u.there
  tups := fun b xs q => by have q' := u.tups b xs q; rw [upd_ne (ne_of_none q' hn)]; exact q'
  frzs := fun b ob xs q => by have q' := u.frzs b ob xs q; rw [upd_ne (ne_of_none q' hn)]; exact q'
  tbls := fun b ps q => by
    obtain ⟨m, q'⟩ := u.tbls b ps q
    exact ⟨m, by rw [upd_ne (ne_of_none q' hn)]; exact q'⟩
structure CompSc (X : Cx) (scope : Scope) (N' : List Str) (ix : List (Option Nat)) : Prop where
  kind : scope.kind = .function
  cell : (scope.names.all fun y => y.2 != .cell) = true
  loc : (scope.names.all fun y => y.2 != .local || scope.names.lookup y.1 == some .local) = true
  free : (scope.names.all fun y => y.2 != .free || (X.env.kindOf y.1 == some .cell || X.env.kindOf y.1 == some .free)) = true
  ixs : ((N'.zip ix).all fun p => match p.2 with | none => true | some i => (X.N[i]? == some p.1) && (scope.names.lookup p.1 == some .free)) = true
  len : N'.length = ix.length
noncomputable def inner (ix : List (Option Nat)) (σ : L2.St) : L2.St := ix.map fun o => o.bind fun i => (σ[i]?).join
noncomputable def CLoop (J : It) (g : TG) (tt : TT) (te : TE) (σ' : L2.St) (H : Hp) (Fin : List V → Hp → Prop) : Prop := ∃ W : Nat → Nat → List V → L2.St → Hp → Prop, (∃ m, W 0 m [] σ' H) ∧ ∀ i m acc σ1 H1, W i m acc σ1 H1 →
  (J.stop i H1 ∧ Fin acc H1) ∨ (J.go i H1 ∧ ∀ x H3, J.yld i H1 x H3 → g x σ1 H3 fun σ2 H4 => tt σ2 H4 fun b H5 =>
    if b = true then te σ2 H5 fun y H6 => acc.length < sizeLine ∧ ∃ m', m' < m ∧ W (i + 1) m' (acc ++ [y]) σ2 H6 else ∃ m', m' < m ∧ W (i + 1) m' acc σ2 H5)
section
variable {X : Cx} {scope : Scope} {N' : List Str} {ix : List (Option Nat)} {pins : List (Addr × Obj)} {σ : L2.St} {H2 : Hp} {s2 : Shared} {cl : List (Str × Addr)} {fp : List Addr}
theorem lookup_mem {β : Type} {x : Str} {v : β} : ∀ {l : List (Str × β)}, l.lookup x = some v → (x, v) ∈ l
  | [], h => by simp at h
  | (n, k) :: r, h => by
    rw [List.lookup_cons] at h
    cases hx : x == n with
    | true => rw [hx] at h; simp at h; have : x = n := by simpa using hx
              subst this; subst h; exact List.mem_cons_self ..
    | false => rw [hx] at h; exact List.mem_cons_of_mem _ (lookup_mem h)
theorem lookup_relabel {env : PySem.Env} {x : Str} : ∀ {names : List (Str × NameKind)} {k : NameKind}, (names.map fun (n, k) => if (k == NameKind.free && env.scope.kind == .function && env.kindOf n == some .cell) then (n, NameKind.cell) else (n, k)).lookup x = some k →
    names.lookup x = some k ∨ (names.lookup x = some .free ∧ k = .cell)
  | [], k, h => by simp at h
  | (n, k') :: r, k, h => by
    have ih := @lookup_relabel env x r k
    rw [List.map_cons] at h
    cases hx : x == n with
    | true =>
      rw [List.lookup_cons, hx]
      simp only at h ⊢
      split at h
      · rename_i hc
        rw [List.lookup_cons, hx] at h
        simp at h
        simp only [Bool.and_eq_true] at hc
        have : k' = .free := by simpa using hc.1.1
        subst this
        exact .inr ⟨rfl, h.symm⟩
      · rw [List.lookup_cons, hx] at h
        exact .inl h
    | false =>
      rw [List.lookup_cons, hx]
      simp only at h ⊢
      split at h
      · rw [List.lookup_cons, hx] at h; exact ih h
      · rw [List.lookup_cons, hx] at h; exact ih h
theorem lookup_relabel_free {env : PySem.Env} {x : Str} : ∀ {names : List (Str × NameKind)}, names.lookup x = some .free →
    (names.map fun (n, k) => if (k == NameKind.free && env.scope.kind == .function && env.kindOf n == some .cell) then (n, NameKind.cell) else (n, k)).lookup x = some .free ∨ (names.map fun (n, k) => if (k == NameKind.free && env.scope.kind == .function && env.kindOf n == some .cell) then (n, NameKind.cell) else (n, k)).lookup x = some .cell
  | [], h => by simp at h
  | (n, k') :: r, h => by
    have ih := @lookup_relabel_free env x r
    rw [List.map_cons]
    cases hx : x == n with
    | true =>
      rw [List.lookup_cons, hx] at h
      simp at h
      subst h
      simp only
      split
      · right; rw [List.lookup_cons, hx]
      · left; rw [List.lookup_cons, hx]
    | false =>
      rw [List.lookup_cons, hx] at h
      have := ih h
      simp only
      split
      · rw [List.lookup_cons, hx]; exact this
      · rw [List.lookup_cons, hx]; exact this
theorem blk_start (S : CompSc X scope N' ix) (hcalm : X.calm = true) (I2 : Inv X pins σ H2 s2) (hcl : ∀ x c, cl.lookup x = some c → X.env.cells.lookup x = some c) (hcl2 : ∀ y ∈ scope.names, y.2 = .free → ∃ c, cl.lookup y.1 = some c)
    (f2 : ∀ b ∈ fp, FpOk X pins H2 b) (hfp : ∀ b ∈ fp, b < s2.heap.objs.size) {C : Addr} {h4 : Heap} {m : Str → Option Value} {t4 : Nat} (hC : s2.heap.objs.size ≤ C) (hns : h4.Ns C m) (keep : ∀ b o, s2.heap.get? b = some o → h4.get? b = some o) :
    Inv (blk X scope cl C N' s2 H2 fp pins) [] (inner ix σ) H2 { s2 with heap := h4, toks := t4 } := by
  have hkindC : (relabel scope X.env).kind = .function := S.kind
  have ok : (blk X scope cl C N' s2 H2 fp pins).Ok :=
    { mod := I2.ok.mod
      kind := hkindC
      glob := I2.ok.glob
      blt := I2.ok.blt
      above := hC
      inj := fun x y c e1 e2 => I2.ok.inj x y c (hcl x c e1) (hcl y c e2)
      has := fun x h => by
        have h' : (relabel scope X.env).names.lookup x = some .cell ∨ (relabel scope X.env).names.lookup x = some .free := h
        have hfree : scope.names.lookup x = some .free := by
          rcases h' with h' | h'
          · rcases lookup_relabel h' with q | ⟨q, _⟩
            · have := List.all_eq_true.mp S.cell _ (lookup_mem q)
              simp at this
            · exact q
          · rcases lookup_relabel h' with q | ⟨q, z⟩
            · exact q
            · cases z
        exact hcl2 _ (lookup_mem hfree) rfl
      cab := fun x c h => by cases h
      hd := fun _ => I2.ok.hd hcalm
      frames := I2.ok.frames
      stk := .inl rfl
      exf := fun b hb => ⟨Nat.ne_of_lt (Nat.lt_of_lt_of_le (hfp b hb) hC), fun x c e => (f2 b hb).2.2.2.2.1 x c (hcl x c e)⟩
      bs := fun b o e => I2.bs b o e
      bsz := Nat.le_trans I2.ok.bsz I2.sz
      noex := fun b o e hb => by
        rcases (f2 b hb).2.2.2.1 with z | z
        · exact I2.ok.noex b o e z
        · exact absurd (Nat.lt_of_lt_of_le (Heap.lt_size (I2.ok.bs b o e).1) z) (Nat.lt_irrefl _)
      exfs := fun b hb z => by
        rcases List.mem_cons.mp (I2.stkSub b z) with q | q
        · exact (f2 b hb).2.1 q
        · exact (f2 b hb).2.2.1 q
      funs := I2.stack
      frf := I2.stkFree }
  obtain ⟨m0, hn0, hl0⟩ := id I2.loc
  refine ⟨ok, rfl, I2.bare, Un.kept keep, ⟨m, hns, fun j x v e1 e2 e3 => ?_⟩, fun x c e => ?_, I2.hok.fresh hC, fun x c e => I2.freeC x c (hcl x c e), fun p hp => ?_, I2.hok.kept keep, ?_⟩
  · -- a name that the block takes along
    have e1' : N'[j]? = some x := e1
    have e2' : (inner ix σ)[j]? = some (some v) := e2
    unfold inner at e2'
    rw [List.getElem?_map] at e2'
    cases hx : ix[j]? with
    | none => rw [hx] at e2'; simp at e2'
    | some o =>
      rw [hx] at e2'
      cases o with
      | none => simp at e2'
      | some i =>
        simp at e2'
        have hz : (x, some i) ∈ N'.zip ix := List.mem_of_getElem? (i := j) (by rw [List.getElem?_zip_eq_some]; exact ⟨e1', hx⟩)
        have hz' := List.all_eq_true.mp S.ixs _ hz
        simp only [Bool.and_eq_true, beq_iff_eq] at hz'
        obtain ⟨hXN, hfr⟩ := hz'
        have hσ : σ[i]? = some (some v) := by
          cases q : σ[i]? with
          | none => rw [q] at e2'; simp at e2'
          | some o => rw [q] at e2'; simp at e2'; rw [e2']
        have hk := List.all_eq_true.mp S.free _ (lookup_mem hfr)
        simp at hk
        have hvis : Vis X.env.scope x := by
          rcases hk with q | q
          · exact .inr (.inl q)
          · exact .inr (.inr q)
        obtain ⟨u, r, look⟩ := hl0 i x v hXN hσ hvis
        rcases look with ⟨q, _⟩ | ⟨_, c, ec, hc⟩
        · rcases hk with z | z
          · rw [z] at q; cases q
          · rw [z] at q; cases q
        · obtain ⟨c', ec'⟩ := hcl2 _ (lookup_mem hfr) rfl
          have : c' = c := by have := hcl x c' ec'; rw [ec] at this; cases this; rfl
          subst this
          refine ⟨u, r, .inr ⟨?_, c', ec', ?_⟩⟩
          · rcases lookup_relabel_free (env := X.env) hfr with q | q
            · exact .inr q
            · exact .inl q
          · obtain ⟨oc, ho, hd⟩ := hc
            exact ⟨oc, keep _ _ ho, hd⟩
  · obtain ⟨v, oc, ho, hd⟩ := I2.cell x c (hcl x c e)
    exact ⟨v, oc, keep _ _ ho, hd⟩
  · have hp' : p ∈ X.pn ++ pins := by simpa [blk] using hp
    obtain ⟨q1, q2, q3, q4, q5⟩ := I2.pin p hp'
    refine ⟨keep _ _ q1, q2, Nat.ne_of_lt (Nat.lt_of_lt_of_le (Heap.lt_size q1) hC), fun z => ?_, q5⟩
    rcases List.mem_cons.mp (I2.stkSub p.1 z) with q | q
    · exact q3 q
    · exact q4 q
  · show (inner ix σ).length = N'.length
    rw [S.len]; simp [inner]
end
end MR
set_option Elab.async false
set_option linter.all false
set_option maxRecDepth 100000
set_option maxHeartbeats 4000000
namespace MR
open PySem PySem.Spec PyProof.Rows L2
section
variable {X : Cx} {scope : Scope} {N' : List Str} {ix : List (Option Nat)} {pins : List (Addr × Obj)} {σ : L2.St} {H2 : Hp} {s2 : Shared} {cl : List (Str × Addr)} {fp : List Addr}
noncomputable def Tests (X' : Cx) (ifs : List Expr) (tt : TT) : Prop := ∀ (pins : List (Addr × Obj)) (s : Shared) (σ : L2.St) (H : Hp) (Q : Bool → Hp → Prop) (E : Value → Shared → Prop), Inv X' pins σ H s → tt σ H Q → (∀ e s, X'.xe e s → E e s) →
  wpAny (model X'.prog X'.w) X'.A (forIn ifs true fun c r => if r = true then do let ok ← isTrue c X'.env (eval c X'.env); pure (ForInStep.yield ok) else pure (ForInStep.yield r)) (TP X' pins σ Q) E s
noncomputable def tYes : TT := fun _ H Q => Q true H
theorem tests_nil {X' : Cx} : Tests X' [] tYes := fun pins s σ H Q E I h _ => wpAny_tests_nil ⟨H, I, h⟩
theorem tests_one {X' : Cx} {c : Expr} {tt : TT} (h : PT X' c tt) : Tests X' [c] tt := fun pins s σ H Q E I q hE => wpAny_tests_one (wpAny_mono (h pins s σ H Q I q) (fun _ _ z => z) hE)
noncomputable def accObj (its : List Value) (n : Nat) : Obj := { cls := .type "list", data := .seq its.toArray n }
theorem comp_loop {elt tg iter : Expr} {ifs : List Expr} {pos : Pos} {it D C : Addr} {J : It} {tn : Nat → Heap → Prop} {g : TG} {tt : TT} {te : TE} {Fin : List V → Hp → Prop} {R : Result → Shared → Prop} {X' : Cx}
    (hX : X'.A = X.A ∧ X'.prog = X.prog ∧ X'.w = X.w ∧ X'.K = X.K ∧ X'.calm = true ∧ ∀ e s, ¬ X'.xe e s) (T : Turn X.prog X.w X.K tg J fp it tn) (hg : PG X' tg g) (ht : Tests X' ifs tt) (he : PE X' elt te)
    (hD1 : s2.heap.objs.size ≤ D) (hDC : D ≠ C) (hC : s2.heap.objs.size ≤ C) (hfp : ∀ b ∈ fp, FpOk X' [] H2 b ∧ b ≠ D) (hDf : ∀ H, H D = none → FpOk X' [] H D)
    {s : Shared} {σ1 : L2.St} {H1 : Hp} {n0 : Nat} (I : Inv X' [(D, accObj [] n0)] σ1 H1 s) (st : tn 0 s.heap) (fr : ∀ b ∈ fp, H1 b = none) (hloop : CLoop J g tt te σ1 H1 Fin)
    (hR : ∀ (s' : Shared) (σ' : L2.St) (H' : Hp) (acc : List V) (its : List Value) (n : Nat), Inv X' [(D, accObj its n)] σ' H' s' → Vals acc its → acc.length ≤ sizeLine → Fin acc H' → R (.ok .next) s') :
    codeAny (model X.prog X.w) X.A (.compLoop (.ListComp elt [⟨tg, iter, ifs, 0⟩] scope pos) 0 (.ref it) (.ref D) X'.env) R s := by
  obtain ⟨W, ⟨m0, w0⟩, turn⟩ := hloop
  obtain ⟨hXA, hXp, hXw, hXK, hXc, hxe⟩ := hX
  have hfpo : ∀ (o : Obj) (H : Hp), (∀ b ∈ fp, H b = none) → ∀ b ∈ fp, FpOk X' [(D, o)] H b := fun o H hn b hb => by
    obtain ⟨⟨_, q1, q2, q3, q4, q5⟩, q6⟩ := hfp b hb
    refine ⟨hn b hb, q1, q2, q3, q4, fun p hp => ?_⟩
    rcases List.mem_append.mp hp with z | z
    · exact q5 p (List.mem_append_left _ z)
    · have : p = (D, o) := by simpa using z
      rw [this]; exact fun z => q6 z.symm
  refine codeAny_loop rfl (fun n s => ∃ i acc its k σ1 H1, Inv X' [(D, accObj its k)] σ1 H1 s ∧ Vals acc its ∧ acc.length ≤ sizeLine ∧ tn i s.heap ∧ (∀ b ∈ fp, H1 b = none) ∧ W i n acc σ1 H1) (fun n s hI => ?_) m0 ⟨0, [], [], n0, σ1, H1, I, .nil, Nat.zero_le _, st, fr, w0⟩
  show wpAny _ X.A ((compTurn (.ListComp elt [⟨tg, iter, ifs, 0⟩] scope pos) 0 (.ref it) (.ref D) X'.env).onRaise (fun x => do noteFrame x X'.env; theTreesLotGoes x)) _ _ s
  refine wpAny_noted ?_
  rw [compTurn_list]
  obtain ⟨i, acc, its, k, σ1, H1, I, hv, hz, st, fr, w1⟩ := hI
  refine wpAny_bind (wpAny_standAt (wpAny_bind ?_))
  rcases turn i n acc σ1 H1 w1 with ⟨stop, fin⟩ | ⟨go, step⟩
  · have h := T.done X' hXp hXw hXK hXc i _ s σ1 H1 (notedBy (model X.prog X.w) X.A X'.env fun e s' => R (.error e) s') I (hfpo _ H1 fr) st stop
    rw [hXA] at h
    refine thn h fun r s4 ⟨hr, I4⟩ => ?_
    subst hr
    exact wpAny_pure (hR s4 σ1 H1 acc its k I4 hv hz fin)
  · have h := T.item X' hXp hXw hXK hXc i _ s σ1 H1 (notedBy (model X.prog X.w) X.A X'.env fun e s' => R (.error e) s') I (hfpo _ H1 fr) st go
    rw [hXA] at h
    refine thn h fun r s4 ⟨u, hr, h4⟩ => ?_
    subst hr
    refine wpAny_bind (thn h4 fun _ s5 ⟨x, H5, I5, r5, y5, st5, fr5⟩ => ?_)
    have I5' := I5.pinned (hfpo _ H5 fr5) (T.obj _ _ st5)
    have hg5 := hg _ s5 σ1 H5 x u _ I5' r5 (step x H5 y5)
    rw [hXp, hXw, hXA] at hg5
    refine wpAny_bind (wpAny_mono hg5 (fun _ s6 ⟨σ6, H6, I6, q6⟩ => ?_) fun e s z => absurd z (hxe e s))
    have ht6 := ht _ s6 σ6 H6 _ (notedBy (model X.prog X.w) X.A X'.env fun e s' => R (.error e) s') I6 q6 (fun e s z => absurd z (hxe e s))
    rw [hXp, hXw, hXA] at ht6
    refine wpAny_bind (thn ht6 fun b s7 ⟨H7, I7, q7⟩ => ?_)
    have back : ∀ {σ8 : L2.St} {H8 : Hp} {s8 : Shared}, Inv X' ([(D, accObj its k)] ++ pinsAt fp s5.heap) σ8 H8 s8 → tn (i + 1) s8.heap ∧ (∀ b ∈ fp, H8 b = none) ∧ s8.heap.get? D = some (accObj its k) ∧ H8 D = none := fun {σ8 H8 s8} I8 => by
      refine ⟨T.keep _ _ _ st5 fun b hb o e => (I8.pin (b, o) (List.mem_append_right _ (List.mem_append_right _ (mem_pinsAt hb e)))).1, fun b hb => ?_, ?_, ?_⟩
      · obtain ⟨o, e, d⟩ := T.obj _ _ st5 b hb
        exact (I8.pin (b, o) (List.mem_append_right _ (List.mem_append_right _ (mem_pinsAt hb e)))).2.1
      · exact (I8.pin (D, accObj its k) (List.mem_append_right _ (List.mem_append_left _ (List.mem_singleton.mpr rfl)))).1
      · exact (I8.pin (D, accObj its k) (List.mem_append_right _ (List.mem_append_left _ (List.mem_singleton.mpr rfl)))).2.1
    cases b with
    | false =>
      obtain ⟨m', hm, w8⟩ := (q7 : if false = true then _ else _)
      obtain ⟨st8, fr8, _, _⟩ := back I7
      refine wpAny_pure ⟨rfl, m', hm, i + 1, acc, its, k, σ6, H7, ?_, hv, hz, st8, fr8, w8⟩
      exact I7.pins_of fun p hp => I7.pin p (List.mem_append_right _ (List.mem_append_left _ hp))
    | true =>
      have q7' : te σ6 H7 fun y H6 => acc.length < sizeLine ∧ ∃ m', m' < n ∧ W (i + 1) m' (acc ++ [y]) σ6 H6 := q7
      have he7 := he _ s7 σ6 H7 _ I7 q7'
      rw [hXp, hXw, hXA] at he7
      refine wpAny_bind (wpAny_bind (wpAny_mono he7 (fun y s8 ⟨v, H8, I8, r8, hlt, m', hm, w8⟩ => ?_) fun e s z => absurd z (hxe e s)))
      obtain ⟨st8, fr8, hDo, hDn⟩ := back I8
      have hlen := hv.length
      have hisl : s8.heap.IsList D its.toArray := ⟨_, hDo, rfl, k, rfl⟩
      refine wpAny_bind ?_
      obtain ⟨k', hd'⟩ : ∃ k', Obj.mapSeq (·.push y) (accObj its k) = accObj (its ++ [y]) k' := ⟨_, by simp [accObj, Obj.mapSeq]; rfl⟩
      refine wpAny_call_entry slot_list_append hisl.typeIs entry_list_append ?_ (args_list_append _ _)
      show wpAny _ _ (updateSeq D (·.push y) >>= fun _ => ret .none) _ _ s8
      refine wpAny_bind (wpAny_updateSeq hDo rfl (wpAny_pure ⟨.none, rfl, ?_⟩))
      have hk9 : ∀ b o, b ≠ D → s8.heap.get? b = some o → (s8.heap.update D (Obj.mapSeq (·.push y))).get? b = some o := fun b o hb e => (Heap.SameBut.update (h := s8.heap) (a := D) ..).2 b hb |>.trans e
      have hD9 : (s8.heap.update D (Obj.mapSeq (·.push y))).get? D = some (accObj (its ++ [y]) k') := by
        rw [← hd']; exact Heap.get?_update_self _ hDo (by rw [hd']; exact Obj.isFreed_of_seq (xs := (its ++ [y]).toArray) (n := k') rfl)
      have I8' : Inv X' [] σ6 H8 s8 := I8.pins_of fun p hp => by cases hp
      obtain ⟨d0, d1, d2, d3, d4, d5⟩ := hDf H8 hDn
      have I9 : Inv X' [] σ6 H8 { s8 with heap := s8.heap.update D (Obj.mapSeq (·.push y)) } := I8'.turned (t' := s8.toks) hk9 hDn d1 d3 d4 d5
      have I10 := I9.pins_of (pins' := [(D, accObj (its ++ [y]) k')]) fun p hp => by
        have : p = (D, accObj (its ++ [y]) k') := by simpa using hp
        subst this
        exact ⟨hD9, hDn, d1, d2, fun v z => by simp [accObj] at z⟩
      refine wpAny_pure (wpAny_pure ⟨rfl, m', hm, i + 1, acc ++ [v], its ++ [y], k', σ6, H8, I10, Vals.append hv (.cons r8 .nil), by rw [List.length_append]; simp; omega, ?_, fr8, w8⟩)
      refine T.keep _ _ _ st8 fun b hb o e => hk9 b o (hfp b hb).2 e
end
end MR
set_option Elab.async false
set_option linter.all false
set_option maxRecDepth 100000
set_option maxHeartbeats 4000000
namespace MR
open PySem PySem.Spec PyProof.Rows L2
section
variable {X : Cx} {scope : Scope} {N' : List Str} {ix : List (Option Nat)}
noncomputable def tComp (ix : List (Option Nat)) (wi : TI) (g : TG) (tt : TT) (te : TE) : TE := fun σ H Q => wi σ H fun J H1 => CLoop J g tt te (inner ix σ) H1 fun acc H2 => ∀ p, H2 p = none → Q (.ref p) (upd H2 p (.lst acc))
theorem comp_core {elt tg iter : Expr} {ifs : List Expr} {pos : Pos} {g : TG} {tt : TT} {te : TE} {pins : List (Addr × Obj)} {σ : L2.St} {H2 : Hp} {s2 : Shared} {cl : List (Str × Addr)} {fp : List Addr} {it : Addr} {J : It} {tn : Nat → Heap → Prop} {E : Value → Shared → Prop} {Fin : List V → Hp → Prop} {RR : Value → Addr → Result → Shared → Prop}
    (S : CompSc X scope N' ix) (hcalm : X.calm = true) (hcl : ∀ x c, cl.lookup x = some c → X.env.cells.lookup x = some c) (hcl2 : ∀ y ∈ scope.names, y.2 = .free → ∃ c, cl.lookup y.1 = some c)
    (hg : ∀ C, PG (blk X scope cl C N' s2 H2 fp pins) tg g) (ht : ∀ C, Tests (blk X scope cl C N' s2 H2 fp pins) ifs tt) (he : ∀ C, PE (blk X scope cl C N' s2 H2 fp pins) elt te)
    (I2 : Inv X pins σ H2 s2) (T : Turn X.prog X.w X.K tg J fp it tn) (st2 : tn 0 s2.heap) (f2 : ∀ b ∈ fp, FpOk X pins H2 b) (hloop : CLoop J g tt te (inner ix σ) H2 Fin)
    (hRR : ∀ (D C : Addr) (s' : Shared) (H' : Hp) (acc : List V), Inv X pins σ (upd H' D (.lst acc)) s' → H' D = none → (∃ m, s'.heap.Ns C m) → (upd H' D (.lst acc)) C = none → FpOk X pins (upd H' D (.lst acc)) C → Fin acc H' → RR (.ref D) C (.ok .next) s') :
    wpAny (model X.prog X.w) X.A (newList []) (fun acc s₃ => wpAny (model X.prog X.w) X.A (newFunctionEnv scope X.env.globals cl [] X.env.qual none .none (some X.env)) (fun cenv s₄ =>
      codeAny (model X.prog X.w) X.A (.compStart (.ListComp elt [⟨tg, iter, ifs, 0⟩] scope pos) 0 (.ref it) acc { cenv with scope := relabel scope X.env }) (RR acc cenv.locals) s₄) E s₃) E s2 := by
  have hcell : ∀ y ∈ scope.names, y.2 ≠ .cell := fun y hy z => by
    have := List.all_eq_true.mp S.cell y hy
    rw [z] at this; simp at this
  refine wpAny_newObj_type (wpAny_newFunctionEnv hcell (by intro y hy; simp at hy) (fun h₁ hns₁ hsb₁ => ?_) S.kind)
  dsimp only at hns₁ hsb₁ ⊢
  generalize hH2 : s2.heap.push { cls := .type "list", dict := none, data := .seq ([] : List Value).toArray } = HP at hns₁ hsb₁ ⊢
  have hCs : HP.objs.size = s2.heap.objs.size + 1 := by rw [← hH2, Heap.size_push]
  have hDC : s2.heap.objs.size ≠ HP.objs.size := by rw [hCs]; exact Nat.ne_of_lt (Nat.lt_succ_self _)
  have hCle : s2.heap.objs.size ≤ HP.objs.size := by rw [hCs]; exact Nat.le_succ _
  have old : ∀ b o, s2.heap.get? b = some o → h₁.get? b = some o := fun b o e => hsb₁.extBut b o (Nat.ne_of_lt (Nat.lt_of_lt_of_le (Heap.lt_size e) hCle)) (Heap.get?_push_of_some _ (hH2 ▸ Heap.get?_push_of_some _ e))
  have hacc : h₁.get? s2.heap.objs.size = some (accObj [] 0) := hsb₁.extBut _ _ hDC (Heap.get?_push_of_some _ (hH2 ▸ Heap.get?_push_size _ rfl))
  have hfp : ∀ b ∈ fp, b < s2.heap.objs.size := fun b hb => by
    obtain ⟨o, e, _⟩ := T.obj _ _ st2 b hb
    exact Heap.lt_size e
  generalize hDg : s2.heap.objs.size = D at hDC hacc
  generalize hCg : HP.objs.size = C at *
  have hDle : s2.heap.objs.size ≤ D := Nat.le_of_eq hDg
  have hD2 : s2.heap.get? D = none := by
    cases q : s2.heap.get? D with
    | none => rfl
    | some o => exact absurd (Nat.lt_of_lt_of_le (Heap.lt_size q) hDle) (Nat.lt_irrefl _)
  have I4 := blk_start (t4 := s2.toks + ([] : List (Str × Value)).length) S hcalm I2 hcl hcl2 f2 hfp hCle hns₁ old
  have above : ∀ a, s2.heap.objs.size ≤ a → a ∉ frs X.stack ∧ (∀ x c, X.env.cells.lookup x = some c → c ≠ a) ∧ (∀ p ∈ X.pn ++ pins, p.1 ≠ a) ∧ a ≠ X.env.locals := fun a ha => by
    refine ⟨fun z => ?_, fun x c e z => ?_, fun p hp z => ?_, ?_⟩
    · rcases List.mem_cons.mp (I2.stkSub a z) with q | q
      · exact absurd (Nat.lt_of_lt_of_le I2.lt (q ▸ ha)) (Nat.lt_irrefl _)
      · exact I2.nofs ha q
    · obtain ⟨v, q⟩ := I2.cell x c e
      exact absurd (Nat.lt_of_lt_of_le q.lt (z ▸ ha)) (Nat.lt_irrefl _)
    · exact absurd (Nat.lt_of_lt_of_le (Heap.lt_size (I2.pin p hp).1) (z ▸ ha)) (Nat.lt_irrefl _)
    · intro z; exact absurd (Nat.lt_of_lt_of_le I2.lt (z ▸ ha)) (Nat.lt_irrefl _)
  have hfpX : ∀ b ∈ fp, FpOk (blk X scope cl C N' s2 H2 fp pins) [] H2 b ∧ b ≠ D := fun b hb => by
    obtain ⟨q0, q1, q2, q3, q4, q5⟩ := f2 b hb
    have hlt := hfp b hb
    refine ⟨⟨q0, Nat.ne_of_lt (Nat.lt_of_lt_of_le hlt hCle), fun z => ?_, .inl hb, fun x c e => q4 x c (hcl x c e), fun p hp => q5 p (by simpa [blk] using hp)⟩, Nat.ne_of_lt (Nat.lt_of_lt_of_le hlt hDle)⟩
    rcases List.mem_cons.mp (I2.stkSub b z) with q | q
    · exact q1 q
    · exact q2 q
  have hDf : ∀ H : Hp, H D = none → FpOk (blk X scope cl C N' s2 H2 fp pins) [] H D := fun H hn => by
    obtain ⟨a1, a2, a3, a4⟩ := above D hDle
    exact ⟨hn, hDC, a1, .inr hDle, fun x c e => a2 x c (hcl x c e), fun p hp => a3 p (by simpa [blk] using hp)⟩
  have hDn2 : H2 D = none := I2.hok.fresh hDle
  have I5 : Inv (blk X scope cl C N' s2 H2 fp pins) [(D, accObj [] 0)] (inner ix σ) H2 { s2 with heap := h₁, toks := s2.toks + ([] : List (Str × Value)).length } := I4.pins_of fun p hp => by
    have : p = (D, accObj [] 0) := by simpa using hp
    subst this
    obtain ⟨_, d1, d2, _⟩ := hDf H2 hDn2
    exact ⟨hacc, hDn2, d1, d2, fun v z => by simp [accObj] at z⟩
  have st5 : tn 0 h₁ := T.keep _ _ _ st2 fun b _ o e => old b o e
  have loop : codeAny (model X.prog X.w) X.A (.compLoop (.ListComp elt [⟨tg, iter, ifs, 0⟩] scope pos) 0 (.ref it) (.ref D) (blk X scope cl C N' s2 H2 fp pins).env) (RR (.ref D) C) { s2 with heap := h₁, toks := s2.toks + ([] : List (Str × Value)).length } := by
    refine comp_loop (X' := blk X scope cl C N' s2 H2 fp pins) ⟨rfl, rfl, rfl, rfl, hcalm, fun _ _ z => z⟩ T (hg C) (ht C) (he C) hDle hDC hCle hfpX hDf I5 st5 (fun b hb => (f2 b hb).1) hloop ?_
    intro s' σ' H' acc its n I hv hz fin
    obtain ⟨hDo, hDn, _⟩ := I.pin (D, accObj its n) (List.mem_append_right _ (List.mem_singleton.mpr rfl))
    have hbase : Un (frs X.stack) fp H2 H' s2.heap s'.heap := I.base
    have hok : HOk X.prog X.w (upd H' D (.lst acc)) s'.heap := HOk.adopt I.hok hDn ⟨hz, its, n, hv, hDo⟩
    have IX : Inv X pins σ (upd H' D (.lst acc)) s' := I2.call' I.os (Un.adopt hbase hDn hD2) hok I.bare fun b hb => ⟨(f2 b hb).2.2.2.1, (f2 b hb).2.1, (f2 b hb).2.2.2.2.1, (f2 b hb).2.2.2.2.2⟩
    obtain ⟨m, hm, _⟩ := I.loc
    have hCn : (upd H' D (.lst acc)) C = none := by rw [upd_ne (Ne.symm hDC)]; exact I.free
    obtain ⟨a1, a2, a3, a4⟩ := above C hCle
    refine hRR D C s' H' acc IX hDn ⟨m, hm⟩ hCn ⟨hCn, a4, fun z => ?_, .inr (Nat.le_trans I2.sz hCle), a2, a3⟩ fin
    exact I2.nofs hCle z
  have e1 : ({ newEnv scope C X.env.globals cl X.env.qual none .none (some X.env) builtinsNs with scope := relabel scope X.env } : PySem.Env) = (blk X scope cl C N' s2 H2 fp pins).env := rfl
  exact codeAny_compStart_list loop (T.self _ 0 _ _ _ st5 loop)
theorem CompSc.names {scope : Scope} (S : CompSc X scope N' ix) : ∀ x ∈ scope.names, x.2 = .local → scope.names.lookup x.1 = some .local := fun x hx hl => by
  have := List.all_eq_true.mp S.loc x hx
  rw [hl] at this
  simpa using this
theorem CompSc.clos {scope : Scope} (S : CompSc X scope N' ix) (ok : X.Ok) : ∃ cl, closureFor scope X.env = pure cl ∧ (∀ x c, cl.lookup x = some c → X.env.cells.lookup x = some c) ∧ ∀ y ∈ scope.names, y.2 = .free → ∃ c, cl.lookup y.1 = some c := by
  refine closureFor_ex fun y hy hf => ?_
  have := List.all_eq_true.mp S.free y hy
  rw [hf] at this
  simp at this
  exact ok.has y.1 this
theorem pe_comp {elt tg iter : Expr} {ifs : List Expr} {pos : Pos} {wi : TI} {g : TG} {tt : TT} {te : TE} (S : CompSc X scope N' ix) (hcalm : X.calm = true) (hi : PI X tg iter wi)
    (hg : ∀ cl C s2 H2 fp pins, PG (blk X scope cl C N' s2 H2 fp pins) tg g) (ht : ∀ cl C s2 H2 fp pins, Tests (blk X scope cl C N' s2 H2 fp pins) ifs tt) (he : ∀ cl C s2 H2 fp pins, PE (blk X scope cl C N' s2 H2 fp pins) elt te)
    (hs : ∀ x, foldedSetIterable iter X.env x = pure x := by intro _; rfl) : PE X (.ListComp elt [⟨tg, iter, ifs, 0⟩] scope pos) (tComp ix wi g tt te) := by
  intro pins s σ H Q I h
  obtain ⟨cl, hclos, hcl, hcl2⟩ := S.clos I.ok
  rw [eval_ListComp]
  refine wpAny_comprehension_free (use := none) rfl hs hclos S.kind S.names (thn (hi pins s σ H _ I h) fun v s1 h1 => thn h1 fun itv s2 h2 => ?_)
  obtain ⟨it, fp, tn, J, H2, e, I2, T, st2, f2, loop⟩ := h2
  subst e
  refine comp_core (RR := fun acc C => compPost (model X.prog X.w) X.A X.xe none (EP X pins σ Q) acc C) S hcalm hcl hcl2 (fun C => hg cl C s2 H2 fp pins) (fun C => ht cl C s2 H2 fp pins) (fun C => he cl C s2 H2 fp pins) I2 T st2 f2 loop ?_
  intro D C s' H' acc IX hDn ⟨m, hm⟩ hCn hC fin
  refine ⟨m, hm, fun h' hsb => ?_⟩
  obtain ⟨c0, c1, c2, c3, c4, c5⟩ := hC
  exact ⟨.ref D, _, IX.turned (t' := s'.toks) (fun b o hb e => hsb.2 b hb |>.trans e) c0 c1 c3 c4 c5, rfl, fin D hDn⟩
theorem ps_comp {i : Nat} {y : Str} {py spos : Pos} {elt tg iter : Expr} {ifs : List Expr} {pos : Pos} {wi : TI} {g : TG} {tt : TT} {te : TE} (hN : X.N.Nodup) (hiN : X.N[i]? = some y) (hx : Loc X.env.scope y) (hf : X.fn y = true ∨ X.env.scope.names.lookup y = some .local)
    (S : CompSc X scope N' ix) (hcalm : X.calm = true) (hi : PI X tg iter wi)
    (hg : ∀ cl C s2 H2 fp pins, PG (blk X scope cl C N' s2 H2 fp pins) tg g) (ht : ∀ cl C s2 H2 fp pins, Tests (blk X scope cl C N' s2 H2 fp pins) ifs tt) (he : ∀ cl C s2 H2 fp pins, PE (blk X scope cl C N' s2 H2 fp pins) elt te)
    (hsw : swapsWith (.ListComp elt [⟨tg, iter, ifs, 0⟩] scope pos) (some (.Name y py)) spos.line X.env = pure true)
    (hs : ∀ x, foldedSetIterable iter X.env x = pure x := by intro _; rfl) : PS X (.Assign [.Name y py] (.ListComp elt [⟨tg, iter, ifs, 0⟩] scope pos) spos) (tAsg (tComp ix wi g tt te) (gName i)) := by
  intro pins s σ H Dn I h
  obtain ⟨cl, hclos, hcl, hcl2⟩ := S.clos I.ok
  rw [exec_Assign_Name_used _ _ _ _ hsw]
  refine wpAny_bind (wpAny_standAt (wpAny_bind ?_))
  show wpAny _ X.A (do let _ ← comprehension (.ListComp elt [⟨tg, iter, ifs, 0⟩] scope pos) scope X.env _ (newList []) false (eval iter X.env) (some (assign (.Name y py) X.env))) _ _ s
  refine wpAny_bind (wpAny_mono (wpAny_comprehension_free (Q := fun _ s' => SP X pins Dn .next s') (use := some (assign (.Name y py) X.env)) rfl hs hclos S.kind S.names (thn (hi pins s σ H _ I h) fun v s1 h1 => thn h1 fun itv s2 h2 => ?_)) (fun _ s' hq => wpAny_pure (wpAny_pure hq)) fun _ _ e => e)
  obtain ⟨it, fp, tn, J, H2, e, I2, T, st2, f2, loop⟩ := h2
  subst e
  refine comp_core (RR := fun acc C => compPost (model X.prog X.w) X.A X.xe (some (assign (.Name y py) X.env)) (fun _ s' => SP X pins Dn .next s') acc C) S hcalm hcl hcl2 (fun C => hg cl C s2 H2 fp pins) (fun C => ht cl C s2 H2 fp pins) (fun C => he cl C s2 H2 fp pins) I2 T st2 f2 loop ?_
  intro D C s' H' acc IX hDn ⟨m, hm⟩ hCn hC fin
  obtain ⟨c0, c1, c2, c3, c4, c5⟩ := hC
  obtain ⟨oC, es, ep, hoC, hdC, hrest⟩ := id hm
  have IP : Inv X (pins ++ [(C, oC)]) σ (upd H' D (.lst acc)) s' := IX.pins_of fun p hp => by
    rcases List.mem_append.mp hp with z | z
    · exact IX.pin p (List.mem_append_right _ z)
    · have : p = (C, oC) := by simpa using z
      subst this
      exact ⟨hoC, c0, c1, c2, fun v z => by rw [hdC] at z; cases z⟩
  have hq : gName i (.ref D) σ (upd H' D (.lst acc)) Dn.nx := fin D hDn
  refine thn (pg_name (i := i) (pos := py) hN hiN hx hf (pins ++ [(C, oC)]) s' σ _ (.ref D) (.ref D) Dn.nx IP rfl hq) fun _ s'' ⟨σ'', H'', I'', q''⟩ => ?_
  obtain ⟨p1, p2, p3, p4, p5⟩ := I''.pin (C, oC) (List.mem_append_right _ (List.mem_append_right _ (List.mem_singleton.mpr rfl)))
  refine ⟨m, ⟨oC, es, ep, p1, hdC, hrest⟩, fun h' hsb => ?_⟩
  exact ⟨σ'', H'', (I''.unpinned).turned (t' := s''.toks) (fun b o hb e => hsb.2 b hb |>.trans e) p2 p3 c3 c4 c5, q''⟩
end
end MR
set_option Elab.async false
set_option linter.all false
set_option maxRecDepth 100000
set_option maxHeartbeats 4000000
namespace MR
open PySem PySem.Spec PyProof.Rows L2
noncomputable def testU (tt : Option FT) : FT := fun δ L => match tt with
  | none => some (true, L)
  | some f => f δ L
noncomputable def compU (it : IU) (g : FG) (tt : Option FT) (fe : FE) : Nat → Nat → List U → UE → UH → Option (List U × UH)
  | 0, _, _, _, _ => none
  | m + 1, k, acc, δ, L => match it.at k L with
    | none => none
    | some none => some (acc, L)
    | some (some u) => (g u δ L).bind fun p => (testU tt p.1 p.2).bind fun q => if q.1 = true then (fe p.1 q.2).bind fun r => if decide (acc.length < sizeLine) = true then compU it g tt fe m (k + 1) (acc ++ [r.1]) p.1 r.2 else none
      else compU it g tt fe m (k + 1) acc p.1 q.2
noncomputable def innerU (ix : List (Option Nat)) (δ : UE) : UE := ix.map fun o => o.bind fun i => (δ[i]?).join
noncomputable def fComp (ix : List (Option Nat)) (fi : FI) (g : FG) (tt : Option FT) (fe : FE) : FE := fun δ L => (fi δ L).bind fun p => (compU p.1 g tt fe (p.1.size p.2 + 1) 0 [] (innerU ix δ) p.2).map fun q => (.ref q.2.length, q.2 ++ [.lst q.1])
theorem RepS.inner {K : PySem.W.Frag} {H : Hp} {α : List Addr} {δ : UE} {σ : L2.St} (S : RepS K H α δ σ) (ix : List (Option Nat)) : RepS K H α (innerU ix δ) (MR.inner ix σ) := by
  refine ⟨by simp [innerU, MR.inner], fun j u e => ?_⟩
  unfold innerU at e
  unfold MR.inner
  rw [List.getElem?_map] at e ⊢
  cases hx : ix[j]? with
  | none => rw [hx] at e; simp at e
  | some o =>
    rw [hx] at e
    cases o with
    | none => simp at e
    | some i =>
      simp at e
      have : δ[i]? = some (some u) := by
        cases q : δ[i]? with
        | none => rw [q] at e; simp at e
        | some o => rw [q] at e; simp at e; rw [e]
      obtain ⟨v, hv, r⟩ := S.at_ i u this
      exact ⟨v, by simp [hv], r⟩
noncomputable def lTo (K : PySem.W.Frag) (tt : Option FT) : TT := match tt with
  | none => tYes
  | some f => lT K f
theorem lE_comp {K : PySem.W.Frag} {ix : List (Option Nat)} {fi : FI} {g : FG} {tt : Option FT} {fe : FE} : ∀ σ H Q, lE K (fComp ix fi g tt fe) σ H Q → tComp ix (lI K fi) (lG K g) (lTo K tt) (lE K fe) σ H Q := by
  rintro σ H Q ⟨α, δ, L, A, S, z, L3, e, q⟩
  obtain ⟨⟨it, L1⟩, e1, e⟩ := Option.bind_eq_some_iff.mp e
  obtain ⟨⟨ys, L2⟩, e2, e⟩ := Option.map_eq_some_iff.mp e
  cases e
  refine ⟨α, δ, L, A, S, it, L1, e1, fun J H1 α1 g1 A1 hJ => ?_⟩
  refine ⟨fun k m acc σ2 H2 => ∃ α2 δ2 M us, Gr H1 α1 H2 α2 ∧ Abs K H2 α2 M ∧ RepS K H2 α2 δ2 σ2 ∧ RepL K H2 α2 us acc ∧ compU it g tt fe m k us δ2 M = some (ys, L2), ⟨_, α1, _, L1, [], .refl _ _, A1, (S.mono g1).inner ix, .nil, e2⟩, ?_⟩
  rintro k m acc σ2 H2 ⟨α2, δ2, M, us, g2, A2, S2, r2, e3⟩
  cases m with
  | zero => cases e3
  | succ m =>
    obtain ⟨hgo, hstop⟩ := hJ H2 α2 M g2 A2 k
    unfold compU at e3
    cases hat : it.at k M with
    | none => rw [hat] at e3; cases e3
    | some o =>
      cases o with
      | none =>
        rw [hat] at e3
        cases e3
        refine .inl ⟨hstop hat, fun p hp => ?_⟩
        obtain ⟨g3, A3, r3⟩ := A2.lst r2 hp
        exact q _ _ _ (g1.trans (g2.trans g3)) A3 r3
      | some u =>
        rw [hat] at e3
        obtain ⟨go, yld⟩ := hgo u hat
        obtain ⟨⟨δ3, L3⟩, e4, e3⟩ := Option.bind_eq_some_iff.mp e3
        obtain ⟨⟨b, L4⟩, e5, e3⟩ := Option.bind_eq_some_iff.mp e3
        refine .inr ⟨go, fun x H3 y3 => ?_⟩
        obtain ⟨g3, A3, r3⟩ := yld x H3 y3
        refine ⟨α2, δ2, M, u, A3, S2.mono g3, r3, δ3, L3, e4, fun σ4 H4 α4 g4 A4 S4 => ?_⟩
        have after : ∀ H5 α5, Gr H4 α4 H5 α5 → Abs K H5 α5 L4 → (if b = true then lE K fe σ4 H5 (fun y H6 => acc.length < sizeLine ∧ ∃ m', m' < m + 1 ∧ ∃ α2 δ2 M us, Gr H1 α1 H6 α2 ∧ Abs K H6 α2 M ∧ RepS K H6 α2 δ2 σ4 ∧ RepL K H6 α2 us (acc ++ [y]) ∧ compU it g tt fe m' (k + 1) us δ2 M = some (ys, L2)) else ∃ m', m' < m + 1 ∧ ∃ α2 δ2 M us, Gr H1 α1 H5 α2 ∧ Abs K H5 α2 M ∧ RepS K H5 α2 δ2 σ4 ∧ RepL K H5 α2 us acc ∧ compU it g tt fe m' (k + 1) us δ2 M = some (ys, L2)) := fun H5 α5 g5 A5 => by
          have gA := g2.trans (g3.trans (g4.trans g5))
          have gB := g3.trans (g4.trans g5)
          cases b with
          | false => exact iteF ⟨m, Nat.lt_succ_self _, α5, δ3, L4, us, gA, A5, S4.mono g5, r2.mono gB, e3⟩
          | true =>
            obtain ⟨⟨w, L5⟩, e6, e3⟩ := Option.bind_eq_some_iff.mp e3
            simp only at e3
            split at e3
            · rename_i hlt
              refine iteT ⟨α5, δ3, L4, A5, S4.mono g5, w, L5, e6, fun y H6 α6 g6 A6 r6 => ?_⟩
              exact ⟨by rw [← r2.length]; exact of_decide_eq_true hlt, m, Nat.lt_succ_self _, α6, δ3, L5, us ++ [w], gA.trans g6, A6, (S4.mono g5).mono g6, (r2.mono (gB.trans g6)).append (.cons r6 .nil), e3⟩
            · cases e3
        cases tt with
        | none =>
          cases e5
          exact after H4 α4 (.refl _ _) A4
        | some f => exact ⟨α4, δ3, L3, A4, S4, b, L4, e5, fun H5 α5 g5 A5 => after H5 α5 g5 A5⟩
section
variable {X : Cx} {scope : Scope} {N' : List Str} {ix : List (Option Nat)} {elt tg iter c : Expr} {pos : Pos} {fi : FI} {g : FG} {ft : FT} {fe : FE}
theorem pf_comp (S : CompSc X scope N' ix) (hcalm : X.calm = true) (hi : PIF X tg iter fi) (hg : ∀ cl C s2 H2 fp pins, PGF (blk X scope cl C N' s2 H2 fp pins) tg g) (he : ∀ cl C s2 H2 fp pins, PEF (blk X scope cl C N' s2 H2 fp pins) elt fe)
    (hs : ∀ x, foldedSetIterable iter X.env x = pure x := by intro _; rfl) : PEF X (.ListComp elt [⟨tg, iter, [], 0⟩] scope pos) (fComp ix fi g none fe) :=
  PE.imp (pe_comp (g := lG X.K g) (te := lE X.K fe) (tt := tYes) S hcalm hi hg (fun _ _ _ _ _ _ => tests_nil) he hs) lE_comp
theorem pf_compT (S : CompSc X scope N' ix) (hcalm : X.calm = true) (hi : PIF X tg iter fi) (hg : ∀ cl C s2 H2 fp pins, PGF (blk X scope cl C N' s2 H2 fp pins) tg g) (ht : ∀ cl C s2 H2 fp pins, PTF (blk X scope cl C N' s2 H2 fp pins) c ft) (he : ∀ cl C s2 H2 fp pins, PEF (blk X scope cl C N' s2 H2 fp pins) elt fe)
    (hs : ∀ x, foldedSetIterable iter X.env x = pure x := by intro _; rfl) : PEF X (.ListComp elt [⟨tg, iter, [c], 0⟩] scope pos) (fComp ix fi g (some ft) fe) :=
  PE.imp (pe_comp (g := lG X.K g) (te := lE X.K fe) (tt := lT X.K ft) S hcalm hi hg (fun _ _ _ _ _ _ => tests_one (ht _ _ _ _ _ _)) he hs) (lE_comp (tt := some ft))
theorem lS_asg {K : PySem.W.Frag} {i : Nat} {fc : FE} {t : TE} (ht : ∀ σ H Q, lE K fc σ H Q → t σ H Q) : ∀ D σ H, lS K (fAsg fc (gN i)) D σ H → tAsg t (gName i) D σ H := by
  rintro D σ H ⟨α, δ, L, A, S, fl, L', e, q⟩
  obtain ⟨⟨u, L1⟩, e1, e⟩ := Option.bind_eq_some_iff.mp e
  obtain ⟨⟨δ2, L2⟩, e2, e⟩ := Option.map_eq_some_iff.mp e
  cases e
  cases e2
  exact ht σ H _ ⟨α, δ, L, A, S, u, _, e1, fun v H1 α1 g1 A1 r1 => q _ H1 α1 g1 A1 ((S.mono g1).set i r1)⟩
theorem psf_comp {i : Nat} {y : Str} {py spos : Pos} (hN : X.N.Nodup) (S : CompSc X scope N' ix) (hcalm : X.calm = true) (hi : PIF X tg iter fi) (hg : ∀ cl C s2 H2 fp pins, PGF (blk X scope cl C N' s2 H2 fp pins) tg g) (he : ∀ cl C s2 H2 fp pins, PEF (blk X scope cl C N' s2 H2 fp pins) elt fe)
    (hiN : X.N[i]? = some y := by rfl) (hx : Loc X.env.scope y := by first | exact Or.inl rfl | exact Or.inr rfl) (hf : X.fn y = true ∨ X.env.scope.names.lookup y = some .local := by first | exact .inl rfl | exact .inr rfl)
    (hsw : swapsWith (.ListComp elt [⟨tg, iter, [], 0⟩] scope pos) (some (.Name y py)) spos.line X.env = pure true := by rfl)
    (hs : ∀ x, foldedSetIterable iter X.env x = pure x := by intro _; rfl) : PSF X (.Assign [.Name y py] (.ListComp elt [⟨tg, iter, [], 0⟩] scope pos) spos) (fAsg (fComp ix fi g none fe) (gN i)) :=
  PS.imp (ps_comp (i := i) (g := lG X.K g) (te := lE X.K fe) (tt := tYes) hN hiN hx hf S hcalm hi hg (fun _ _ _ _ _ _ => tests_nil) he hsw hs) (lS_asg lE_comp)
end
end MR
set_option Elab.async false
set_option linter.all false
set_option maxRecDepth 100000
set_option maxHeartbeats 4000000
namespace MR
open PySem PySem.Spec PyProof.Rows L2
section
variable {X : Cx} {pins : List (Addr × Obj)} {σ : L2.St} {H : Hp} {s : Shared} {h' : Heap}
theorem Inv.turnNew {ch : List Addr} {p : Addr} {o : HO} {t' : Nat} (I : L2.Inv X pins σ H s) (hch : ∀ b ∈ ch, FpOk X pins H b) (k : ∀ b o, b ∉ ch → s.heap.get? b = some o → h'.get? b = some o) (hp : s.heap.objs.size ≤ p) (new : ObjOk X.prog X.w (upd H p o) h' p o) :
    L2.Inv X pins σ (upd H p o) { s with heap := h', toks := t' } := by
  have hn : H p = none := I.hok.fresh hp
  have nch : ∀ b u, H b = some u → b ∉ ch := fun b u e hb => by rw [(hch b hb).1] at e; cases e
  have st := Stay.new hn o
  refine I.step (g' := s.gens) (d' := s.drawn) (ch := ch) (fun b hb => ?_) (fun b o _ _ hc e _ => k b o hc e) (fun b o _ _ hc e _ => ⟨o.slots, k b o hc e⟩) (fun b u hc e n => ?_) (fun b u hc e => ⟨u, k b u hc e⟩) st.1 st.2 (fun b ps e => ⟨#[], ?_⟩) (fun m hm => ?_) (fun b u e => ?_) I.bare
  · obtain ⟨_, f1, _, f3, f4, f5⟩ := hch b hb
    exact ⟨f3, f1, f4, f5⟩
  · rw [upd_ne (Nat.ne_of_lt (Nat.lt_of_lt_of_le (Heap.lt_size e) hp))]; exact n
  · rw [upd_ne (ne_of_none e hn), e]; simp
  · obtain ⟨o1, es, ep, ho, r⟩ := hm
    exact ⟨o1, es, ep, k _ o1 (fun z => (hch _ z).2.1 rfl) ho, r⟩
  · by_cases hb : b = p
    · subst hb; rw [upd_same] at e; cases e; exact new
    · rw [upd_ne hb] at e
      refine (I.hok b u e).stay (fun c v hc q => k c v ?_ q) (fun c q => by rw [upd_ne (ne_of_none q hn)]; exact q) fun c xs q => by rw [upd_ne (ne_of_none q hn)]; exact q
      rcases hc with z | z
      · rw [z]; exact nch b u e
      · exact nch c _ z
end
noncomputable def Ite (K : PySem.W.Frag) (a : Addr) : It :=
  ⟨fun i H => ∃ xs x, SqL K H a xs ∧ xs[i]? = some x, fun i H x H' => ∃ p v, H p = none ∧ x = .ref p ∧ H' = upd H p (.tup [.int i, v]) ∧ ∀ xs, SqL K H a xs → xs[i]? = some v, fun i H => ∃ xs, SqL K H a xs ∧ xs.length ≤ i⟩
theorem turn_enum {P : Program} {w : World} {K : PySem.W.Frag} {elts : List Expr} {x1} {pos : Pos} (a e it : Addr) (hne : e ≠ it) : Turn P w K (.Tuple elts x1 pos) (Ite K a) [e, it] e (fun i h => (∃ old, IsEnum h e it i old) ∧ h.IsListIter it a i) where
  mem := by simp
  obj := fun i h st b hb => by
    obtain ⟨⟨old, he⟩, o, ho, hc, hd⟩ := st
    rcases List.mem_cons.mp hb with rfl | hb
    · exact ⟨_, he, fun v z => by simp at z⟩
    · have : b = it := by simpa using hb
      subst this
      exact ⟨o, ho, fun v z => by rw [hd] at z; cases z⟩
  keep := fun i h h' st k => by
    obtain ⟨⟨old, he⟩, o, ho, hc, hd⟩ := st
    exact ⟨⟨old, k e (by simp) _ he⟩, o, k it (by simp) _ ho, hc, hd⟩
  item := by
    intro X hP hw hK hc i pins s σ H E I hf st hg
    subst hP hw hK
    obtain ⟨⟨old, he⟩, hit⟩ := st
    obtain ⟨xs, v, sq, hx⟩ := hg
    obtain ⟨its, hv, pl, hz⟩ := I.list sq
    obtain ⟨u, hu, r⟩ := hv.get hx
    refine wpAny_pyNext_enum_item he hit pl.isList (by simpa using hu) hne fun h' o1 o2 o3 o4 o5 => ?_
    refine ⟨_, rfl, ?_⟩
    have hfr : H s.heap.objs.size = none := I.hok.fresh (Nat.le_refl _)
    have I1 : L2.Inv X pins σ (upd H s.heap.objs.size (.tup [.int i, v])) { s with heap := h', toks := s.toks + 1 } :=
      Inv.turnNew (ch := [e, it]) I hf (fun b o hb q => o5 b o (fun z => hb (by simp [z])) (fun z => hb (by simp [z])) q) (Nat.le_refl _)
        (show ObjOk X.prog X.w _ h' _ (.tup [.int i, v]) from ⟨by show 2 ≤ sizeLine; decide, [.int i s.toks, u], .cons ⟨_, rfl⟩ (.cons r .nil), ⟨_, o3, rfl, _, rfl⟩⟩)
    refine wpAny_letOwnedTupleGo_enum o1 fun h2 e2 sb2 => ?_
    have hne2 : ∀ b ∈ [e, it], b ≠ s.heap.objs.size := fun b hb z => by
      rcases List.mem_cons.mp hb with q | q
      · have := Heap.lt_size he; rw [← q, z] at this; exact Nat.lt_irrefl _ this
      · have q : b = it := by simpa using q
        obtain ⟨o, ho, _⟩ := hit
        have := Heap.lt_size ho; rw [← q, z] at this; exact Nat.lt_irrefl _ this
    have hnone : ∀ b ∈ [e, it], (upd H s.heap.objs.size (.tup [.int i, v])) b = none := fun b hb => by rw [upd_ne (hne2 b hb)]; exact (hf b hb).1
    obtain ⟨f0, f1, f2, f3, f4, f5⟩ := hf e (by simp)
    have I2 := I1.turned (t' := s.toks + 1) (h' := h2) (it := e) (fun b o hb q => sb2.2 b hb |>.trans q) (hnone e (by simp)) f1 f3 f4 f5
    obtain ⟨oi, hoi, hci, hdi⟩ := o2
    refine ⟨.ref s.heap.objs.size, _, I2, rfl, ⟨_, v, hfr, rfl, rfl, fun ys sq' => ?_⟩, ⟨⟨_, e2⟩, oi, (sb2.2 it (Ne.symm hne)).trans hoi, hci, hdi⟩, hnone⟩
    rw [I.list_inj sq' sq]; exact hx
  done := by
    intro X hP hw hK hc i pins s σ H E I hf st hg
    subst hP hw hK
    obtain ⟨⟨old, he⟩, hit⟩ := st
    obtain ⟨xs, sq, hx⟩ := hg
    obtain ⟨its, hv, pl, hz⟩ := I.list sq
    obtain ⟨f0, f1, f2, f3, f4, f5⟩ := hf it (by simp)
    have hlen := hv.length
    refine wpAny_pyNext_enum_end (I.ok.hd hc) he hit pl.isList (by simp; omega) fun h' eb => ⟨rfl, I.turned (t' := s.toks) (fun b o hb q => eb b o hb q) f0 f1 f3 f4 f5⟩
  self := fun _ _ _ _ _ st h => by obtain ⟨⟨old, he⟩, _⟩ := st; exact wpAny_pyIter_enum he h
theorem zip_apart (n l1 l2 : Nat) (h1 : l1 < n) (h2 : l2 < n) : ZipApart (n + 4) (n + 2) (n + 3) n (n + 1) l1 l2 := by
  constructor <;> (intro q; exact absurd (show (_ : Nat) = _ from q) (by omega))
section
variable {X : Cx} {elts : List Expr} {x1 : Nat} {tpos : Pos}
theorem boot_enum : bootBuiltins "enumerate" = some (.type "enumerate") := by decide +kernel
theorem boot_zip : bootBuiltins "zip" = some (.type "zip") := by decide +kernel
noncomputable def iEnum (K : PySem.W.Frag) (ta : TA) : TI := fun σ H R => ta σ H fun vs H1 => ∃ a xs, vs = [.ref a] ∧ SqL K H1 a xs ∧ R (Ite K a) H1
theorem pi_enum {a : Expr} {ta : TA} {p pos : Pos} (hg : Gl X "enumerate") (hm : X.mg "enumerate" = none) (ha : PA X [a] ta) (hs : starEach [a] X.env = [(false, eval a X.env)] := by rfl) : PI X (.Tuple elts x1 tpos) (.Call (.Name "enumerate" p) [a] [] pos) (iEnum X.K ta) := by
  intro pins s σ H R I h
  refine Call_ (ld_blt I hg hm boot_enum (PyProof.Rows.callWith_type1 (thn (ha pos pins s σ H _ I h) fun us s1 ⟨vs, H1, I1, r1, q1⟩ => ?_) hs rfl))
  obtain ⟨l, xs, rfl, sq, q⟩ := q1
  obtain ⟨u, rfl, ru⟩ := vals1 r1
  cases ru
  obtain ⟨its, hv, pl, hz⟩ := I1.list sq
  refine call_enumerate_list pl.isList fun h' o1 o2 o3 o4 => ?_
  have I2 : L2.Inv X pins σ H1 { s1 with heap := h' } := I1.kept (t' := s1.toks) o4
  refine wpAny_pyIter_enum o1 ⟨_, _, _, _, H1, rfl, I2, turn_enum l (s1.heap.objs.size + 1) s1.heap.objs.size (Nat.ne_of_gt (Nat.lt_succ_self _)), ⟨⟨_, o1⟩, o2⟩, fun b hb => ?_, q⟩
  have hb' : s1.heap.objs.size ≤ b := by
    simp only [List.mem_cons, List.not_mem_nil, or_false] at hb
    rcases hb with rfl | rfl
    · exact Nat.le_succ _
    · exact Nat.le_refl _
  exact L2.Inv.fpOk I1 hb' (I1.hok.fresh hb')
noncomputable def fEnum (g : FA) : FI := fun δ L => (g δ L).bind fun p => match p.1 with
  | [.ref n] => (seqAt p.2 n).map fun _ => (.enm n, p.2)
  | _ => none
noncomputable def fZip (g : FA) : FI := fun δ L => (g δ L).bind fun p => match p.1 with
  | [.ref n, .ref m] => (seqAt p.2 n).bind fun _ => (seqAt p.2 m).map fun _ => (.zip2 n m, p.2)
  | _ => none
theorem seqAt_addr {K : PySem.W.Frag} {H : Hp} {α : List Addr} {L : UH} {n : Nat} {a : Addr} {us : List U} (A : Abs K H α L) (ea : α[n]? = some a) (h : seqAt L n = some us) : ∃ xs, SqL K H a xs ∧ RepL K H α us xs := by
  obtain ⟨a', xs, ea', sq, r⟩ := seqAt_ok A h
  rw [ea] at ea'; cases ea'
  exact ⟨xs, sq, r⟩
theorem ite_rep {K : PySem.W.Frag} {H : Hp} {α : List Addr} {n : Nat} {a : Addr} (hinj : ∀ (H : Hp) xs ys, SqL K H a xs → SqL K H a ys → True) (ea : α[n]? = some a) : ItRep K (Ite K a) (.enm n) H α := by
  intro H2 α2 L2 g A2 k
  have ea2 := g.at ea
  refine ⟨fun u eu => ?_, fun eu => ?_⟩
  · obtain ⟨us, hs, eu⟩ := Option.map_eq_some_iff.mp eu
    obtain ⟨xs, sq, r⟩ := seqAt_addr A2 ea2 hs
    obtain ⟨w, hw, eu⟩ := Option.map_eq_some_iff.mp eu
    subst eu
    obtain ⟨x, hx, rx⟩ := r.get hw
    refine ⟨⟨xs, x, sq, hx⟩, ?_⟩
    rintro y H3 ⟨p, v, hp, rfl, rfl, hy⟩
    have := hy xs sq
    rw [hx] at this; cases this
    exact A2.tup (.cons rfl (.cons rx .nil)) hp
  · obtain ⟨us, hs, eu⟩ := Option.map_eq_some_iff.mp eu
    obtain ⟨xs, sq, r⟩ := seqAt_addr A2 ea2 hs
    have : us[k]? = none := by simpa using eu
    exact ⟨xs, sq, by rw [← r.length]; exact List.getElem?_eq_none_iff.mp this⟩
end
end MR
set_option Elab.async false
set_option linter.all false
set_option maxRecDepth 100000
set_option maxHeartbeats 4000000
namespace MR
open PySem PySem.Spec PyProof.Rows L2
theorem Vals.rev {xs : List V} {us : List Value} (h : Vals xs us) : Vals xs.reverse us.reverse := by
  induction h with
  | nil => exact .nil
  | cons h1 _ ih => rw [List.reverse_cons, List.reverse_cons]; exact ih.append (.cons h1 .nil)
theorem RepL.rev {K : PySem.W.Frag} {H : Hp} {α : List Addr} : ∀ {us : List U} {xs : List V}, RepL K H α us xs → RepL K H α us.reverse xs.reverse
  | [], xs, r => by unfold RepL at r; subst r; exact .nil
  | u :: us, xs, r => by
    unfold RepL at r
    obtain ⟨x, xr, rfl, r1, r2⟩ := r
    rw [List.reverse_cons, List.reverse_cons]
    exact (RepL.rev r2).append (.cons r1 .nil)
end MR
namespace HT
open PySem PySem.Spec PyProof.Rows
section
variable {prog : Program} {w : World} {A : Around} {E : Value → Shared → Prop} {s : Shared}
end
end HT
namespace MR
open PySem PySem.Spec PyProof.Rows L2
section
variable {X : Cx} {e st : Expr} {fa fs : FE} {p2 pos : Pos}
noncomputable def fRev (f : FE) : FE := fun δ L => (f δ L).bind fun p => match p.1 with | .ref n => (seqAt p.2 n).map fun l => (.ref p.2.length, p.2 ++ [.lst l.reverse]) | .tup l => some (.tup l.reverse, p.2) | _ => none
end
end MR
set_option Elab.async false
set_option linter.all false
set_option maxRecDepth 100000
set_option maxHeartbeats 4000000
namespace MR
open PySem PySem.Spec PyProof.Rows L2
structure ClsF (K : PySem.W.Frag) (C : Str) (Ca : Addr) : Prop where
  ns : PySem.W.nsIn K mainGlobals C = some (some (.ref Ca))
  cl : Cls K Ca
theorem ClsF.eq {K : PySem.W.Frag} {C : Str} {Ca Cb : Addr} (T : ClsF K C Ca) (h : PySem.W.nsIn K mainGlobals C = some (some (.ref Cb))) : Cb = Ca := by
  have := T.ns.symm.trans h
  simpa using this.symm
section
variable {X : Cx} {o e value : Expr} {es : List Expr} {f m C x : Str} {p pos pos' apos : Pos} {Ca fa : Addr} {fd : FuncData} {ps : List Str} {k n : Nat} {F : FN} {fe fo fv : FE} {g : FA}
end
end MR
set_option Elab.async false
set_option linter.all false
set_option maxRecDepth 100000
set_option maxHeartbeats 4000000
namespace ZT
open PySem PySem.Spec PyProof.Rows
open Sem (wp)
noncomputable def SqK (b : Bool) (h : Heap) (l : Addr) (xs : Array Value) : Prop := match b with
  | true => h.IsList l xs
  | false => h.IsTuple l xs
noncomputable def ItK (b : Bool) (h : Heap) (jt l : Addr) (k : Nat) : Prop := match b with
  | true => h.IsListIter jt l k
  | false => h.IsTupleIter jt l k
theorem SqK.keep {b : Bool} {h h' : Heap} {l : Addr} {xs : Array Value} (x : SqK b h l xs) (e : ∀ o, h.get? l = some o → h'.get? l = some o) : SqK b h' l xs := by
  cases b with
  | true => obtain ⟨o, ho, r⟩ := x; exact ⟨o, e _ ho, r⟩
  | false => obtain ⟨o, ho, r⟩ := x; exact ⟨o, e _ ho, r⟩
theorem ItK.keep {b : Bool} {h h' : Heap} {jt l : Addr} {k : Nat} (x : ItK b h jt l k) (e : ∀ o, h.get? jt = some o → h'.get? jt = some o) : ItK b h' jt l k := by
  cases b with
  | true => obtain ⟨o, ho, r⟩ := x; exact ⟨o, e _ ho, r⟩
  | false => obtain ⟨o, ho, r⟩ := x; exact ⟨o, e _ ho, r⟩
theorem ItK.lt {b : Bool} {h : Heap} {jt l : Addr} {k : Nat} (x : ItK b h jt l k) : jt < h.objs.size := by
  cases b with
  | true => obtain ⟨o, ho, r⟩ := x; exact Heap.lt_size ho
  | false => obtain ⟨o, ho, r⟩ := x; exact Heap.lt_size ho
theorem ItK.obj {b : Bool} {h : Heap} {jt l : Addr} {k : Nat} (x : ItK b h jt l k) : ∃ o, h.get? jt = some o ∧ o.data = .fields #[.ref l, .int k 0] := by
  cases b with
  | true => obtain ⟨o, ho, _, r⟩ := x; exact ⟨o, ho, r⟩
  | false => obtain ⟨o, ho, _, r⟩ := x; exact ⟨o, ho, r⟩
section
variable {prog : Program} {w : World} {A : Around} {E : Value → Shared → Prop} {s : Shared}
theorem next_tup {jt t : Addr} {k : Nat} {its : Array Value} {v : Value} {Q : Value → Shared → Prop} (hj : s.heap.IsTupleIter jt t k) (ht : s.heap.IsTuple t its) (hv : its[k]? = some v)
    (hQ : ∀ h', h'.IsTupleIter jt t (k + 1) → Heap.SameBut jt s.heap h' → Q v { s with heap := h' }) : wpAny (model prog w) A (Builtin.SmallTypes.nextOf (.ref jt)) Q E s := by
  obtain ⟨ob, hob, hcl, hda⟩ := id hj
  obtain ⟨ot, hot, _, nt, hdt⟩ := ht
  unfold Builtin.SmallTypes.nextOf
  refine wpAny_bind (wpAny_callSpecial?_slot (name := Str.ofString "__next__") hj.typeIs F.slot_tuple_iterator_next (wpAny_call_entry F.slot_tuple_iterator_next hj.typeIs F.entry_tuple_iterator_next ?_ (F.args_tuple_iterator_next_1 _)))
  show wpAny _ _ (field (.ref jt) 0 >>= _) _ _ s
  refine wpAny_bind (wpAny_field hob hda (x := .ref t) rfl ?_)
  show wpAny _ _ (if (Value.ref t == Value.none) = true then _ else _) _ _ s
  rw [if_neg (show ¬ ((Value.ref t == Value.none) = true) from (fun z => Bool.false_ne_true z))]
  show wpAny _ _ (field (.ref jt) 1 >>= _) _ _ s
  refine wpAny_bind (wpAny_field hob hda (x := .int k 0) rfl ?_)
  show wpAny _ _ (seqItems? (.ref t) >>= fun z => _) _ _ s
  refine wpAny_bind (wpAny_seqItems hot hdt ?_)
  simp only [Int.toNat_natCast, hv]
  refine wpAny_bind (wpAny_setField hob hda (by simp) (wpAny_pure ⟨v, rfl, wpAny_pure (hQ _ ?_ (Heap.SameBut.update ..))⟩))
  exact ⟨_, Heap.get?_update_self _ hob (Obj.isFreed_of_fields (Obj.data_mapFields hda _)), (Obj.cls_mapFields ..).trans hcl, by rw [Obj.data_mapFields hda]; simp [rawInt]⟩
theorem stop_tup {jt t : Addr} {k : Nat} {its : Array Value} {Q : Value → Shared → Prop} (hh : A.handled = none) (hj : s.heap.IsTupleIter jt t k) (ht : s.heap.IsTuple t its) (hv : its[k]? = none)
    (hE : ∀ h' e, Heap.ExtBut jt s.heap h' → (∃ ob, h'.get? e = some ob ∧ ob.cls = .type "StopIteration") → E (.ref e) { s with heap := h' }) : wpAny (model prog w) A (Builtin.SmallTypes.nextOf (.ref jt)) Q E s := by
  obtain ⟨ob, hob, hcl, hda⟩ := id hj
  obtain ⟨ot, hot, _, nt, hdt⟩ := ht
  unfold Builtin.SmallTypes.nextOf
  refine wpAny_bind (wpAny_callSpecial?_slot (name := Str.ofString "__next__") hj.typeIs F.slot_tuple_iterator_next (wpAny_call_entry F.slot_tuple_iterator_next hj.typeIs F.entry_tuple_iterator_next ?_ (F.args_tuple_iterator_next_1 _)))
  show wpAny _ _ (field (.ref jt) 0 >>= _) _ _ s
  refine wpAny_bind (wpAny_field hob hda (x := .ref t) rfl ?_)
  show wpAny _ _ (if (Value.ref t == Value.none) = true then _ else _) _ _ s
  rw [if_neg (show ¬ ((Value.ref t == Value.none) = true) from (fun z => Bool.false_ne_true z))]
  show wpAny _ _ (field (.ref jt) 1 >>= _) _ _ s
  refine wpAny_bind (wpAny_field hob hda (x := .int k 0) rfl ?_)
  show wpAny _ _ (seqItems? (.ref t) >>= fun z => _) _ _ s
  refine wpAny_bind (wpAny_seqItems hot hdt ?_)
  simp only [Int.toNat_natCast, hv]
  refine wpAny_bind (wpAny_rule (wpAny_bind (wpAny_setField hob hda (by simp) ?_)))
  show wpAny _ _ (newExc (.type "StopIteration") [] >>= fun z => _) _ _ _
  refine wpAny_bind ?_
  simp only [newExc, newTuple]; refine wpAny_bind (wpAny_newObj_type ?_ (by size_fits))
  refine wpAny_bind (m := firstArgMember _ _) (wpAny_of_eq (a := Value.none) (by first | rfl | (simp only [firstArgMember]; rfl)) (wpAny_newObj_type ?_ (by size_fits)))
  simp only [raiseNew]; refine wpAny_bind (wpAny_handled ?_)
  first | rw [show A.in1.handled = none from hh] | (rw [hh])
  exact wpAny_bind (wpAny_pure (wpAny_throw (hE _ _ (((Heap.SameBut.update ..).extBut.push _).push _) ⟨_, Heap.get?_push_size _ rfl, rfl⟩)))
theorem next_k {b : Bool} {jt l : Addr} {k : Nat} {its : Array Value} {v : Value} {Q : Value → Shared → Prop} (hj : ItK b s.heap jt l k) (hl : SqK b s.heap l its) (hv : its[k]? = some v)
    (hQ : ∀ h', ItK b h' jt l (k + 1) → Heap.SameBut jt s.heap h' → Q v { s with heap := h' }) : wpAny (model prog w) A (Builtin.SmallTypes.nextOf (.ref jt)) Q E s := by
  cases b with
  | true => exact wpAny_nextOf_list_item hj hl hv hQ
  | false => exact next_tup hj hl hv hQ
theorem stop_k {b : Bool} {jt l : Addr} {k : Nat} {its : Array Value} {Q : Value → Shared → Prop} (hh : A.handled = none) (hj : ItK b s.heap jt l k) (hl : SqK b s.heap l its) (hv : its[k]? = none)
    (hE : ∀ h' e, Heap.ExtBut jt s.heap h' → (∃ ob, h'.get? e = some ob ∧ ob.cls = .type "StopIteration") → E (.ref e) { s with heap := h' }) : wpAny (model prog w) A (Builtin.SmallTypes.nextOf (.ref jt)) Q E s := by
  cases b with
  | true => exact wpAny_nextOf_list_end hh hj hl hv hE
  | false => exact stop_tup hh hj hl hv hE
theorem SqK.but {b : Bool} {h h' : Heap} {l c : Addr} {xs : Array Value} (x : SqK b h l xs) (e : Heap.ExtBut c h h') (hne : l ≠ c) : SqK b h' l xs := x.keep fun o q => e l o hne q
theorem ItK.but {b : Bool} {h h' : Heap} {jt l c : Addr} {k : Nat} (x : ItK b h jt l k) (e : Heap.ExtBut c h h') (hne : jt ≠ c) : ItK b h' jt l k := x.keep fun o q => e jt o hne q
variable {b1 b2 : Bool} {z TI TO j1 j2 l1 l2 : Addr} {k1 k2 : Nat} {xs ys : Array Value} {a b : Value}
theorem zn_item {x y : Value} {Q : Value → Shared → Prop} (D : ZipApart z TI TO j1 j2 l1 l2) (hz : IsZip s.heap z TI TO .none) (hI : IsPair s.heap TI (.ref j1) (.ref j2)) (hO : IsPair s.heap TO a b)
    (h1 : ItK b1 s.heap j1 l1 k1) (h2 : ItK b2 s.heap j2 l2 k2) (g1 : SqK b1 s.heap l1 xs) (g2 : SqK b2 s.heap l2 ys) (hx : xs[k1]? = some x) (hy : ys[k2]? = some y)
    (hQ : ∀ h', IsZip h' z TI TO (rawInt s.heap.objs.size) → IsPair h' TO x y → ItK b1 h' j1 l1 (k1 + 1) → ItK b2 h' j2 l2 (k2 + 1) → IsPair h' s.heap.objs.size x y → h'.objs.size = s.heap.objs.size + 1 →
      (∀ c o, c ≠ z → c ≠ TO → c ≠ j1 → c ≠ j2 → s.heap.get? c = some o → h'.get? c = some o) → Q (.ref s.heap.objs.size) { s with heap := h' }) :
    wpAny (model prog w) A (Builtin.«zip.__next__» ⟨[.ref z], []⟩) (fun fin s' => ∃ v, fin = .done (.ret v) ∧ Q v s') E s := by
  show wpAny _ _ (field (.ref z) 2 >>= fun q => _) _ _ _
  refine wpAny_bind (wpAny_field hz rfl (x := .bool false) rfl ?_); show wpAny _ _ (field (.ref z) 3 >>= _) _ _ _
  refine wpAny_bind (wpAny_field hz rfl (x := .ref TI) rfl (wpAny_bind (wpAny_seqItems hI rfl ?_)))
  show wpAny _ _ (Builtin.SmallTypes.ownedTupleIsFree (.ref z) >>= fun q => _) _ _ _
  refine wpAny_bind ?_; unfold Builtin.SmallTypes.ownedTupleIsFree
  refine wpAny_bind (wpAny_field hz rfl (x := .none) rfl (wpAny_pure ?_)); simp only [if_true]
  refine wpAny_bind (wpAny_rule (wpAny_bind (wpAny_field hz rfl (x := .ref TO) rfl (wpAny_bind (wpAny_setField_rec hz (by simp) fun p1 z1 s1 => ?_)))))
  replace z1 : IsZip p1 z TI TO .ellipsis := z1
  refine wpAny_bind ?_; simp only [List.zipIdx_cons, List.zipIdx_nil, List.forIn_cons, List.forIn_nil]
  refine wpAny_bind (wpAny_bind (wpAny_onRaise ?_)); show wpAny _ _ (Builtin.SmallTypes.nextOf (.ref j1) >>= _) _ _ _
  refine wpAny_bind (next_k (h1.but s1.extBut D.i1z) (g1.but s1.extBut D.l1z) hx fun p2 i2 s2 => wpAny_pure ?_)
  have O2 : IsPair p2 TO a b := s2.extBut _ _ D.TOi1 (s1.extBut _ _ D.TOz hO)
  refine wpAny_bind (wpAny_seqItems O2 rfl (wpAny_bind (wpAny_updateSeq_pair O2 fun p3 O3 s3 => ?_)))
  replace O3 : IsPair p3 TO x b := O3
  refine wpAny_bind (wpAny_letGo (wpAny_pure ?_)); refine wpAny_bind (wpAny_bind (wpAny_onRaise ?_))
  show wpAny _ _ (Builtin.SmallTypes.nextOf (.ref j2) >>= fun q => _) _ _ _
  refine wpAny_bind (next_k (((h2.but s1.extBut D.i2z).but s2.extBut D.i12.symm).but s3.extBut D.TOi2.symm) (((g2.but s1.extBut D.l2z).but s2.extBut D.l2i1).but s3.extBut D.l2TO) hy fun p4 i4 s4 => wpAny_pure ?_)
  have O4 : IsPair p4 TO x b := s4.extBut _ _ D.TOi2 O3
  refine wpAny_bind (wpAny_seqItems O4 rfl (wpAny_bind (wpAny_updateSeq_pair O4 fun p5 O5 s5 => ?_)))
  replace O5 : IsPair p5 TO x y := O5
  refine wpAny_bind (wpAny_letGo (wpAny_pure (wpAny_pure ?_))); refine wpAny_bind (wpAny_seqItems O5 rfl (wpAny_bind (wpAny_newTuple ?_)))
  have hsz : p5.objs.size = s.heap.objs.size := by rw [s5.1, s4.1, s3.1, s2.1, s1.1]
  have z5 : IsZip p5 z TI TO .ellipsis := s5.extBut _ _ D.TOz.symm (s4.extBut _ _ D.i2z.symm (s3.extBut _ _ D.TOz.symm (s2.extBut _ _ D.i1z.symm z1)))
  have k5 : ∀ c o, c ≠ z → c ≠ TO → c ≠ j1 → c ≠ j2 → s.heap.get? c = some o → p5.get? c = some o := fun c o c1 c2 c3 c4 e => s5.extBut _ _ c2 (s4.extBut _ _ c4 (s3.extBut _ _ c2 (s2.extBut _ _ c3 (s1.extBut _ _ c1 e))))
  have i15 : ItK b1 p5 j1 l1 (k1 + 1) := ((i2.but s3.extBut D.TOi1.symm).but s4.extBut D.i12).but s5.extBut D.TOi1.symm
  have i25 : ItK b2 p5 j2 l2 (k2 + 1) := i4.but s5.extBut D.TOi2.symm
  have zlt : z < p5.objs.size := Heap.lt_size z5
  show wpAny _ _ (Builtin.SmallTypes.ownedTupleHandOut (.ref z) (.ref p5.objs.size) >>= fun q => _) _ _ _
  refine wpAny_bind ?_; unfold Builtin.SmallTypes.ownedTupleHandOut
  have z6 : IsZip (p5.push { cls := .type "tuple", data := .seq #[x, y] }) z TI TO .ellipsis := Heap.get?_push_of_some _ z5
  refine wpAny_bind (wpAny_setField_rec z6 (by simp) fun p7 z7 s7 => ?_)
  replace z7 : IsZip p7 z TI TO (rawInt p5.objs.size) := z7
  refine wpAny_setField_rec z7 (by simp) fun p8 z8 s8 => ?_
  replace z8 : IsZip p8 z TI TO (rawInt p5.objs.size) := z8
  have up : ∀ c o, c ≠ z → p5.get? c = some o → p8.get? c = some o := fun c o c1 e => s8.extBut _ _ c1 (s7.extBut _ _ c1 (Heap.get?_push_of_some _ e))
  have t8 : IsPair p8 p5.objs.size x y := s8.extBut _ _ (Nat.ne_of_gt zlt) (s7.extBut _ _ (Nat.ne_of_gt zlt) (Heap.get?_push_size _ rfl))
  have e8 : p8.objs.size = p5.objs.size + 1 := by rw [s8.1, s7.1, Heap.size_push]
  rw [hsz] at z8 t8 e8
  refine wpAny_pure ⟨_, rfl, ?_⟩
  show Q (.ref p5.objs.size) _
  rw [hsz]
  exact hQ p8 z8 (up _ _ D.TOz O5) (i15.keep fun o e => up _ o D.i1z e) (i25.keep fun o e => up _ o D.i2z e) t8 e8 fun c o c1 c2 c3 c4 e => up c o c1 (k5 c o c1 c2 c3 c4 e)
theorem zn_end {Q : Fin → Shared → Prop} (hh : A.handled = none) (D : ZipApart z TI TO j1 j2 l1 l2) (hz : IsZip s.heap z TI TO .none) (hI : IsPair s.heap TI (.ref j1) (.ref j2)) (hO : IsPair s.heap TO a b)
    (h1 : ItK b1 s.heap j1 l1 k1) (h2 : ItK b2 s.heap j2 l2 k2) (g1 : SqK b1 s.heap l1 xs) (g2 : SqK b2 s.heap l2 ys) (hend : xs[k1]? = none ∨ ys[k2]? = none)
    (hE : ∀ h' e, (∀ c o, c ≠ z → c ≠ TO → c ≠ j1 → c ≠ j2 → s.heap.get? c = some o → h'.get? c = some o) → (∃ ob, h'.get? e = some ob ∧ ob.cls = .type "StopIteration") → E (.ref e) { s with heap := h' }) :
    wpAny (model prog w) A (Builtin.«zip.__next__» ⟨[.ref z], []⟩) Q E s := by
  show wpAny _ _ (field (.ref z) 2 >>= fun q => _) _ _ _
  refine wpAny_bind (wpAny_field hz rfl (x := .bool false) rfl ?_); show wpAny _ _ (field (.ref z) 3 >>= _) _ _ _
  refine wpAny_bind (wpAny_field hz rfl (x := .ref TI) rfl (wpAny_bind (wpAny_seqItems hI rfl ?_)))
  show wpAny _ _ (Builtin.SmallTypes.ownedTupleIsFree (.ref z) >>= fun q => _) _ _ _
  refine wpAny_bind ?_; unfold Builtin.SmallTypes.ownedTupleIsFree
  refine wpAny_bind (wpAny_field hz rfl (x := .none) rfl (wpAny_pure ?_)); simp only [if_true]
  refine wpAny_bind (wpAny_rule (wpAny_bind (wpAny_field hz rfl (x := .ref TO) rfl (wpAny_bind (wpAny_setField_rec hz (by simp) fun p1 z1 s1 => ?_)))))
  replace z1 : IsZip p1 z TI TO .ellipsis := z1
  refine wpAny_bind ?_; simp only [List.zipIdx_cons, List.zipIdx_nil, List.forIn_cons, List.forIn_nil]
  refine wpAny_bind (wpAny_bind (wpAny_onRaise ?_)); show wpAny _ _ (Builtin.SmallTypes.nextOf (.ref j1) >>= _) _ _ _
  cases hx : xs[k1]? with
  | none =>
    refine wpAny_bind (stop_k hh (h1.but s1.extBut D.i1z) (g1.but s1.extBut D.l1z) hx fun p2 e s2 he => ?_)
    obtain ⟨oe, hoe, hce⟩ := he
    have z2 : IsZip p2 z TI TO .ellipsis := s2 _ _ D.i1z.symm z1
    have hez : e ≠ z := fun q => by subst q; rw [z2] at hoe; cases hoe; simp at hce
    refine wpAny_setField_rec z2 (by simp) fun p3 _ s3 => hE p3 e (fun c o c1 _ c3 _ q => s3.extBut _ _ c1 (s2 _ _ c3 (s1.extBut _ _ c1 q))) ⟨oe, s3.extBut _ _ hez hoe, hce⟩
  | some x =>
    have hy : ys[k2]? = none := by rcases hend with h | h; (rw [hx] at h; cases h); exact h
    refine wpAny_bind (next_k (h1.but s1.extBut D.i1z) (g1.but s1.extBut D.l1z) hx fun p2 i2 s2 => wpAny_pure ?_)
    have O2 : IsPair p2 TO a b := s2.extBut _ _ D.TOi1 (s1.extBut _ _ D.TOz hO)
    refine wpAny_bind (wpAny_seqItems O2 rfl (wpAny_bind (wpAny_updateSeq_pair O2 fun p3 O3 s3 => ?_)))
    refine wpAny_bind (wpAny_letGo (wpAny_pure ?_)); refine wpAny_bind (wpAny_bind (wpAny_onRaise ?_))
    show wpAny _ _ (Builtin.SmallTypes.nextOf (.ref j2) >>= fun q => _) _ _ _
    refine wpAny_bind (stop_k hh (((h2.but s1.extBut D.i2z).but s2.extBut D.i12.symm).but s3.extBut D.TOi2.symm) (((g2.but s1.extBut D.l2z).but s2.extBut D.l2i1).but s3.extBut D.l2TO) hy fun p4 e s4 he => ?_)
    obtain ⟨oe, hoe, hce⟩ := he
    have z4 : IsZip p4 z TI TO .ellipsis := s4 _ _ D.i2z.symm (s3.extBut _ _ D.TOz.symm (s2.extBut _ _ D.i1z.symm z1))
    have hez : e ≠ z := fun q => by subst q; rw [z4] at hoe; cases hoe; simp at hce
    refine wpAny_setField_rec z4 (by simp) fun p5 _ s5 => hE p5 e (fun c o c1 c2 c3 c4 q => s5.extBut _ _ c1 (s4 _ _ c4 (s3.extBut _ _ c2 (s2.extBut _ _ c3 (s1.extBut _ _ c1 q))))) ⟨oe, s5.extBut _ _ hez hoe, hce⟩
theorem pz_item {x y : Value} {Q : Option Value → Shared → Prop} (D : ZipApart z TI TO j1 j2 l1 l2) (hz : IsZip s.heap z TI TO .none) (hI : IsPair s.heap TI (.ref j1) (.ref j2)) (hO : IsPair s.heap TO a b)
    (h1 : ItK b1 s.heap j1 l1 k1) (h2 : ItK b2 s.heap j2 l2 k2) (g1 : SqK b1 s.heap l1 xs) (g2 : SqK b2 s.heap l2 ys) (hx : xs[k1]? = some x) (hy : ys[k2]? = some y)
    (hQ : ∀ h', IsZip h' z TI TO (rawInt s.heap.objs.size) → IsPair h' TO x y → ItK b1 h' j1 l1 (k1 + 1) → ItK b2 h' j2 l2 (k2 + 1) → IsPair h' s.heap.objs.size x y → h'.objs.size = s.heap.objs.size + 1 →
      (∀ c o, c ≠ z → c ≠ TO → c ≠ j1 → c ≠ j2 → s.heap.get? c = some o → h'.get? c = some o) → Q (some (.ref s.heap.objs.size)) { s with heap := h' }) :
    wpAny (model prog w) A (pyNext (.ref z)) Q E s := by
  have ty : s.TypeIs (.ref z) "zip" := ⟨_, hz, rfl⟩
  unfold pyNext
  exact wpAny_bind (wpAny_attempt (wpAny_callSpecial?_slot (name := Str.ofString "__next__") ty F.slot_zip_next (wpAny_call_entry F.slot_zip_next ty F.entry_zip_next (zn_item D hz hI hO h1 h2 g1 g2 hx hy fun h' q1 q2 q3 q4 q5 q6 q7 => wpAny_pure (hQ h' q1 q2 q3 q4 q5 q6 q7)) (F.args_zip_next_1 _))))
theorem pz_end {Q : Option Value → Shared → Prop} (hh : A.handled = none) (D : ZipApart z TI TO j1 j2 l1 l2) (hz : IsZip s.heap z TI TO .none) (hI : IsPair s.heap TI (.ref j1) (.ref j2)) (hO : IsPair s.heap TO a b)
    (h1 : ItK b1 s.heap j1 l1 k1) (h2 : ItK b2 s.heap j2 l2 k2) (g1 : SqK b1 s.heap l1 xs) (g2 : SqK b2 s.heap l2 ys) (hend : xs[k1]? = none ∨ ys[k2]? = none)
    (hQ : ∀ h', (∀ c o, c ≠ z → c ≠ TO → c ≠ j1 → c ≠ j2 → s.heap.get? c = some o → h'.get? c = some o) → Q none { s with heap := h' }) : wpAny (model prog w) A (pyNext (.ref z)) Q E s := by
  have ty : s.TypeIs (.ref z) "zip" := ⟨_, hz, rfl⟩
  unfold pyNext
  refine wpAny_bind (wpAny_attempt (wpAny_callSpecial?_slot (name := Str.ofString "__next__") ty F.slot_zip_next (wpAny_call_entry F.slot_zip_next ty F.entry_zip_next (zn_end hh D hz hI hO h1 h2 g1 g2 hend fun h' e hk he => ?_) (F.args_zip_next_1 _))))
  obtain ⟨ob, hob, hcl⟩ := he
  exact wpAny_bind (wpAny_isInstance (T := "StopIteration") (b := true) ⟨ob, hob, hcl⟩ isSubtype_stop (wpAny_pure (hQ _ hk)))
end
end ZT
set_option Elab.async false
set_option linter.all false
set_option maxRecDepth 100000
set_option maxHeartbeats 4000000
namespace ZT
open PySem PySem.Spec PyProof.Rows
open Sem (wp)
noncomputable abbrev zh1 (c1 : String) (h : Heap) (l1 : Addr) : Heap := h.push { cls := .type c1, data := .fields #[.ref l1, .int 0 0] }
noncomputable abbrev zh2 (c1 c2 : String) (h : Heap) (l1 l2 : Addr) : Heap := (zh1 c1 h l1).push { cls := .type c2, data := .fields #[.ref l2, .int 0 0] }
noncomputable abbrev zh3 (c1 c2 : String) (h : Heap) (l1 l2 : Addr) : Heap := (zh2 c1 c2 h l1 l2).push { cls := .type "tuple", data := .seq #[.ref h.objs.size, .ref (zh1 c1 h l1).objs.size] }
noncomputable abbrev zh4 (c1 c2 : String) (h : Heap) (l1 l2 : Addr) : Heap := (zh3 c1 c2 h l1 l2).push { cls := .type "tuple", data := .seq #[.none, .none] }
noncomputable abbrev zh5 (c1 c2 : String) (h : Heap) (l1 l2 : Addr) : Heap := (zh4 c1 c2 h l1 l2).push { cls := .type "zip", data := .fields #[.none, .bool false, .bool false, .ref (zh2 c1 c2 h l1 l2).objs.size, .ref (zh3 c1 c2 h l1 l2).objs.size] }
theorem new_tt (l1 l2 : Addr) (xs ys : Array Value) : Meets (Builtin.«zip.__new__» ⟨[.type "zip", .ref l1, .ref l2], []⟩) (fun _ R s => s.heap.IsTuple l1 xs ∧ s.heap.IsTuple l2 ys ∧
      R (.ok (.ret (.ref (zh4 "tuple_iterator" "tuple_iterator" s.heap l1 l2).objs.size))) { s with heap := zh5 "tuple_iterator" "tuple_iterator" s.heap l1 l2 }) :=
  .of_wp fun prog w A R s h => by
    obtain ⟨hp, g, d, tk, os⟩ := s
    obtain ⟨t1, t2, h⟩ := h
    have hsub := sub_zip
    have T1 : Heap.IsTuple (Shared.heap ⟨hp, g, d, tk, os⟩) l1 xs := t1
    have T2 : Heap.IsTuple (Shared.heap ⟨hp.push { cls := .type "tuple_iterator", data := .fields #[.ref l1, .int 0 0] }, g, d, tk, os⟩) l2 ys := Heap.IsTuple.push t2 _
    wp_walk using wpAny_pyIter_tuple T1, wpAny_pyIter_tuple T2
    exact ⟨_, rfl, h⟩
section
variable {prog : Program} {w : World} {A : Around} {E : Value → Shared → Prop} {s : Shared}
theorem call_tt {l1 l2 : Addr} {xs ys : Array Value} {Q : Value → Shared → Prop} (t1 : s.heap.IsTuple l1 xs) (t2 : s.heap.IsTuple l2 ys)
    (h : ∀ h', IsZip h' (s.heap.objs.size + 4) (s.heap.objs.size + 2) (s.heap.objs.size + 3) .none → IsPair h' (s.heap.objs.size + 2) (.ref s.heap.objs.size) (.ref (s.heap.objs.size + 1)) →
      IsPair h' (s.heap.objs.size + 3) .none .none → ItK false h' s.heap.objs.size l1 0 → ItK false h' (s.heap.objs.size + 1) l2 0 → (∀ c o, s.heap.get? c = some o → h'.get? c = some o) → Q (.ref (s.heap.objs.size + 4)) { s with heap := h' }) :
    wpAny (model prog w) A (call (.type "zip") [.ref l1, .ref l2]) Q E s := by
  refine callType_new F.called_zip (by decide) (F.typeCall_zip_2 _ _) (F.newCall_zip_2 _ _) (fun obj => F.args_object_init_3 obj _ _) F.entry_zip_new (new_tt l1 l2 xs ys) ⟨t1, t2, ?_⟩
  have z1 : (zh1 "tuple_iterator" s.heap l1).objs.size = s.heap.objs.size + 1 := Heap.size_push ..
  have z2 : (zh2 "tuple_iterator" "tuple_iterator" s.heap l1 l2).objs.size = s.heap.objs.size + 2 := by rw [Heap.size_push, z1]
  have z3 : (zh3 "tuple_iterator" "tuple_iterator" s.heap l1 l2).objs.size = s.heap.objs.size + 3 := by rw [Heap.size_push, z2]
  have z4 : (zh4 "tuple_iterator" "tuple_iterator" s.heap l1 l2).objs.size = s.heap.objs.size + 4 := by rw [Heap.size_push, z3]
  have q5 : (zh5 "tuple_iterator" "tuple_iterator" s.heap l1 l2).get? (zh4 "tuple_iterator" "tuple_iterator" s.heap l1 l2).objs.size = some _ := Heap.get?_push_size _ rfl
  have q4 : (zh5 "tuple_iterator" "tuple_iterator" s.heap l1 l2).get? (zh3 "tuple_iterator" "tuple_iterator" s.heap l1 l2).objs.size = some _ := Heap.get?_push_of_some _ (Heap.get?_push_size _ rfl)
  have q3 : (zh5 "tuple_iterator" "tuple_iterator" s.heap l1 l2).get? (zh2 "tuple_iterator" "tuple_iterator" s.heap l1 l2).objs.size = some _ := Heap.get?_push_of_some _ (Heap.get?_push_of_some _ (Heap.get?_push_size _ rfl))
  have q2 : (zh5 "tuple_iterator" "tuple_iterator" s.heap l1 l2).get? (zh1 "tuple_iterator" s.heap l1).objs.size = some _ := Heap.get?_push_of_some _ (Heap.get?_push_of_some _ (Heap.get?_push_of_some _ (Heap.get?_push_size _ rfl)))
  have q1 : (zh5 "tuple_iterator" "tuple_iterator" s.heap l1 l2).get? s.heap.objs.size = some _ := Heap.get?_push_of_some _ (Heap.get?_push_of_some _ (Heap.get?_push_of_some _ (Heap.get?_push_of_some _ (Heap.get?_push_size _ rfl))))
  show _ ∧ _
  rw [z2, z3, z4] at q5; rw [z1, z2] at q3; rw [z3] at q4
  rw [z1] at q2; rw [z4]
  exact ⟨⟨_, q5, rfl⟩, h _ q5 q3 q4 ⟨_, q1, rfl, rfl⟩ ⟨_, q2, rfl, rfl⟩ fun c o q => Heap.get?_push_of_some _ (Heap.get?_push_of_some _ (Heap.get?_push_of_some _ (Heap.get?_push_of_some _ (Heap.get?_push_of_some _ q))))⟩
end
end ZT
namespace MR
open PySem PySem.Spec PyProof.Rows L2
noncomputable def SK (bb : Bool) (K : PySem.W.Frag) (H : Hp) (a : Addr) (xs : List V) : Prop := match bb with
  | true => SqL K H a xs
  | false => SqT K H a xs
theorem SK.at {X : Cx} {pins : List (Addr × Obj)} {σ : L2.St} {H : Hp} {s : Shared} {bb : Bool} {a : Addr} {xs : List V} (I : L2.Inv X pins σ H s) (h : SK bb X.K H a xs) : ∃ its : List Value, Vals xs its ∧ ZT.SqK bb s.heap a its.toArray ∧ xs.length ≤ sizeLine := by
  cases bb with
  | true => obtain ⟨its, r, p, z⟩ := I.list h; exact ⟨its, r, p.isList, z⟩
  | false => obtain ⟨its, r, p, z⟩ := I.tuple h; exact ⟨its, r, p, z⟩
theorem SK.inj {X : Cx} {pins : List (Addr × Obj)} {σ : L2.St} {H : Hp} {s : Shared} {bb : Bool} {a : Addr} {xs ys : List V} (I : L2.Inv X pins σ H s) (h : SK bb X.K H a xs) (h' : SK bb X.K H a ys) : xs = ys := by
  cases bb with
  | true => exact I.list_inj h h'
  | false => exact I.tuple_inj h h'
noncomputable def ItzK (b1 b2 : Bool) (K : PySem.W.Frag) (a b : Addr) : It :=
  ⟨fun i H => ∃ xs ys x y, SK b1 K H a xs ∧ SK b2 K H b ys ∧ xs[i]? = some x ∧ ys[i]? = some y, fun i H z H' => ∃ p x y, H p = none ∧ z = .ref p ∧ H' = upd H p (.tup [x, y]) ∧ (∀ xs, SK b1 K H a xs → xs[i]? = some x) ∧ ∀ ys, SK b2 K H b ys → ys[i]? = some y,
    fun i H => ∃ xs ys, SK b1 K H a xs ∧ SK b2 K H b ys ∧ (xs.length ≤ i ∨ ys.length ≤ i)⟩
theorem turn_zipK {b1 b2 : Bool} {P : Program} {w : World} {K : PySem.W.Frag} {elts : List Expr} {x1} {pos : Pos} (a b z TI TO i1 i2 : Addr) (D : ZipApart z TI TO i1 i2 a b) : Turn P w K (.Tuple elts x1 pos) (ItzK b1 b2 K a b) [z, TI, TO, i1, i2] z
    (fun i h => IsZip h z TI TO .none ∧ IsPair h TI (.ref i1) (.ref i2) ∧ (∃ u v, IsPair h TO u v) ∧ ZT.ItK b1 h i1 a i ∧ ZT.ItK b2 h i2 b i) where
  mem := by simp
  obj := fun i h st c hb => by
    obtain ⟨h1, h2, ⟨u, v, h3⟩, h4', h5'⟩ := st
    obtain ⟨o4, h4, d4⟩ := h4'.obj
    obtain ⟨o5, h5, d5⟩ := h5'.obj
    simp only [List.mem_cons, List.not_mem_nil, or_false] at hb
    rcases hb with rfl | rfl | rfl | rfl | rfl
    · exact ⟨_, h1, fun v z => by simp at z⟩
    · exact ⟨_, h2, fun v z => by simp at z⟩
    · exact ⟨_, h3, fun v z => by simp at z⟩
    · exact ⟨_, h4, fun v z => by rw [d4] at z; cases z⟩
    · exact ⟨_, h5, fun v z => by rw [d5] at z; cases z⟩
  keep := fun i h h' st k => by
    obtain ⟨h1, h2, ⟨u, v, h3⟩, h4, h5⟩ := st
    exact ⟨k z (by simp) _ h1, k TI (by simp) _ h2, ⟨u, v, k TO (by simp) _ h3⟩, h4.keep (k i1 (by simp)), h5.keep (k i2 (by simp))⟩
  item := by
    intro X hP hw hK hc i pins s σ H E I hf st hg
    subst hP hw hK
    obtain ⟨h1, h2, ⟨u0, v0, h3⟩, h4, h5⟩ := st
    obtain ⟨xs, ys, x, y, sq1, sq2, hx, hy⟩ := hg
    obtain ⟨its1, hv1, pl1, hz1⟩ := SK.at I sq1
    obtain ⟨its2, hv2, pl2, hz2⟩ := SK.at I sq2
    obtain ⟨u, hu, r⟩ := hv1.get hx
    obtain ⟨u', hu', r'⟩ := hv2.get hy
    refine ZT.pz_item D h1 h2 h3 h4 h5 pl1 pl2 (by simpa using hu) (by simpa using hu') fun h' o1 o2 o3 o4 o5 o6 o7 => ?_
    refine ⟨_, rfl, ?_⟩
    have hfr : H s.heap.objs.size = none := I.hok.fresh (Nat.le_refl _)
    have I1 : L2.Inv X pins σ (upd H s.heap.objs.size (.tup [x, y])) { s with heap := h', toks := s.toks } :=
      Inv.turnNew (ch := [z, TI, TO, i1, i2]) I hf (fun c o hb q => o7 c o (fun z => hb (by simp [z])) (fun z => hb (by simp [z])) (fun z => hb (by simp [z])) (fun z => hb (by simp [z])) q) (Nat.le_refl _)
        (show ObjOk X.prog X.w _ h' _ (.tup [x, y]) from ⟨by show 2 ≤ sizeLine; decide, [u, u'], .cons r (.cons r' .nil), ⟨_, o5, rfl, _, rfl⟩⟩)
    refine wpAny_letOwnedTupleGo_zip o1 fun h9 e2 sb2 => ?_
    have hlt : ∀ c ∈ [z, TI, TO, i1, i2], c < s.heap.objs.size := fun c hb => by
      simp only [List.mem_cons, List.not_mem_nil, or_false] at hb
      rcases hb with rfl | rfl | rfl | rfl | rfl
      · exact Heap.lt_size h1
      · exact Heap.lt_size h2
      · exact Heap.lt_size h3
      · exact h4.lt
      · exact h5.lt
    have hnone : ∀ c ∈ [z, TI, TO, i1, i2], (upd H s.heap.objs.size (.tup [x, y])) c = none := fun c hb => by rw [upd_ne (Nat.ne_of_lt (hlt c hb))]; exact (hf c hb).1
    obtain ⟨f0, f1, f2, f3, f4, f5⟩ := hf z (by simp)
    have I2 := I1.turned (t' := s.toks) (h' := h9) (it := z) (fun c o hb q => sb2.2 c hb |>.trans q) (hnone z (by simp)) f1 f3 f4 f5
    have hTI : IsPair h' TI (.ref i1) (.ref i2) := o7 TI _ D.TIz D.TITO D.TIi1 D.TIi2 h2
    refine ⟨.ref s.heap.objs.size, _, I2, rfl, ⟨_, x, y, hfr, rfl, rfl, fun ys sq' => ?_, fun ys sq' => ?_⟩, ⟨e2, (sb2.2 TI D.TIz).trans hTI, ⟨_, _, (sb2.2 TO D.TOz).trans o2⟩, o3.keep (fun o q => (sb2.2 i1 D.i1z).trans q), o4.keep (fun o q => (sb2.2 i2 D.i2z).trans q)⟩, hnone⟩
    · rw [SK.inj I sq' sq1]; exact hx
    · rw [SK.inj I sq' sq2]; exact hy
  done := by
    intro X hP hw hK hc i pins s σ H E I hf st hg
    subst hP hw hK
    obtain ⟨h1, h2, ⟨u0, v0, h3⟩, h4, h5⟩ := st
    obtain ⟨xs, ys, sq1, sq2, hx⟩ := hg
    obtain ⟨its1, hv1, pl1, hz1⟩ := SK.at I sq1
    obtain ⟨its2, hv2, pl2, hz2⟩ := SK.at I sq2
    have hl1 := hv1.length
    have hl2 := hv2.length
    refine ZT.pz_end (I.ok.hd hc) D h1 h2 h3 h4 h5 pl1 pl2 (by simp; omega) fun h' k => ⟨rfl, ?_⟩
    have nch : ∀ b u, H b = some u → b ∉ [z, TI, TO, i1, i2] := fun b u e hb => by rw [(hf b hb).1] at e; cases e
    have k' : ∀ b o, b ∉ [z, TI, TO, i1, i2] → s.heap.get? b = some o → h'.get? b = some o := fun c o hb q => k c o (fun z => hb (by simp [z])) (fun z => hb (by simp [z])) (fun z => hb (by simp [z])) (fun z => hb (by simp [z])) q
    refine I.step (g' := s.gens) (d' := s.drawn) (t' := s.toks) (ch := [z, TI, TO, i1, i2]) (fun b hb => ?_) (fun b o _ _ hc e _ => k' b o hc e) (fun b o _ _ hc e _ => ⟨o.slots, k' b o hc e⟩) (fun _ _ _ _ n => n) (fun b u hc e => ⟨u, k' b u hc e⟩) (fun _ _ e => e) (fun _ _ _ e => e) (fun b ps e => ⟨#[], by rw [e]; simp⟩) (fun m hm => ?_) (fun b u e => ?_) I.bare
    · obtain ⟨_, f1, _, f3, f4, f5⟩ := hf b hb
      exact ⟨f3, f1, f4, f5⟩
    · obtain ⟨o1, es, ep, ho, r⟩ := hm
      exact ⟨o1, es, ep, k' _ o1 (fun z => (hf _ z).2.1 rfl) ho, r⟩
    · refine (I.hok b u e).stay (fun c v hc q => k' c v ?_ q) (fun _ q => q) fun _ _ q => q
      rcases hc with z | z
      · rw [z]; exact nch b u e
      · exact nch c _ z
  self := fun _ _ _ _ _ st h => wpAny_pyIter_zip st.1 h
section
variable {X : Cx} {elts : List Expr} {x1 : Nat} {tpos : Pos}
noncomputable def iZipT (K : PySem.W.Frag) (ta : TA) : TI := fun σ H R => ta σ H fun vs H1 => ∃ a b xs ys, vs = [.ref a, .ref b] ∧ SqT K H1 a xs ∧ SqT K H1 b ys ∧ R (ItzK false false K a b) H1
theorem pi_zipT {a b : Expr} {ta : TA} {p pos : Pos} (hg : Gl X "zip") (hm : X.mg "zip" = none) (ha : PA X [a, b] ta) (hs : starEach [a, b] X.env = (false, eval a X.env) :: starEach [b] X.env := by rfl) (hpl : (backTo pos (starEach [b] X.env)).any (·.1) = false := by rfl) : PI X (.Tuple elts x1 tpos) (.Call (.Name "zip" p) [a, b] [] pos) (iZipT X.K ta) := by
  intro pins s σ H R I h
  refine Call_ (ld_blt I hg hm boot_zip (PyProof.Rows.callWith_type1 (thn (ha pos pins s σ H _ I h) fun us s1 ⟨vs, H1, I1, r1, q1⟩ => ?_) hs hpl))
  obtain ⟨l1, l2, xs, ys, rfl, sq1, sq2, q⟩ := q1
  obtain ⟨u, u', rfl, ru, ru'⟩ := vals2 r1
  cases ru; cases ru'
  obtain ⟨its1, hv1, pl1, hz1⟩ := I1.tuple sq1
  obtain ⟨its2, hv2, pl2, hz2⟩ := I1.tuple sq2
  have lt1 : l1 < s1.heap.objs.size := by obtain ⟨o, e, _⟩ := pl1; exact Heap.lt_size e
  have lt2 : l2 < s1.heap.objs.size := by obtain ⟨o, e, _⟩ := pl2; exact Heap.lt_size e
  refine ZT.call_tt pl1 pl2 fun h' o1 o2 o3 o4 o5 o7 => ?_
  have I2 : L2.Inv X pins σ H1 { s1 with heap := h' } := I1.kept (t' := s1.toks) o7
  refine wpAny_pyIter_zip o1 ⟨_, _, _, _, H1, rfl, I2, turn_zipK (b1 := false) (b2 := false) l1 l2 _ _ _ _ _ (zip_apart _ _ _ lt1 lt2), ⟨o1, o2, ⟨_, _, o3⟩, o4, o5⟩, fun b hb => ?_, q⟩
  have hb' : s1.heap.objs.size ≤ b := by
    simp only [List.mem_cons, List.not_mem_nil, or_false] at hb
    rcases hb with rfl | rfl | rfl | rfl | rfl <;> first | exact Nat.le_add_right _ _ | exact Nat.le_refl _
  exact L2.Inv.fpOk I1 hb' (I1.hok.fresh hb')
noncomputable def pairsU (us ws : List U) : List U := (us.zip ws).map fun p => .tup [p.1, p.2]
theorem pairsU_get (us ws : List U) (k : Nat) : (pairsU us ws)[k]? = pairU us[k]? ws[k]? := by
  unfold pairsU
  rw [List.getElem?_map, List.zip, List.getElem?_zipWith]
  cases us[k]? <;> cases ws[k]? <;> rfl
theorem itzT_rep {K : PySem.W.Frag} {H : Hp} {α : List Addr} {a b : Addr} {us ws : List U} {xs ys : List V} (sa : SqT K H a xs) (sb : SqT K H b ys) (ra : RepL K H α us xs) (rb : RepL K H α ws ys) : ItRep K (ItzK false false K a b) (.seq (pairsU us ws)) H α := by
  intro H2 α2 L2 g A2 k
  have mv : ∀ (c : Addr) (vs : List U) (zs : List V), SqT K H c zs → RepL K H α vs zs → ∃ zs2, SqT K H2 c zs2 ∧ RepL K H2 α2 vs zs2 := fun c vs zs s r => by
    have m := (show RepU K H α (.tup vs) (.ref c) by unfold RepU; exact ⟨c, zs, rfl, s, r⟩).mono g
    unfold RepU at m
    obtain ⟨c', zs2, e, s2, r2⟩ := m
    cases e
    exact ⟨zs2, s2, r2⟩
  obtain ⟨xs2, sa2, ra2⟩ := mv a us xs sa ra
  obtain ⟨ys2, sb2, rb2⟩ := mv b ws ys sb rb
  refine ⟨fun u eu => ?_, fun eu => ?_⟩
  · have eu : (pairsU us ws)[k]? = some u := by simpa [IU.at] using eu
    rw [pairsU_get] at eu
    cases h1 : us[k]? with
    | none => rw [h1] at eu; simp [pairU] at eu
    | some u1 =>
      cases h2 : ws[k]? with
      | none => rw [h1, h2] at eu; simp [pairU] at eu
      | some u2 =>
        rw [h1, h2] at eu
        simp [pairU] at eu
        subst eu
        obtain ⟨x, hx, rx⟩ := ra2.get h1
        obtain ⟨y, hy, ry⟩ := rb2.get h2
        refine ⟨⟨xs2, ys2, x, y, sa2, sb2, hx, hy⟩, ?_⟩
        rintro z H3 ⟨p, v, v', hp, rfl, rfl, hy1, hy2⟩
        have e1 := hy1 xs2 sa2
        have e2 := hy2 ys2 sb2
        rw [hx] at e1; cases e1
        rw [hy] at e2; cases e2
        exact A2.tup (.cons rx (.cons ry .nil)) hp
  · have eu : (pairsU us ws)[k]? = none := by simpa [IU.at] using eu
    rw [pairsU_get] at eu
    refine ⟨xs2, ys2, sa2, sb2, ?_⟩
    cases h1 : us[k]? with
    | none => left; rw [← ra2.length]; exact List.getElem?_eq_none_iff.mp h1
    | some u1 =>
      cases h2 : ws[k]? with
      | none => right; rw [← rb2.length]; exact List.getElem?_eq_none_iff.mp h2
      | some u2 => rw [h1, h2] at eu; simp [pairU] at eu
end
end MR
set_option Elab.async false
set_option linter.all false
set_option maxRecDepth 100000
set_option maxHeartbeats 4000000
namespace MR
open PySem PySem.Spec PyProof.Rows PySem.Calls L2
theorem bls_get {bs : List Bool} : ∀ {us : List Value}, Vals (bs.map V.bl) us → ∀ (i : Nat) (v : Value), us[i]? = some v → ∃ b, bs[i]? = some b ∧ v = .bool b := by
  induction bs with
  | nil => intro us r i v e; rw [List.map_nil] at r; cases r; simp at e
  | cons n ns ih =>
    intro us r i v e
    rw [List.map_cons] at r
    cases r with
    | cons r1 r2 =>
      cases i with
      | zero => simp at e; subst e; exact ⟨n, rfl, r1⟩
      | succ i => simpa using ih r2 i v (by simpa using e)
theorem bls_len {bs : List Bool} : ∀ {us : List Value}, Vals (bs.map V.bl) us → us.length = bs.length := by
  induction bs with
  | nil => intro us r; rw [List.map_nil] at r; cases r; rfl
  | cons n ns ih =>
    intro us r
    rw [List.map_cons] at r
    cases r with
    | cons r1 r2 => simp [ih r2]
theorem rng_all (bs : List Bool) : ((List.range bs.length).all fun i => (bs[i]?).getD true) = bs.all id := by
  rw [Bool.eq_iff_iff, List.all_eq_true, List.all_eq_true]
  constructor
  · intro h b hb
    obtain ⟨i, hi, e⟩ := List.getElem_of_mem hb
    have := h i (List.mem_range.mpr hi)
    simp only [List.getElem?_eq_getElem hi, Option.getD_some, e] at this
    exact this
  · intro h i hi
    have hi' := List.mem_range.mp hi
    simp only [List.getElem?_eq_getElem hi', Option.getD_some]
    exact h _ (List.getElem_mem hi')
section
variable {X : Cx}
theorem kept_it {s : Shared} {h' : Heap} {o : Obj} (hk : ∀ b x, b ∉ [s.heap.objs.size] → (s.heap.push o).get? b = some x → h'.get? b = some x) : ∀ b x, s.heap.get? b = some x → h'.get? b = some x :=
  fun b x e => hk b x (fun hm => by rw [List.mem_singleton.mp hm] at e; exact Nat.lt_irrefl _ (Heap.lt_size e)) (Heap.get?_push_of_some _ e)
theorem call_allL (hc : X.calm = true) : CallR X (.builtin "all") (fun xs H Q => ∃ (p : Addr) (bs : List Bool), xs = [.ref p] ∧ SqL X.K H p (bs.map V.bl) ∧ Q (.bl (bs.all id)) H) := by
  intro pins s σ H xs us Q I r h
  obtain ⟨p, bs, rfl, hq, q⟩ := h
  obtain ⟨u, rfl, rx⟩ := vals1 r
  cases rx
  obtain ⟨its, r', pl, hz⟩ := I.list hq
  have hl := pl.isList
  have hlt : p < s.heap.objs.size := by obtain ⟨_, e, _⟩ := hl; exact Heap.lt_size e
  refine call_all_walk (wpAny_pyIter_list hl ?_)
  refine ⟨s.heap.objs.size, [s.heap.objs.size, p], [s.heap.objs.size], its.toArray.size, _, _, fun i => (bs[i]?).getD true, rfl, Walks.list (A := Around.in1 _) (I.ok.hd hc) _ p (Nat.ne_of_lt hlt) its.toArray,
    ⟨⟨_, Heap.get?_push_size _ rfl, rfl, rfl⟩, hl.push _⟩, fun i v s' Q' E' hP hQ => ?_, fun h' tk hk => ?_⟩
  · obtain ⟨b, e, rfl⟩ := bls_get r' i v (by simpa using hP)
    simp only [e, Option.getD_some] at hQ
    exact wpAny_truthy_bool hQ
  · have e : ((List.range its.toArray.size).all fun i => (bs[i]?).getD true) = bs.all id := by
      rw [List.size_toArray, bls_len r']; exact rng_all bs
    rw [e]
    exact ⟨.bl (bs.all id), H, I.kept (kept_it hk), rfl, q⟩
end
noncomputable def toB : U → Option Bool
  | .bl b => some b
  | _ => none
theorem toBs_ok {K : PySem.W.Frag} {H : Hp} {α : List Addr} : ∀ {us : List U} {xs : List V} {bs : List Bool}, RepL K H α us xs → mapO toB us = some bs → xs = bs.map V.bl
  | [], xs, ys, r, h => by unfold RepL at r; subst r; cases h; rfl
  | u :: us, xs, ys, r, h => by
    unfold RepL at r
    obtain ⟨x, xr, rfl, r1, r2⟩ := r
    obtain ⟨y, e1, h⟩ := Option.bind_eq_some_iff.mp h
    obtain ⟨yr, e2, h⟩ := Option.map_eq_some_iff.mp h
    subst h
    cases u <;> simp only [toB] at e1 <;> first
      | (cases e1; unfold RepU at r1; subst r1; rw [toBs_ok r2 e2]; rfl)
      | cases e1
noncomputable def semAll : SC := fun us L => match us with
  | [.ref n] => (seqAt L n).bind fun l => (mapO toB l).map fun bs => (.bl (bs.all id), L)
  | _ => none
theorem sem_all {K : PySem.W.Frag} : SemC K (fun xs H Q => ∃ (p : Addr) (bs : List Bool), xs = [.ref p] ∧ SqL K H p (bs.map V.bl) ∧ Q (.bl (bs.all id)) H) semAll := by
  intro H α L us xs z L' Q A r e q
  unfold semAll at e
  split at e
  · obtain ⟨l, hl, e⟩ := Option.bind_eq_some_iff.mp e
    obtain ⟨bs, e1, e⟩ := Option.map_eq_some_iff.mp e
    cases e
    obtain ⟨x, rfl, rx⟩ := r.one
    obtain ⟨a, ys, rfl, sq, r2⟩ := refs_at A hl rx
    rw [toBs_ok r2 e1] at sq
    exact ⟨a, bs, rfl, sq, q _ H α (.refl _ _) A rfl⟩
  · cases e
end MR
set_option Elab.async false
set_option linter.all false
set_option maxRecDepth 100000
set_option maxHeartbeats 4000000
namespace MR
open PySem PySem.Spec PyProof.Rows PySem.Calls L2
section
variable {X : Cx}
end
end MR
set_option Elab.async false
set_option linter.all false
set_option maxRecDepth 100000
set_option maxHeartbeats 4000000
namespace ZT
open PySem PySem.Spec PyProof.Rows
open Sem (wp)
theorem meets_enumerate_newT (l : Addr) (items : Array Value) :
    Meets (Builtin.«enumerate.__new__» ⟨[.type "enumerate", .ref l], []⟩) (fun _ R s => s.heap.IsTuple l items ∧
      R (.ok (.ret (.ref (s.heap.push { cls := .type "tuple_iterator", data := .fields #[.ref l, .int 0 0] }).objs.size)))
        { s with heap := (s.heap.push { cls := .type "tuple_iterator", data := .fields #[.ref l, .int 0 0] }).push { cls := .type "enumerate", data := .fields #[.none, .bool false, .ref s.heap.objs.size, rawInt 0, .none, .none] } }) :=
  .of_wp fun prog w A R s h => by
    obtain ⟨hp, g, d, tk, os⟩ := s; obtain ⟨hl, h⟩ := h
    have hsub := sub_enumerate
    have hL : Heap.IsTuple (Shared.heap ⟨hp, g, d, tk, os⟩) l items := hl
    wp_walk using wpAny_pyIter_tuple hL
    refine wpAny_stack_any fun st => wpAny_pure ?_
    split
    · rename_i c _ _ _ _ _
      cases (c == Value.type "enumerate")
      · wp_walk using wpAny_pyIter_tuple hL
        exact ⟨_, rfl, h⟩
      · wp_walk using wpAny_pyIter_tuple hL
        exact ⟨_, rfl, h⟩
    · wp_walk using wpAny_pyIter_tuple hL
      exact ⟨_, rfl, h⟩
section
variable {prog : Program} {w : World} {A : Around} {E : Value → Shared → Prop} {s : Shared}
theorem call_enumerate_tuple {l : Addr} {items : Array Value} {Q : Value → Shared → Prop} (hL : s.heap.IsTuple l items)
    (h : ∀ h', IsEnum h' (s.heap.objs.size + 1) s.heap.objs.size 0 .none → h'.IsTupleIter s.heap.objs.size l 0 → h'.objs.size = s.heap.objs.size + 2 →
      (∀ b o, s.heap.get? b = some o → h'.get? b = some o) → Q (.ref (s.heap.objs.size + 1)) { s with heap := h' }) :
    wpAny (model prog w) A (call (.type "enumerate") [.ref l]) Q E s := by
  refine callType_new F.called_enumerate (by decide) (F.typeCall_enumerate_1 _) (F.newCall_enumerate_1 _) (fun obj => F.args_object_init_2 obj _) F.entry_enumerate_new
    (meets_enumerate_newT l items) ⟨hL, ?_⟩
  have hz : (s.heap.push { cls := .type "tuple_iterator", data := .fields #[.ref l, .int 0 0] }).objs.size = s.heap.objs.size + 1 := Heap.size_push ..
  show _ ∧ _
  rw [hz]
  have he : IsEnum ((s.heap.push { cls := .type "tuple_iterator", data := .fields #[.ref l, .int 0 0] }).push
      { cls := .type "enumerate", data := .fields #[.none, .bool false, .ref s.heap.objs.size, rawInt 0, .none, .none] }) (s.heap.objs.size + 1) s.heap.objs.size 0 .none := by
    have := Heap.get?_push_size (s.heap.push { cls := .type "tuple_iterator", data := .fields #[.ref l, .int 0 0] })
      (o := { cls := .type "enumerate", data := .fields #[.none, .bool false, .ref s.heap.objs.size, rawInt 0, .none, .none] }) rfl
    rw [hz] at this; exact this
  refine ⟨⟨_, he, rfl⟩, h _ he ⟨_, Heap.get?_push_of_some _ (Heap.get?_push_size _ rfl), rfl, rfl⟩ (by rw [Heap.size_push, hz]) fun b o x => Heap.get?_push_of_some _ (Heap.get?_push_of_some _ x)⟩
end
theorem draws_tuple {prog : Program} {w : World} {A : Around} (hh : A.handled = none) (it l : Addr) (hne : l ≠ it) (items : Array Value) :
    Draws prog w A it [it, l] items.size (fun i v => items[i]? = some v) (fun i h => h.IsTupleIter it l i ∧ h.IsTuple l items) where
  live := fun _ _ st => let ⟨o, ho, _⟩ := st.1; ⟨o, ho⟩
  frame := fun _ _ _ st hk => ⟨st.1.at fun o e => hk it (by simp) o e, st.2.at fun o e => hk l (by simp) o e⟩
  item := fun i s Q E hi st hQ => by
    refine next_tup st.1 st.2 (v := items[i]) (by simp [hi]) fun h' hit' hs' => ?_
    exact hQ _ h' s.toks (by simp [hi]) ⟨hit', st.2.extBut hs'.extBut hne⟩ hs'
  done := fun s Q E st hE => stop_tup hh st.1 st.2 (by simp) hE
section
variable {prog : Program} {w : World} {A : Around} {E : Value → Shared → Prop} {s : Shared}
theorem enum_end_tup {e it l : Addr} {n : Nat} {i : Int} {items : Array Value} {old : Value} {Q : Option Value → Shared → Prop} (hh : A.handled = none)
    (he : IsEnum s.heap e it i old) (hit : s.heap.IsTupleIter it l n) (hl : s.heap.IsTuple l items) (hn : items.size ≤ n)
    (hQ : ∀ h', Heap.ExtBut it s.heap h' → Q none { s with heap := h' }) : wpAny (model prog w) A (pyNext (.ref e)) Q E s := by
  have hT : s.TypeIs (.ref e) "enumerate" := ⟨_, he, rfl⟩
  unfold pyNext
  refine wpAny_bind (wpAny_attempt (wpAny_callSpecial?_slot (name := Str.ofString "__next__") hT F.slot_enumerate_next
    (wpAny_call_entry F.slot_enumerate_next hT F.entry_enumerate_next ?_ (F.args_enumerate_next_1 _))))
  show wpAny _ _ (field (.ref e) 2 >>= _) _ _ _
  refine wpAny_bind (wpAny_field he rfl (x := .ref it) rfl ?_)
  refine wpAny_bind (stop_tup (A := Around.in1 A) hh hit hl (by simp; omega) fun h' x he' hx' => ?_)
  obtain ⟨o, ho, hc⟩ := hx'
  refine wpAny_bind (wpAny_isInstance (T := "StopIteration") (b := true) ⟨o, ho, hc⟩ isSubtype_stop ?_)
  exact wpAny_pure (hQ _ he')
end
end ZT
namespace MR
open PySem PySem.Spec PyProof.Rows L2
noncomputable def IteT (K : PySem.W.Frag) (a : Addr) : It :=
  ⟨fun i H => ∃ xs x, SqT K H a xs ∧ xs[i]? = some x, fun i H x H' => ∃ p v, H p = none ∧ x = .ref p ∧ H' = upd H p (.tup [.int i, v]) ∧ ∀ xs, SqT K H a xs → xs[i]? = some v, fun i H => ∃ xs, SqT K H a xs ∧ xs.length ≤ i⟩
theorem turn_enumT {P : Program} {w : World} {K : PySem.W.Frag} {elts : List Expr} {x1} {pos : Pos} (a e it : Addr) (hne : e ≠ it) : Turn P w K (.Tuple elts x1 pos) (IteT K a) [e, it] e (fun i h => (∃ old, IsEnum h e it i old) ∧ h.IsTupleIter it a i) where
  mem := by simp
  obj := fun i h st b hb => by
    obtain ⟨⟨old, he⟩, o, ho, hc, hd⟩ := st
    rcases List.mem_cons.mp hb with rfl | hb
    · exact ⟨_, he, fun v z => by simp at z⟩
    · have : b = it := by simpa using hb
      subst this
      exact ⟨o, ho, fun v z => by rw [hd] at z; cases z⟩
  keep := fun i h h' st k => by
    obtain ⟨⟨old, he⟩, o, ho, hc, hd⟩ := st
    exact ⟨⟨old, k e (by simp) _ he⟩, o, k it (by simp) _ ho, hc, hd⟩
  item := by
    intro X hP hw hK hc i pins s σ H E I hf st hg
    subst hP hw hK
    obtain ⟨⟨old, he⟩, hit⟩ := st
    obtain ⟨xs, v, sq, hx⟩ := hg
    obtain ⟨its, hv, pl, hz⟩ := I.tuple sq
    obtain ⟨u, hu, r⟩ := hv.get hx
    have hae : e ≠ a := fun q => by
      subst q
      obtain ⟨o, ho, hc, _⟩ := pl
      have : some o = some _ := ho.symm.trans he
      cases this
      simp at hc
    have hai : a ≠ it := fun q => by
      subst q
      obtain ⟨o, ho, hc, _⟩ := pl
      obtain ⟨o', ho', hc', _⟩ := hit
      have : some o = some o' := ho.symm.trans ho'
      cases this
      rw [hc] at hc'; simp at hc'
    have hlt : i < its.toArray.size := by
      have := (List.getElem?_eq_some_iff.mp hu).1
      simpa using this
    refine wpAny_pyNext_enum_itemD (ZT.draws_tuple (A := Around.in1 _) (I.ok.hd hc) it a hai its.toArray) he ⟨hit, pl⟩ hlt hne (by simp [hne, hae]) fun x h' tk px o1 o2 o3 o4 o5 => ?_
    have hxu : x = u := by
      have : its[i]? = some x := by simpa using px
      rw [hu] at this; cases this; rfl
    subst hxu
    refine ⟨_, rfl, ?_⟩
    have hfr : H s.heap.objs.size = none := I.hok.fresh (Nat.le_refl _)
    have I1 : L2.Inv X pins σ (upd H s.heap.objs.size (.tup [.int i, v])) { s with heap := h', toks := tk + 1 } :=
      Inv.turnNew (ch := [e, it]) I hf (fun b o hb q => o5 b o (fun z => hb (by simp [z])) (fun z => hb (by simp [z])) q) (Nat.le_refl _)
        (show ObjOk X.prog X.w _ h' _ (.tup [.int i, v]) from ⟨by show 2 ≤ sizeLine; decide, [.int i tk, x], .cons ⟨_, rfl⟩ (.cons r .nil), ⟨_, o3, rfl, _, rfl⟩⟩)
    refine wpAny_letOwnedTupleGo_enum o1 fun h2 e2 sb2 => ?_
    have hne2 : ∀ b ∈ [e, it], b ≠ s.heap.objs.size := fun b hb z => by
      rcases List.mem_cons.mp hb with q | q
      · have := Heap.lt_size he; rw [← q, z] at this; exact Nat.lt_irrefl _ this
      · have q : b = it := by simpa using q
        obtain ⟨o, ho, _⟩ := hit
        have := Heap.lt_size ho; rw [← q, z] at this; exact Nat.lt_irrefl _ this
    have hnone : ∀ b ∈ [e, it], (upd H s.heap.objs.size (.tup [.int i, v])) b = none := fun b hb => by rw [upd_ne (hne2 b hb)]; exact (hf b hb).1
    obtain ⟨f0, f1, f2, f3, f4, f5⟩ := hf e (by simp)
    have I2 := I1.turned (t' := tk + 1) (h' := h2) (it := e) (fun b o hb q => sb2.2 b hb |>.trans q) (hnone e (by simp)) f1 f3 f4 f5
    obtain ⟨oi, hoi, hci, hdi⟩ := o2.1
    refine ⟨.ref s.heap.objs.size, _, I2, rfl, ⟨_, v, hfr, rfl, rfl, fun ys sq' => ?_⟩, ⟨⟨_, e2⟩, oi, (sb2.2 it (Ne.symm hne)).trans hoi, hci, hdi⟩, hnone⟩
    rw [I.tuple_inj sq' sq]; exact hx
  done := by
    intro X hP hw hK hc i pins s σ H E I hf st hg
    subst hP hw hK
    obtain ⟨⟨old, he⟩, hit⟩ := st
    obtain ⟨xs, sq, hx⟩ := hg
    obtain ⟨its, hv, pl, hz⟩ := I.tuple sq
    obtain ⟨f0, f1, f2, f3, f4, f5⟩ := hf it (by simp)
    have hlen := hv.length
    exact ZT.enum_end_tup (I.ok.hd hc) he hit pl (by simp; omega) fun h' eb => ⟨rfl, I.turned (t' := s.toks) (fun b o hb q => eb b o hb q) f0 f1 f3 f4 f5⟩
  self := fun _ _ _ _ _ st h => by obtain ⟨⟨old, he⟩, _⟩ := st; exact wpAny_pyIter_enum he h
section
variable {X : Cx} {elts : List Expr} {x1 : Nat} {tpos : Pos}
noncomputable def iEnumT (K : PySem.W.Frag) (ta : TA) : TI := fun σ H R => ta σ H fun vs H1 => ∃ a xs, vs = [.ref a] ∧ SqT K H1 a xs ∧ R (IteT K a) H1
theorem pi_enumT {a : Expr} {ta : TA} {p pos : Pos} (hg : Gl X "enumerate") (hm : X.mg "enumerate" = none) (ha : PA X [a] ta) (hs : starEach [a] X.env = [(false, eval a X.env)] := by rfl) : PI X (.Tuple elts x1 tpos) (.Call (.Name "enumerate" p) [a] [] pos) (iEnumT X.K ta) := by
  intro pins s σ H R I h
  refine Call_ (ld_blt I hg hm boot_enum (PyProof.Rows.callWith_type1 (thn (ha pos pins s σ H _ I h) fun us s1 ⟨vs, H1, I1, r1, q1⟩ => ?_) hs rfl))
  obtain ⟨l, xs, rfl, sq, q⟩ := q1
  obtain ⟨u, rfl, ru⟩ := vals1 r1
  cases ru
  obtain ⟨its, hv, pl, hz⟩ := I1.tuple sq
  refine ZT.call_enumerate_tuple pl fun h' o1 o2 o3 o4 => ?_
  have I2 : L2.Inv X pins σ H1 { s1 with heap := h' } := I1.kept (t' := s1.toks) o4
  refine wpAny_pyIter_enum o1 ⟨_, _, _, _, H1, rfl, I2, turn_enumT l (s1.heap.objs.size + 1) s1.heap.objs.size (Nat.ne_of_gt (Nat.lt_succ_self _)), ⟨⟨_, o1⟩, o2⟩, fun b hb => ?_, q⟩
  have hb' : s1.heap.objs.size ≤ b := by
    simp only [List.mem_cons, List.not_mem_nil, or_false] at hb
    rcases hb with rfl | rfl
    · exact Nat.le_succ _
    · exact Nat.le_refl _
  exact L2.Inv.fpOk I1 hb' (I1.hok.fresh hb')
noncomputable def enumU (us : List U) : List U := us.mapIdx fun i u => .tup [.int i, u]
noncomputable def fEnumA (g : FA) : FI := fun δ L => (g δ L).bind fun p => match p.1 with
  | [.ref n] => (seqAt p.2 n).map fun _ => (.enm n, p.2)
  | [.tup us] => some (.seq (enumU us), p.2)
  | _ => none
theorem iteT_rep {K : PySem.W.Frag} {H : Hp} {α : List Addr} {a : Addr} {us : List U} {xs : List V} (sq : SqT K H a xs) (r : RepL K H α us xs) : ItRep K (IteT K a) (.seq (enumU us)) H α := by
  intro H2 α2 L2 g A2 k
  have m := (show RepU K H α (.tup us) (.ref a) by unfold RepU; exact ⟨a, xs, rfl, sq, r⟩).mono g
  unfold RepU at m
  obtain ⟨c', xs, e, sq2, r2⟩ := m
  cases e
  refine ⟨fun u eu => ?_, fun eu => ?_⟩
  · have eu : (enumU us)[k]? = some u := by simpa [IU.at] using eu
    unfold enumU at eu
    rw [List.getElem?_mapIdx] at eu
    obtain ⟨w, hw, eu⟩ := Option.map_eq_some_iff.mp eu
    subst eu
    obtain ⟨x, hx, rx⟩ := r2.get hw
    refine ⟨⟨xs, x, sq2, hx⟩, ?_⟩
    rintro y H3 ⟨p, v, hp, rfl, rfl, hy⟩
    have := hy xs sq2
    rw [hx] at this; cases this
    exact A2.tup (.cons rfl (.cons rx .nil)) hp
  · have eu : (enumU us)[k]? = none := by simpa [IU.at] using eu
    unfold enumU at eu
    rw [List.getElem?_mapIdx] at eu
    have : us[k]? = none := by simpa using eu
    exact ⟨xs, sq2, by rw [← r2.length]; exact List.getElem?_eq_none_iff.mp this⟩
theorem pif_enumA {a : Expr} {g : FA} {p pos : Pos} (hg : Gl X "enumerate") (hm : X.mg "enumerate" = none) (ha : PAF X [a] g) (hs : starEach [a] X.env = [(false, eval a X.env)] := by rfl) : PIF X (.Tuple elts x1 tpos) (.Call (.Name "enumerate" p) [a] [] pos) (fEnumA g) := by
  refine PI.imp (PI.or (pi_enum hg hm ha hs) (pi_enumT hg hm ha hs)) ?_
  rintro σ H R ⟨α, δ, L, A, S, i, L3, e, q⟩
  obtain ⟨⟨us, L1⟩, e1, e⟩ := Option.bind_eq_some_iff.mp e
  simp only at e
  split at e
  · obtain ⟨l, hl, e⟩ := Option.map_eq_some_iff.mp e
    cases e
    refine .inl ⟨α, δ, L, A, S, _, _, e1, fun xs H1 α1 g1 A1 r1 => ?_⟩
    obtain ⟨x, rfl, rx⟩ := r1.one
    obtain ⟨a', ys, rfl, sq, r2⟩ := refs_at A1 hl rx
    obtain ⟨a2, ea, ha2⟩ := rx.ref_of A1
    cases ha2
    exact ⟨a', ys, rfl, sq, q _ H1 α1 g1 A1 (ite_rep (fun _ _ _ _ _ => trivial) ea)⟩
  · cases e
    refine .inr ⟨α, δ, L, A, S, _, _, e1, fun xs H1 α1 g1 A1 r1 => ?_⟩
    obtain ⟨x, rfl, rx⟩ := r1.one
    unfold RepU at rx
    obtain ⟨a', ys, rfl, sq, r2⟩ := rx
    exact ⟨a', ys, rfl, sq, q _ H1 α1 g1 A1 (iteT_rep sq r2)⟩
  · cases e
end
end MR
set_option Elab.async false
set_option linter.all false
set_option maxRecDepth 100000
set_option maxHeartbeats 4000000
namespace MR
open PySem PySem.Spec PyProof.Rows L2
structure CompScC (X : Cx) (scope : Scope) (N' : List Str) (ix : List (Option Nat)) : Prop where
  kind : scope.kind = .function
  own : (scope.names.all fun y => scope.names.lookup y.1 == some y.2) = true
  free : (scope.names.all fun y => y.2 != .free || (X.env.kindOf y.1 == some .cell || X.env.kindOf y.1 == some .free)) = true
  ixs : ((N'.zip ix).all fun p => match p.2 with | none => true | some i => (X.N[i]? == some p.1) && (scope.names.lookup p.1 == some .free)) = true
  len : N'.length = ix.length
section
variable {X : Cx} {scope : Scope} {N' : List Str} {ix : List (Option Nat)} {pins : List (Addr × Obj)} {σ : L2.St} {H2 : Hp} {s2 : Shared} {cl : List (Str × Addr)} {fp : List Addr}
theorem CompScC.lk (S : CompScC X scope N' ix) {x : Str} {k : NameKind} (h : (x, k) ∈ scope.names) : scope.names.lookup x = some k := by
  have := List.all_eq_true.mp S.own _ h
  simpa using this
theorem CompScC.names (S : CompScC X scope N' ix) : ∀ x ∈ scope.names, x.2 = .local → scope.names.lookup x.1 = some .local := fun x hx hl => by
  have := S.lk (x := x.1) (k := x.2) hx
  rw [hl] at this
  exact this
theorem CompScC.clos (S : CompScC X scope N' ix) (ok : X.Ok) : ∃ cl, closureFor scope X.env = pure cl ∧ (∀ x c, cl.lookup x = some c → X.env.cells.lookup x = some c) ∧ ∀ y ∈ scope.names, y.2 = .free → ∃ c, cl.lookup y.1 = some c := by
  refine closureFor_ex fun y hy hf => ?_
  have := List.all_eq_true.mp S.free y hy
  rw [hf] at this
  simp at this
  exact ok.has y.1 this
end
section
variable {X : Cx} {scope : Scope} {N' : List Str} {ix : List (Option Nat)} {elt tg iter c : Expr} {pos : Pos} {fi : FI} {g : FG} {ft : FT} {fe : FE}
end
end MR
set_option Elab.async false
set_option linter.all false
set_option maxRecDepth 100000
set_option maxHeartbeats 4000000
namespace MR
open PySem PySem.Spec PyProof.Rows L2
noncomputable def Its (x : Str) : It := ⟨fun i _ => i < x.cps.size, fun i H v H' => H' = H ∧ ∃ c, x.cps[i]? = some c ∧ v = .str ⟨#[c]⟩, fun i _ => x.cps.size ≤ i⟩
theorem turn_str {P : Program} {w : World} {K : PySem.W.Frag} {tg : Expr} (x : Str) (t : Tok) (it : Addr) : Turn P w K tg (Its x) [it] it (fun i h => h.IsStrIter it "str_ascii_iterator" x t i) where
  mem := by simp
  obj := fun i h st b hb => by
    have e : b = it := by simpa using hb
    subst e
    obtain ⟨o, e, c, d⟩ := st
    exact ⟨o, e, fun v z => by rw [d] at z; cases z⟩
  keep := fun i h h' st k => by
    obtain ⟨o, e, r⟩ := st
    exact ⟨o, k it (by simp) o e, r⟩
  item := by
    intro X hP hw hK hc i pins s σ H E I hf st hg
    subst hP hw hK
    obtain ⟨f0, f1, f2, f3, f4, f5⟩ := hf it (by simp)
    have hg : i < x.cps.size := hg
    have hx : x.cps[i]? = some (x.cps[i]'hg) := Array.getElem?_eq_getElem hg
    refine wpAny_pyNext_ascii_item st hx fun h' st' sb => ?_
    have I1 : Inv X pins σ H { s with heap := h', toks := s.toks + 1 } := I.turned (t' := s.toks + 1) (fun b o hb e => (sb.2 b hb).trans e) f0 f1 f3 f4 f5
    obtain ⟨o, e, c, d⟩ := id st'
    exact ⟨_, rfl, go_of (s := { s with heap := h', toks := s.toks + 1 }) e c d (by decide) ⟨.str ⟨#[x.cps[i]'hg]⟩, H, I1, ⟨_, rfl⟩, ⟨rfl, _, hx, rfl⟩, st', fun b hb => (hf b hb).1⟩⟩
  done := by
    intro X hP hw hK hc i pins s σ H E I hf st hg
    subst hP hw hK
    obtain ⟨f0, f1, f2, f3, f4, f5⟩ := hf it (by simp)
    have hx : x.cps[i]? = none := Array.getElem?_eq_none hg
    exact wpAny_pyNext_ascii_end (I.ok.hd hc) st hx fun h' eb => ⟨rfl, I.turned (t' := s.toks) (fun b o hb e => eb b o hb e) f0 f1 f3 f4 f5⟩
  self := fun _ _ _ _ _ st h => wpAny_pyIter_striter_ascii st h
noncomputable def iStr (tl : TE) : TI := fun σ H R => tl σ H fun v H1 => ∃ x : Str, v = .str x ∧ x.cps.all (· < 128) = true ∧ R (Its x) H1
section
variable {X : Cx} {tg : Expr}
theorem pi_str {l : Expr} {tl : TE} (hl : PE X l tl) : PI X tg l (iStr tl) := by
  intro pins s σ H R I h
  refine thn (hl pins s σ H _ I h) fun v s1 ⟨x, H1, I1, r1, q1⟩ => ?_
  obtain ⟨x, rfl, ha, q⟩ := q1
  obtain ⟨t, rfl⟩ := r1
  refine wpAny_pyIter_ascii ha ?_
  refine ⟨s1.heap.objs.size, [s1.heap.objs.size], _, _, H1, rfl, I1.kept (t' := s1.toks) fun b o e => Heap.get?_push_of_some _ e, turn_str x t _, ⟨_, Heap.get?_push_size _ rfl, rfl, rfl⟩, fun b hb => ?_, q⟩
  have e : b = s1.heap.objs.size := by simpa using hb
  subst e
  exact I1.fpOk (Nat.le_refl _) (I1.hok.fresh (Nat.le_refl _))
noncomputable def chrU (x : Str) : List U := x.cps.toList.map fun c => .str ⟨#[c]⟩
noncomputable def fStrI (f : FE) : FI := fun δ L => (f δ L).bind fun p => match p.1 with
  | .str x => if x.cps.all (· < 128) = true then some (.seq (chrU x), p.2) else none
  | _ => none
theorem its_rep {K : PySem.W.Frag} {H : Hp} {α : List Addr} (x : Str) : ItRep K (Its x) (.seq (chrU x)) H α := by
  intro H2 α2 L2 g A2 k
  refine ⟨fun u eu => ?_, fun eu => ?_⟩
  · have eu : (chrU x)[k]? = some u := by simpa [IU.at] using eu
    unfold chrU at eu
    rw [List.getElem?_map] at eu
    obtain ⟨c, hc, eu⟩ := Option.map_eq_some_iff.mp eu
    subst eu
    have hc' : x.cps[k]? = some c := by simpa using hc
    have hk : k < x.cps.size := by
      have := (List.getElem?_eq_some_iff.mp hc).1
      simpa using this
    refine ⟨hk, ?_⟩
    rintro y H3 ⟨rfl, c', hc2, rfl⟩
    rw [hc'] at hc2; cases hc2
    exact ⟨.refl _ _, A2, rfl⟩
  · have eu : (chrU x)[k]? = none := by simpa [IU.at] using eu
    unfold chrU at eu
    have : x.cps.toList.length ≤ k := by simpa using eu
    show x.cps.size ≤ k
    simpa using this
theorem pif_str {l : Expr} {f : FE} (hl : PEF X l f) : PIF X tg l (fStrI f) := by
  refine PI.imp (pi_str hl) ?_
  rintro σ H R ⟨α, δ, L, A, S, i, L3, e, q⟩
  obtain ⟨⟨u, L1⟩, e1, e⟩ := Option.bind_eq_some_iff.mp e
  simp only at e
  split at e
  · split at e
    · rename_i ha
      cases e
      refine ⟨α, δ, L, A, S, _, _, e1, fun x H1 α1 g1 A1 r1 => ?_⟩
      unfold RepU at r1
      subst r1
      exact ⟨_, rfl, ha, q _ H1 α1 g1 A1 (its_rep _)⟩
    · cases e
  · cases e
end
end MR
set_option Elab.async false
set_option linter.all false
set_option maxRecDepth 100000
set_option maxHeartbeats 4000000
namespace ZT
open PySem PySem.Spec PyProof.Rows
open Sem (wp)
theorem nolen_lri : typeLookup (.type "list_reverseiterator") "__len__" = pure none := by rw [typeLookup_type, builtinLookup_eq_fast]; kernel_rfl
theorem hint_lri : typeLookup (.type "list_reverseiterator") "__length_hint__" = pure (some (.builtin "list_reverseiterator.__length_hint__")) := by rw [typeLookup_type, builtinLookup_eq_fast]; kernel_rfl
section
variable {prog : Program} {w : World} {A : Around} {s : Shared} {R : Result → Shared → Prop}
variable {I : Addr} {fp wr : List Addr} {G : Array GenState → Array GenState → Prop} {n : Nat} {P : Nat → Value → Prop} {St : Nat → Shared → Prop}
theorem extend_rev (W : WalksS prog w A.in1 I fp wr G n P St) (hT : ∀ i s, St i s → s.TypeIs (.ref I) "list_reverseiterator") (S : Addr) (res : Value) (c₀ : Nat) (hst : St 0 s) (hSf : S ∉ fp) (hI : I ∈ fp)
    (hS : s.heap.get? S = some { cls := .type "list", data := .seq #[] c₀ })
    (hR : ∀ s' acc' c', Moved (S :: wr) G s s' → s'.heap.get? S = some { cls := .type "list", dict := none, data := .seq acc' c', slots := #[] } → ItemsOf P acc' n → R (.ok (.ret res)) s') (hn : n ≤ sizeLine) :
    wpAny (model prog w) A.in1 (Builtin.List.listExtendWith (.ref S) (.ref I) res)
      (fun fin s' => match fin with | .done f => R (.ok f) s' | .again c' => c'.quiet = true ∧ codeAny (model prog w) A c' R s') (fun e s' => R (.error e) s') s := by
  have hSI : S ≠ I := fun e => hSf (e ▸ hI)
  unfold Builtin.List.listExtendWith
  refine wpAny_bind (wpAny_typeOf (hT 0 _ hst) ?_)
  have h1 : Builtin.List.listSameRef (.ref S) (.ref I) = false := by simp [Builtin.List.listSameRef, hSI]
  have h2 : (Value.type "list_reverseiterator" == Value.type "list") = false := by decide
  have h3 : (Value.type "list_reverseiterator" == Value.type "tuple") = false := by decide
  simp only [h1, h2, h3, Bool.or_false, Bool.false_eq_true, if_false]
  refine wpAny_bind (W.self 0 _ _ _ hst ?_)
  refine wpAny_bind (wpAny_holding ?_)
  unfold Builtin.List.listLengthHint
  refine wpAny_bind (wpAny_specialOf (hT 0 _ hst) nolen_lri ?_)
  show wpAny _ A.in1 (specialOf (Value.ref I) (Str.ofString "__length_hint__") >>= _) _ _ _
  refine wpAny_bind (wpAny_specialOf (hT 0 _ hst) hint_lri ?_)
  generalize hid : ("list_reverseiterator.__length_hint__" : String) = id0
  wp_delta
  rw [show splitId id0 = some ("list_reverseiterator", "__length_hint__") from by subst hid; decide +kernel]
  subst hid
  refine wpAny_bind (wpAny_isInstance (b := true) (hT 0 _ hst) (by rw [isSubtype_type]; kernel_rfl) ?_)
  refine wpAny_pure ?_
  rw [if_neg (by decide)]
  refine wpAny_pure ⟨plainId_quiet F.plain_extend_loop _, codeAny_extend_loopS W hn _ hSf _ n 0 _ _ _ rfl (Nat.zero_le _) hst hS (ItemsOf.nil P) fun s' acc' c' hm hS' hacc => hR s' acc' c' hm hS' hacc⟩
theorem list_init_rev (W : WalksS prog w A.in1 I fp wr G n P St) (hT : ∀ i s, St i s → s.TypeIs (.ref I) "list_reverseiterator") (S : Addr) (hst : St 0 s) (hSf : S ∉ fp) (hI : I ∈ fp)
    (hS : s.heap.get? S = some { cls := .type "list", data := .seq #[] })
    (hR : ∀ s' acc' c', Moved (S :: wr) G s s' → s'.heap.get? S = some { cls := .type "list", dict := none, data := .seq acc' c', slots := #[] } → ItemsOf P acc' n → R (.ok (.ret .none)) s') (hn : n ≤ sizeLine) :
    wpAny (model prog w) A.in1 (Builtin.«list.__init__» ⟨[.ref S, .ref I], []⟩)
      (fun fin s' => match fin with | .done f => R (.ok f) s' | .again c' => c'.quiet = true ∧ codeAny (model prog w) A c' R s') (fun e s' => R (.error e) s') s := by
  show wpAny _ A.in1 (do let old ← Builtin.List.listItems (.ref S); Builtin.List.listUpdate (.ref S) (fun _ => #[]); letGo old.toList.reverse; Builtin.List.listExtendWith (.ref S) (.ref I) .none) _ _ s
  refine wpAny_bind ?_
  unfold Builtin.List.listItems
  refine wpAny_bind (wpAny_seqItems hS rfl (wpAny_pure ?_))
  show wpAny _ A.in1 (updateSeq S (fun _ => #[]) >>= fun _ => letGo (#[] : Array Value).toList.reverse >>= fun _ => Builtin.List.listExtendWith (.ref S) (.ref I) .none) _ _ s
  refine wpAny_bind (wpAny_updateSeq hS rfl ?_)
  have hS₂ := Heap.get?_update_self (Obj.mapSeq (fun _ => (#[] : Array Value))) hS rfl
  have oth : ∀ b o, b ≠ S → s.heap.get? b = some o → (s.heap.update S (Obj.mapSeq (fun _ => (#[] : Array Value)))).get? b = some o :=
    fun b o hb e => (Heap.get?_update_other _ _ (Ne.symm hb)).trans e
  refine wpAny_bind (wpAny_letGo ?_)
  refine extend_rev (hn := hn) W hT S .none _ (W.frame 0 s _ s.toks hst (Nat.le_refl _) fun b hb o e => oth b o (fun h => hSf (h ▸ hb)) e) hSf hI hS₂ fun s' acc' c' hm hS' hacc => ?_
  exact hR s' acc' c' (Moved.trans W.gtrans ((Moved.refl W.grefl).then_heap (Nat.le_refl _) fun b o hb e => oth b o (fun h => hb (h ▸ List.mem_cons_self)) e) hm) hS' hacc
end
section
variable {prog : Program} {w : World} {A : Around} {E : Value → Shared → Prop} {s : Shared}
variable {I : Addr} {fp wr : List Addr} {G : Array GenState → Array GenState → Prop} {n : Nat} {P : Nat → Value → Prop} {St : Nat → Shared → Prop}
theorem call_list_rev {Q : Value → Shared → Prop} (W : WalksS prog w A.in1.in1 I fp wr G n P St) (hT : ∀ i s, St i s → s.TypeIs (.ref I) "list_reverseiterator") (hst : St 0 s) (hfp : ∀ b ∈ fp, b < s.heap.objs.size) (hI : I ∈ fp)
    (hQ : ∀ s' acc' c', Moved (s.heap.objs.size :: wr) G { s with heap := s.heap.push { cls := .type "list", data := .seq #[] } } s' →
      s'.heap.get? s.heap.objs.size = some { cls := .type "list", dict := none, data := .seq acc' c', slots := #[] } → ItemsOf P acc' n → Q (.ref s.heap.objs.size) s') (hn : n ≤ sizeLine) :
    wpAny (model prog w) A (call (.type "list") [.ref I]) Q E s := by
  have hSf : s.heap.objs.size ∉ fp := fun hm => Nat.lt_irrefl _ (hfp _ hm)
  refine callType_codes (Q₁ := fun obj s₁ => obj = .ref s.heap.objs.size ∧ s₁ = { s with heap := s.heap.push { cls := .type "list", data := .seq #[] } }) F.called_list (F.typeCall_list_1 _) F.entry_list_init
    (code_list_new _ ⟨rfl, rfl⟩) fun obj s₁ h₁ => ?_
  obtain ⟨rfl, rfl⟩ := h₁
  have hS : (s.heap.push { cls := .type "list", data := .seq #[] }).get? s.heap.objs.size = some { cls := .type "list", data := .seq #[] } := Heap.get?_push_size _ rfl
  refine ⟨⟨_, hS, rfl⟩, F.args_list_init_2 _ _, list_init_rev (hn := hn) W hT _ (W.frame 0 s _ s.toks hst (Nat.le_refl _) fun b _ o e => Heap.get?_push_of_some _ e) hSf hI hS fun s' acc' c' hm hS' hacc => ?_⟩
  exact ⟨rfl, hQ s' acc' c' hm hS' hacc⟩
theorem collect_rev {Q : List Value → Shared → Prop}
    (W : WalksS prog w A.in1 I fp wr G n P St) (hT : ∀ i s, St i s → s.TypeIs (.ref I) "list_reverseiterator") (hst : St 0 s) (hfp : ∀ b ∈ fp, b < s.heap.objs.size) (hI : I ∈ fp)
    (hQ : ∀ s' acc, Moved wr G s s' → ItemsOf P acc n → Q acc.toList s') (hn : n ≤ sizeLine) : wpAny (model prog w) A (collect (.ref I)) Q E s := by
  have hSf : s.heap.objs.size ∉ fp := fun hm => Nat.lt_irrefl _ (hfp _ hm)
  unfold collect
  refine wpAny_bind (wpAny_runValue (codeAny_builtin F.entry_proto_collect ?_))
  rw [Around.under_plainId F.plain_proto_collect _]
  show wpAny _ A.in1 (newList [] >>= fun l => again (.builtin "list.__iadd__" ⟨[l, .ref I], []⟩)) _ _ s
  refine wpAny_bind (wpAny_newObj_type ?_)
  refine wpAny_pure ⟨plainId_quiet F.plain_list_iadd _, codeAny_builtin F.entry_list_iadd ?_⟩
  rw [Around.under_plainId F.plain_list_iadd _]
  have hst₁ := W.frame 0 s (s.heap.push { cls := .type "list", data := .seq ([] : List Value).toArray }) s.toks hst (Nat.le_refl _) fun b _ o e => Heap.get?_push_of_some _ e
  have hS₁ : (s.heap.push { cls := .type "list", data := .seq ([] : List Value).toArray }).get? s.heap.objs.size = some { cls := .type "list", data := .seq ([] : List Value).toArray } := Heap.get?_push_size _ rfl
  show wpAny _ A.in1 (Builtin.List.listExtendWith (.ref s.heap.objs.size) (.ref I) (.ref s.heap.objs.size)) _ _ _
  have hSI : s.heap.objs.size ≠ I := fun e => hSf (e ▸ hI)
  unfold Builtin.List.listExtendWith
  refine wpAny_bind (wpAny_typeOf (hT 0 _ hst₁) ?_)
  have h1 : Builtin.List.listSameRef (.ref s.heap.objs.size) (.ref I) = false := by simp [Builtin.List.listSameRef, hSI]
  have h2 : (Value.type "list_reverseiterator" == Value.type "list") = false := by decide
  have h3 : (Value.type "list_reverseiterator" == Value.type "tuple") = false := by decide
  simp only [h1, h2, h3, Bool.or_false, Bool.false_eq_true, if_false]
  refine wpAny_bind (W.self 0 _ _ _ hst₁ ?_)
  refine wpAny_bind (wpAny_holding ?_)
  unfold Builtin.List.listLengthHint
  refine wpAny_bind (wpAny_specialOf (hT 0 _ hst₁) nolen_lri ?_)
  show wpAny _ A.in1 (specialOf (Value.ref I) (Str.ofString "__length_hint__") >>= _) _ _ _
  refine wpAny_bind (wpAny_specialOf (hT 0 _ hst₁) hint_lri ?_)
  generalize hid : ("list_reverseiterator.__length_hint__" : String) = id0
  wp_delta
  rw [show splitId id0 = some ("list_reverseiterator", "__length_hint__") from by subst hid; decide +kernel]
  subst hid
  refine wpAny_bind (wpAny_isInstance (b := true) (hT 0 _ hst₁) (by rw [isSubtype_type]; kernel_rfl) ?_)
  refine wpAny_pure ?_
  rw [if_neg (by decide)]
  refine wpAny_pure ⟨plainId_quiet F.plain_extend_loop _, codeAny_extend_loopS W hn _ hSf _ n 0 _ _ _ rfl (Nat.zero_le _) hst₁ hS₁ (ItemsOf.nil P) fun s' acc' c' hm hS' hacc => ?_⟩
  show wpAny _ A (load s.heap.objs.size >>= _) _ _ s'
  refine wpAny_bind (wpAny_load hS' ?_)
  exact wpAny_pure (hQ s' acc' (Moved.drop_new (o := { cls := .type "list", data := .seq ([] : List Value).toArray }) (tk := s.toks) hm (Nat.le_refl _)) hacc)
theorem code_tuple_new_rev {Q₁ : Value → Shared → Prop} (W : WalksS prog w A.in1.in1 I fp wr G n P St) (hT : ∀ i s, St i s → s.TypeIs (.ref I) "list_reverseiterator") (hst : St 0 s) (hfp : ∀ b ∈ fp, b < s.heap.objs.size) (hI : I ∈ fp)
    (h : ∀ s' acc, Moved wr G s s' → ItemsOf P acc n → Q₁ (.ref s'.heap.objs.size) { s' with heap := s'.heap.push { cls := .type "tuple", data := .seq acc } }) (hsz : n ≤ sizeLine) :
    codeAny (model prog w) A (.call (.builtin "tuple.__new__") ⟨[.type "tuple", .ref I], []⟩) (wants Q₁ E) s := by
  refine codeAny_of_tree ?_
  show wpAny _ A.in1 (do checkBuiltinCall "tuple.__new__" ⟨[.type "tuple", .ref I], []⟩; again (.builtin "tuple.__new__" ⟨[.type "tuple", .ref I], []⟩)) _ _ s
  refine wpAny_bind (wpAny_of_eq (F.newCall_tuple_1 _) (wpAny_pure ⟨plainId_quiet F.plain_tuple_new _, codeAny_builtin F.entry_tuple_new ?_⟩))
  rw [Around.under_plainId F.plain_tuple_new _]
  have hsub := sub_tuple_self
  have hinit := init_tuple_lookup
  have hmh := madeHere_tuple
  have hTI := hT 0 s hst
  wp_walk using wpAny_typeOf hTI, collect_rev (hn := hsz) W hT hst hfp hI
  intro s' acc hm hacc
  show wpAny _ _ (Builtin.Tuple.tupleExact acc.toList.toArray >>= fun v => ret v) _ _ _
  unfold Builtin.Tuple.tupleExact
  refine wpAny_bind (wpAny_newObj_type ?_ (by show acc.toList.toArray.size ≤ sizeLine; simp only [Array.toArray_toList]; rw [hacc.1]; exact hsz))
  refine wpAny_pure ?_
  have e : acc.toList.toArray = acc := by simp
  rw [e]
  exact h s' acc hm hacc
theorem call_tuple_rev {Q : Value → Shared → Prop} (W : WalksS prog w A.in1.in1.in1 I fp wr G n P St) (hT : ∀ i s, St i s → s.TypeIs (.ref I) "list_reverseiterator") (hst : St 0 s) (hfp : ∀ b ∈ fp, b < s.heap.objs.size) (hI : I ∈ fp)
    (hQ : ∀ s' acc, Moved wr G s s' → ItemsOf P acc n → Q (.ref s'.heap.objs.size) { s' with heap := s'.heap.push { cls := .type "tuple", data := .seq acc } }) (hsz : n ≤ sizeLine) :
    wpAny (model prog w) A (call (.type "tuple") [.ref I]) Q E s := by
  refine callType_codes (Q₁ := fun obj s₁ => s₁.TypeIs obj "tuple" ∧ Q obj s₁) F.called_tuple (F.typeCall_tuple_1 _) F.entry_object_init
    (code_tuple_new_rev (hsz := hsz) W hT hst hfp hI fun s' acc hm hacc => ⟨⟨_, Heap.get?_push_size _ rfl, rfl⟩, hQ s' acc hm hacc⟩) fun obj s₁ h₁ => ?_
  exact ⟨h₁.1, F.args_object_init_2 obj _, object_init_meets F.called_tuple.init.lookup F.called_tuple.made (by decide) prog w A.in1 _ s₁ ⟨h₁.1, rfl, h₁.2⟩⟩
end
end ZT
set_option Elab.async false
set_option linter.all false
set_option maxRecDepth 100000
set_option maxHeartbeats 4000000
namespace MR
open PySem PySem.Spec PyProof.Rows PySem.Calls L2
section
variable {X : Cx}
theorem boot_reversed : bootBuiltins "reversed" = some (.type "reversed") := by decide +kernel
theorem boot_listT : bootBuiltins "list" = some (.type "list") := by decide +kernel
theorem boot_tupleT : bootBuiltins "tuple" = some (.type "tuple") := by decide +kernel
theorem rev_items {its : List Value} {acc : Array Value} (h : ItemsOf (fun i v => its.toArray[its.toArray.size - 1 - i]? = some v) acc its.toArray.size) : acc.toList = its.reverse := by
  obtain ⟨h1, h2⟩ := h
  apply List.ext_getElem?
  intro i
  have hz : its.toArray.size = its.length := by simp
  by_cases hi : i < its.length
  · have hs : i < acc.size := by rw [h1, hz]; exact hi
    have := h2 i acc[i] (Array.getElem?_eq_getElem hs)
    rw [hz, List.getElem?_toArray] at this
    rw [Array.getElem?_toList, Array.getElem?_eq_getElem hs, List.getElem?_reverse hi, this]
  · rw [List.getElem?_eq_none (by simp; omega), List.getElem?_eq_none (by simp; omega)]
noncomputable def tLRev (K : PySem.W.Frag) (ta : TA) : TE := fun σ H Q => ta σ H fun vs H1 => ∃ q ys, vs = [.ref q] ∧ SqL K H1 q ys ∧ ∀ l, H1 l = none → Q (.ref l) (upd H1 l (.lst ys.reverse))
noncomputable def tTRev (K : PySem.W.Frag) (ta : TA) : TE := fun σ H Q => ta σ H fun vs H1 => ∃ q ys, vs = [.ref q] ∧ SqL K H1 q ys ∧ ∀ l, H1 l = none → Q (.ref l) (upd H1 l (.tup ys.reverse))
theorem pe_lrev {a : Expr} {ta : TA} {p p' pos pos' : Pos} (hc : X.calm = true) (hgL : Gl X "list") (hmL : X.mg "list" = none) (hg : Gl X "reversed") (hm : X.mg "reversed" = none) (ha : PA X [a] ta) (hs : starEach [a] X.env = [(false, eval a X.env)] := by rfl)
    (hs2 : starEach [.Call (.Name "reversed" p') [a] [] pos'] X.env = [(false, eval (.Call (.Name "reversed" p') [a] [] pos') X.env)] := by rfl) : PE X (.Call (.Name "list" p) [.Call (.Name "reversed" p') [a] [] pos'] [] pos) (tLRev X.K ta) := by
  intro pins s σ H Q I h
  refine wpAny_Call_Name_kw (ld_blt I hgL hmL boot_listT ?_)
  refine PyProof.Rows.callWith_type1 ?_ hs2 rfl
  rw [hs2]
  refine Calls.spliced_cons ?_
  refine wpAny_Call_Name_kw (ld_blt I hg hm boot_reversed (PyProof.Rows.callWith_type1 (thn (ha pos' pins s σ H _ I h) fun us s1 ⟨vs, H1, I1, r1, q1⟩ => ?_) hs rfl))
  obtain ⟨l, ys, rfl, sq, q⟩ := q1
  obtain ⟨u, rfl, ru⟩ := vals1 r1
  cases ru
  obtain ⟨its, hv, pl, hz⟩ := I1.list sq
  have hlt : l < s1.heap.objs.size := by obtain ⟨_, e, _⟩ := pl.isList; exact Heap.lt_size e
  refine call_reversed_list pl.isList ?_
  refine Calls.spliced_nil ?_
  have hlen := hv.length
  refine ZT.call_list_rev (n := its.toArray.size) ((Walks.listRev (A := Around.in1 (Around.in1 X.A)) (I1.ok.hd hc) s1.heap.objs.size l (Nat.ne_of_lt hlt) its.toArray).toS) (fun i s st => st.2.1.typeIs)
    ⟨Nat.zero_le _, ⟨_, Heap.get?_push_size _ rfl, rfl, by simp [revObj]⟩, pl.isList.push _⟩ (fun b hb => ?_) (by simp) (fun s' acc c' hm' hS hacc => ?_) (by simp; omega)
  · simp only [List.mem_cons, List.not_mem_nil, or_false] at hb
    have hz2 : (s1.heap.push (revObj l ((its.toArray.size : Int) - 1))).objs.size = s1.heap.objs.size + 1 := Heap.size_push ..
    show b < (s1.heap.push (revObj l ((its.toArray.size : Int) - 1))).objs.size
    rw [hz2]
    rcases hb with rfl | rfl
    · exact Nat.lt_succ_self _
    · exact Nat.lt_succ_of_lt hlt
  · have hz2 : (s1.heap.push (revObj l ((its.toArray.size : Int) - 1))).objs.size = s1.heap.objs.size + 1 := Heap.size_push ..
    obtain ⟨h', g', d', tk', os'⟩ := s'
    have e1 : g' = s1.gens := hm'.gens
    have e2 : d' = s1.drawn := hm'.drawn
    have e3 : os' = s1.os := hm'.os
    subst e1 e2 e3
    have hS' : h'.get? (s1.heap.push (revObj l ((its.toArray.size : Int) - 1))).objs.size = some { cls := .type "list", dict := none, data := .seq acc c', slots := #[] } := hS
    have kp : ∀ b o, s1.heap.get? b = some o → h'.get? b = some o := fun b o e => hm'.heap b o (fun hb => by
      have hb' : b < s1.heap.objs.size := Heap.lt_size e
      simp only [List.mem_cons, List.not_mem_nil, or_false] at hb
      rcases hb with z | z
      · have z' : b = (s1.heap.push (revObj l ((its.toArray.size : Int) - 1))).objs.size := z
        rw [hz2] at z'; rw [z'] at hb'; exact absurd (Nat.lt_of_succ_lt hb') (Nat.lt_irrefl _)
      · rw [z] at hb'; exact absurd hb' (Nat.lt_irrefl _)) (Heap.get?_push_of_some _ (Heap.get?_push_of_some _ e))
    have hle : s1.heap.objs.size ≤ (s1.heap.push (revObj l ((its.toArray.size : Int) - 1))).objs.size := by rw [hz2]; exact Nat.le_succ _
    have hacc' := rev_items hacc
    have hacc2 : acc = its.reverse.toArray := by rw [← hacc']
    have new : ObjOk X.prog X.w (upd H1 (s1.heap.push (revObj l ((its.toArray.size : Int) - 1))).objs.size (.lst ys.reverse)) h' (s1.heap.push (revObj l ((its.toArray.size : Int) - 1))).objs.size (.lst ys.reverse) :=
      ⟨by rw [List.length_reverse]; exact hz, its.reverse, c', Vals.reverse hv, by rw [hS', hacc2]⟩
    exact ⟨.ref (s1.heap.push (revObj l ((its.toArray.size : Int) - 1))).objs.size, _, I1.laid (t' := tk') kp hle new, rfl, q _ (I1.hok.fresh hle)⟩
theorem pe_trev {a : Expr} {ta : TA} {p p' pos pos' : Pos} (hc : X.calm = true) (hgL : Gl X "tuple") (hmL : X.mg "tuple" = none) (hg : Gl X "reversed") (hm : X.mg "reversed" = none) (ha : PA X [a] ta) (hs : starEach [a] X.env = [(false, eval a X.env)] := by rfl)
    (hs2 : starEach [.Call (.Name "reversed" p') [a] [] pos'] X.env = [(false, eval (.Call (.Name "reversed" p') [a] [] pos') X.env)] := by rfl) : PE X (.Call (.Name "tuple" p) [.Call (.Name "reversed" p') [a] [] pos'] [] pos) (tTRev X.K ta) := by
  intro pins s σ H Q I h
  refine wpAny_Call_Name_kw (ld_blt I hgL hmL boot_tupleT ?_)
  refine PyProof.Rows.callWith_type1 ?_ hs2 rfl
  rw [hs2]
  refine Calls.spliced_cons ?_
  refine wpAny_Call_Name_kw (ld_blt I hg hm boot_reversed (PyProof.Rows.callWith_type1 (thn (ha pos' pins s σ H _ I h) fun us s1 ⟨vs, H1, I1, r1, q1⟩ => ?_) hs rfl))
  obtain ⟨l, ys, rfl, sq, q⟩ := q1
  obtain ⟨u, rfl, ru⟩ := vals1 r1
  cases ru
  obtain ⟨its, hv, pl, hz⟩ := I1.list sq
  have hlt : l < s1.heap.objs.size := by obtain ⟨_, e, _⟩ := pl.isList; exact Heap.lt_size e
  refine call_reversed_list pl.isList ?_
  refine Calls.spliced_nil ?_
  have hlen := hv.length
  refine ZT.call_tuple_rev (n := its.toArray.size) ((Walks.listRev (A := Around.in1 (Around.in1 (Around.in1 X.A))) (I1.ok.hd hc) s1.heap.objs.size l (Nat.ne_of_lt hlt) its.toArray).toS) (fun i s st => st.2.1.typeIs)
    ⟨Nat.zero_le _, ⟨_, Heap.get?_push_size _ rfl, rfl, by simp [revObj]⟩, pl.isList.push _⟩ (fun b hb => ?_) (by simp) (fun s' acc hm' hacc => ?_) (by simp; omega)
  · simp only [List.mem_cons, List.not_mem_nil, or_false] at hb
    have hz2 : (s1.heap.push (revObj l ((its.toArray.size : Int) - 1))).objs.size = s1.heap.objs.size + 1 := Heap.size_push ..
    show b < (s1.heap.push (revObj l ((its.toArray.size : Int) - 1))).objs.size
    rw [hz2]
    rcases hb with rfl | rfl
    · exact Nat.lt_succ_self _
    · exact Nat.lt_succ_of_lt hlt
  · obtain ⟨h', g', d', tk', os'⟩ := s'
    have e1 : g' = s1.gens := hm'.gens
    have e2 : d' = s1.drawn := hm'.drawn
    have e3 : os' = s1.os := hm'.os
    subst e1 e2 e3
    have kp : ∀ b o, s1.heap.get? b = some o → h'.get? b = some o := fun b o e => hm'.heap b o (fun hb => by
      have hb' : b < s1.heap.objs.size := Heap.lt_size e
      simp only [List.mem_cons, List.not_mem_nil, or_false] at hb
      rw [hb] at hb'; exact absurd hb' (Nat.lt_irrefl _)) (Heap.get?_push_of_some _ e)
    have hacc' := rev_items hacc
    have hacc2 : acc = its.reverse.toArray := by rw [← hacc']
    have I2 : L2.Inv X pins σ H1 { s1 with heap := h', toks := tk' } := I1.kept (t' := tk') kp
    have I3 : L2.Inv X pins σ (upd H1 h'.objs.size (.tup ys.reverse)) { s1 with heap := h'.push { cls := .type "tuple", data := .seq acc }, toks := tk' } :=
      I2.laid (t' := tk') (fun b o e => Heap.get?_push_of_some _ e) (Nat.le_refl _) (show ObjOk X.prog X.w _ _ _ (.tup ys.reverse) from ⟨by rw [List.length_reverse]; exact hz, its.reverse, Vals.reverse hv, by rw [hacc2]; exact IsTup.new _ _⟩)
    exact ⟨.ref h'.objs.size, _, I3, rfl, q _ (I2.hok.fresh (Nat.le_refl _))⟩
noncomputable def fLRev (g : FA) : FE := fun δ L => (g δ L).bind fun p => match p.1 with
  | [.ref n] => (seqAt p.2 n).map fun l => (.ref p.2.length, p.2 ++ [.lst l.reverse])
  | _ => none
noncomputable def fTRev (g : FA) : FE := fun δ L => (g δ L).bind fun p => match p.1 with
  | [.ref n] => (seqAt p.2 n).map fun l => (.tup l.reverse, p.2)
  | _ => none
theorem pf_lrev {a : Expr} {g : FA} {p p' pos pos' : Pos} (hc : X.calm = true) (hgL : Gl X "list") (hmL : X.mg "list" = none) (hg : Gl X "reversed") (hm : X.mg "reversed" = none) (ha : PAF X [a] g) (hs : starEach [a] X.env = [(false, eval a X.env)] := by rfl)
    (hs2 : starEach [.Call (.Name "reversed" p') [a] [] pos'] X.env = [(false, eval (.Call (.Name "reversed" p') [a] [] pos') X.env)] := by rfl) : PEF X (.Call (.Name "list" p) [.Call (.Name "reversed" p') [a] [] pos'] [] pos) (fLRev g) := by
  refine PE.imp (pe_lrev hc hgL hmL hg hm ha hs hs2) ?_
  rintro σ H Q ⟨α, δ, L, A, S, u, L3, e, q⟩
  obtain ⟨⟨us, L1⟩, e1, e⟩ := Option.bind_eq_some_iff.mp e
  refine ⟨α, δ, L, A, S, us, L1, e1, fun xs H1 α1 g1 A1 r1 => ?_⟩
  simp only at e
  split at e
  · obtain ⟨l, hl, e⟩ := Option.map_eq_some_iff.mp e
    cases e
    obtain ⟨x, rfl, rx⟩ := r1.one
    obtain ⟨a', ys, rfl, sq, r2⟩ := refs_at A1 hl rx
    refine ⟨a', ys, rfl, sq, fun p hp => ?_⟩
    obtain ⟨g', A', r'⟩ := A1.lst (RepL.reverse r2) hp
    exact q _ _ _ (g1.trans g') A' r'
  · cases e
theorem pf_trev {a : Expr} {g : FA} {p p' pos pos' : Pos} (hc : X.calm = true) (hgL : Gl X "tuple") (hmL : X.mg "tuple" = none) (hg : Gl X "reversed") (hm : X.mg "reversed" = none) (ha : PAF X [a] g) (hs : starEach [a] X.env = [(false, eval a X.env)] := by rfl)
    (hs2 : starEach [.Call (.Name "reversed" p') [a] [] pos'] X.env = [(false, eval (.Call (.Name "reversed" p') [a] [] pos') X.env)] := by rfl) : PEF X (.Call (.Name "tuple" p) [.Call (.Name "reversed" p') [a] [] pos'] [] pos) (fTRev g) := by
  refine PE.imp (pe_trev hc hgL hmL hg hm ha hs hs2) ?_
  rintro σ H Q ⟨α, δ, L, A, S, u, L3, e, q⟩
  obtain ⟨⟨us, L1⟩, e1, e⟩ := Option.bind_eq_some_iff.mp e
  refine ⟨α, δ, L, A, S, us, L1, e1, fun xs H1 α1 g1 A1 r1 => ?_⟩
  simp only at e
  split at e
  · obtain ⟨l, hl, e⟩ := Option.map_eq_some_iff.mp e
    cases e
    obtain ⟨x, rfl, rx⟩ := r1.one
    obtain ⟨a', ys, rfl, sq, r2⟩ := refs_at A1 hl rx
    refine ⟨a', ys, rfl, sq, fun p hp => ?_⟩
    obtain ⟨g', A', r'⟩ := A1.tup (RepL.reverse r2) hp
    exact q _ _ _ (g1.trans g') A' r'
  · cases e
end
noncomputable def Itd (hi : Int) (n : Nat) : It := ⟨fun i _ => i < n, fun i H x H' => H' = H ∧ x = .int (hi - i), fun i _ => n ≤ i⟩
theorem turn_down {P : Program} {w : World} {K : PySem.W.Frag} {tg : Expr} (it : Addr) (hi : Int) (n : Nat) : Turn P w K tg (Itd hi n) [it] it (fun i h => IsRangeIter h it (hi + (i : Nat) * (-1)) ((n : Int) - (i : Nat)) (-1)) where
  mem := by simp
  obj := fun i h st b hb => by
    have e : b = it := by simpa using hb
    subst e
    exact ⟨_, st, fun v z => by
      have z' : Data.fields _ = Data.cell v := z
      cases z'⟩
  keep := fun i h h' st k => k it (by simp) _ st
  item := by
    intro X hP hw hK hc i pins s σ H E I hf st hg
    subst hP hw hK
    obtain ⟨f0, f1, f2, f3, f4, f5⟩ := hf it (by simp)
    have W := Walks.range (prog := X.prog) (w := X.w) (I.ok.hd hc) it hi (-1) n
    refine W.item i s _ _ hg st fun v h' tk hv st' kk => ?_
    obtain ⟨t, rfl⟩ := hv
    have I1 : L2.Inv X pins σ H { s with heap := h', toks := tk } := I.turned (fun b o hb e => kk b o (by simpa using hb) e) f0 f1 f3 f4 f5
    refine ⟨_, rfl, go_of (s := { s with heap := h', toks := tk }) (n := "range_iterator") st' rfl rfl (by decide) ⟨.int (hi - i), H, I1, ⟨t, ?_⟩, ⟨rfl, rfl⟩, st', fun b hb => (hf b hb).1⟩⟩
    have : hi + (i : Int) * (-1) = hi - i := by omega
    rw [this]
  done := by
    intro X hP hw hK hc i pins s σ H E I hf st hg
    subst hP hw hK
    obtain ⟨f0, f1, f2, f3, f4, f5⟩ := hf it (by simp)
    exact wpAny_pyNext_range_end (I.ok.hd hc) st (by have : n ≤ i := hg; omega) fun h' eb => ⟨rfl, I.turned (t' := s.toks) (fun b o hb e => eb b o hb e) f0 f1 f3 f4 f5⟩
  self := fun _ _ _ _ _ st h => wpAny_pyIter_rangeiter st h
end MR
set_option Elab.async false
set_option linter.all false
set_option maxRecDepth 100000
set_option maxHeartbeats 4000000
namespace ZT
open PySem PySem.Spec PyProof.Rows HT
section
variable {prog : Program} {w : World} {A : Around} {E : Value → Shared → Prop} {s : Shared}
end
end ZT
namespace MR
open PySem PySem.Spec PyProof.Rows PySem.Calls L2
section
variable {X : Cx} {tg : Expr}
theorem size_down (a b : Int) : Builtin.Range.rangeSize a b (-1) = if b < a then a - b else 0 := by
  unfold Builtin.Range.rangeSize
  simp only [show ¬ ((-1 : Int) > 0) by decide, if_false, show -(-1 : Int) = 1 by decide, Int.ediv_one]
  split <;> omega
theorem small_down {a b : Int} (ha : -(2 ^ 62) ≤ a) (ha' : a < 2 ^ 62) (hb : -(2 ^ 62) ≤ b) (hb' : b < 2 ^ 62) : Builtin.Range.small a b (-1) = true := by
  unfold Builtin.Range.small
  rw [size_down]
  simp only [Builtin.Range.rangeFitsLong, Bool.and_eq_true, Bool.or_eq_true, decide_eq_true_eq, beq_iff_eq, show ¬ ((-1 : Int) > 0) by decide, if_false]
  split <;> omega
theorem range_itd {pins : List (Addr × Obj)} {σ : L2.St} {H : Hp} {s : Shared} {R : It → Hp → Prop} {E : Value → Shared → Prop} {hi lo : Int} {t u v : Tok} {tk : Nat} (I : L2.Inv X pins σ H s) (h1 : -(2 ^ 62) ≤ hi) (h2 : hi < 2 ^ 62) (h3 : -(2 ^ 62) ≤ lo) (h4 : lo < 2 ^ 62)
    (q : R (Itd hi (hi - lo).toNat) H) : wpAny (model X.prog X.w) X.A (pyIter (.ref s.heap.objs.size)) (PIE X pins σ tg R) E { s with heap := s.heap.push { cls := .type "range", data := .fields #[.int hi t, .int lo u, .int (-1) v] }, toks := tk } := by
  refine wpAny_pyIter_range (IsRange.new ..) (small_down h1 h2 h3 h4) ?_
  have I1 : L2.Inv X pins σ H { s with heap := s.heap.push { cls := .type "range", data := .fields #[.int hi t, .int lo u, .int (-1) v] }, toks := tk } := I.kept fun b o e => Heap.get?_push_of_some _ e
  refine ⟨(s.heap.push { cls := .type "range", data := .fields #[.int hi t, .int lo u, .int (-1) v] }).objs.size, [(s.heap.push { cls := .type "range", data := .fields #[.int hi t, .int lo u, .int (-1) v] }).objs.size], _, _, H, rfl,
    I1.kept (t' := tk) fun b o e => Heap.get?_push_of_some _ e, turn_down _ hi (hi - lo).toNat, ?_, fun b hb => ?_, q⟩
  · have e1 : hi + ((0 : Nat) : Int) * (-1) = hi := by simp
    have e2 : (((hi - lo).toNat : Nat) : Int) - ((0 : Nat) : Int) = Builtin.Range.rangeSize hi lo (-1) := by rw [size_down]; split <;> omega
    show IsRangeIter _ _ (hi + ((0 : Nat) : Int) * (-1)) ((((hi - lo).toNat : Nat) : Int) - ((0 : Nat) : Int)) (-1)
    rw [e1, e2]
    exact Heap.get?_push_size _ rfl
  · have e : b = (s.heap.push { cls := .type "range", data := .fields #[.int hi t, .int lo u, .int (-1) v] }).objs.size := by simpa using hb
    subst e
    exact L2.Inv.fpOk I1 (Nat.le_refl _) (I1.hok.fresh (Nat.le_refl _))
noncomputable def iRngD (ta : TA) : TI := fun σ H R => ta σ H fun vs H1 => ∃ i j : Int, vs = [.int i, .int j, .int (-1)] ∧ (-(2 ^ 62) ≤ i ∧ i < 2 ^ 62 ∧ -(2 ^ 62) ≤ j ∧ j < 2 ^ 62) ∧ R (Itd i (i - j).toNat) H1
theorem pi_rangeD {a b c : Expr} {ta : TA} {p pos : Pos} (hg : Gl X "range") (hm : X.mg "range" = none) (ha : PA X [a, b, c] ta) (hs : starEach [a, b, c] X.env = (false, eval a X.env) :: starEach [b, c] X.env := by rfl) (hpl : (backTo pos (starEach [b, c] X.env)).any (·.1) = false := by rfl) :
    PI X tg (.Call (.Name "range" p) [a, b, c] [] pos) (iRngD ta) := by
  intro pins s σ H R I h
  refine Call_ (ld_blt I hg hm boot_range (PyProof.Rows.callWith_type1 (thn (ha pos pins s σ H _ I h) fun us s1 ⟨vs, H1, I1, r1, q1⟩ => ?_) hs hpl))
  obtain ⟨i, j, e, ⟨q1, q2, q3, q4⟩, q⟩ := q1
  subst e
  cases r1 with
  | cons r rr =>
    cases rr with
    | cons r' rr =>
      cases rr with
      | cons r'' rr =>
        cases rr
        obtain ⟨t, rfl⟩ := r
        obtain ⟨t', rfl⟩ := r'
        obtain ⟨t'', rfl⟩ := r''
        exact call_range_3 (by decide) (range_itd I1 q1 q2 q3 q4 q) (.inl (PyProof.noPylong_small (by omega)))
noncomputable def downU (hi : Int) (n : Nat) : List U := (List.range n).map fun (i : Nat) => .int (hi - (i : Int))
noncomputable def fRngD (g : FA) : FI := fun δ L => (g δ L).bind fun p => match p.1 with
  | [.int i, .int j, .int k] => if k = -1 ∧ -1000000 ≤ i ∧ i ≤ 1000000 ∧ -1000000 ≤ j ∧ j ≤ 1000000 then some (.seq (downU i (i - j).toNat), p.2) else none
  | _ => none
theorem itd_rep {K : PySem.W.Frag} {H : Hp} {α : List Addr} (hi : Int) (n : Nat) : ItRep K (Itd hi n) (.seq (downU hi n)) H α := by
  intro H2 α2 L2 g A2 k
  refine ⟨fun u eu => ?_, fun eu => ?_⟩
  · have eu : (downU hi n)[k]? = some u := by simpa [IU.at] using eu
    unfold downU at eu
    rw [List.getElem?_map] at eu
    obtain ⟨c, hc, eu⟩ := Option.map_eq_some_iff.mp eu
    have hk : k < n := by
      have := (List.getElem?_eq_some_iff.mp hc).1
      simpa using this
    rw [List.getElem?_range hk] at hc
    cases hc
    subst eu
    refine ⟨hk, ?_⟩
    rintro y H3 ⟨rfl, rfl⟩
    exact ⟨.refl _ _, A2, rfl⟩
  · have eu : (downU hi n)[k]? = none := by simpa [IU.at] using eu
    have : (downU hi n).length ≤ k := List.getElem?_eq_none_iff.mp eu
    show n ≤ k
    simpa [downU] using this
theorem pif_rangeD {a b c : Expr} {g : FA} {p pos : Pos} (hg : Gl X "range") (hm : X.mg "range" = none) (ha : PAF X [a, b, c] g) (hs : starEach [a, b, c] X.env = (false, eval a X.env) :: starEach [b, c] X.env := by rfl) (hpl : (backTo pos (starEach [b, c] X.env)).any (·.1) = false := by rfl) : PIF X tg (.Call (.Name "range" p) [a, b, c] [] pos) (fRngD g) := by
  refine PI.imp (pi_rangeD hg hm ha hs hpl) ?_
  rintro σ H R ⟨α, δ, L, A, S, i, L3, e, q⟩
  obtain ⟨⟨us, L1⟩, e1, e⟩ := Option.bind_eq_some_iff.mp e
  refine ⟨α, δ, L, A, S, us, L1, e1, fun xs H1 α1 g1 A1 r1 => ?_⟩
  simp only at e
  split at e
  · split at e
    · rename_i hj
      cases e
      obtain ⟨rfl, h1, h2, h3, h4⟩ := hj
      unfold RepL at r1
      obtain ⟨x, xr, rfl, rx, r1⟩ := r1
      unfold RepL at r1
      obtain ⟨y, yr, rfl, ry, r1⟩ := r1
      unfold RepL at r1
      obtain ⟨z, zr, rfl, rz, r1⟩ := r1
      unfold RepL at r1
      subst r1
      unfold RepU at rx ry rz
      subst rx ry rz
      exact ⟨_, _, rfl, ⟨by omega, by omega, by omega, by omega⟩, q _ H1 α1 g1 A1 (itd_rep _ _)⟩
    · cases e
  · cases e
end
end MR
set_option Elab.async false
set_option linter.all false
set_option maxRecDepth 100000
set_option maxHeartbeats 4000000
namespace MR
open PySem PySem.Spec PyProof.Rows PySem.Calls L2
section
variable {X : Cx}
end
noncomputable def semAddA : S2 := fun u w L => match u, w with
  | .tup [], .tup b => some (.tup b, L)
  | u, w => semAdd u w L
@[simp] theorem semAddA_int (i j : Int) (L : UH) : semAddA (.int i) (.int j) L = some (.int (i + j), L) := rfl
end MR
set_option Elab.async false
set_option linter.all false
set_option maxRecDepth 100000
set_option maxHeartbeats 4000000
namespace MR
open PySem PyProof.Rows L2
section
variable {X : Cx}
noncomputable def rSlS : V → Option Int → Option Int → Hp → VK → Prop := fun x lo hi H Q => ∃ a, x = .str a ∧ a.length ≤ sizeLine ∧ Q (.str (Txt.slice a lo hi)) H
theorem sl_str : SlR X rSlS := by
  intro pins s σ H x v vl vu lo hi sl Q I rx hs pl pu h
  obtain ⟨a, rfl, hl, q⟩ := h
  obtain ⟨t, rfl⟩ := rx
  refine ⟨"str", _, F.slot_str_getitem.lookup, typeIs_str _ _ _, ?_⟩
  have fin : ∀ (t' : Tok) (k : Nat), EP X pins σ Q (.str (Txt.slice a lo hi) t') { s with toks := k } := fun t' k => ⟨.str (Txt.slice a lo hi), H, I.tok k, ⟨_, rfl⟩, q⟩
  have hz : (Txt.slice a lo hi).length ≤ sizeLine := Nat.le_trans (Txt.slice_le a _ _) hl
  cases pl with
  | none =>
    cases pu with
    | none => exact wpAny_getItem_str_slice (l := none) (u := none) (st := none) hs rfl (post_val_or_str ⟨hz, fin⟩)
    | int j tj => exact wpAny_getItem_str_slice (l := none) (u := some (j, tj)) (st := none) hs rfl (post_val_or_str ⟨hz, fin⟩)
  | int i ti =>
    cases pu with
    | none => exact wpAny_getItem_str_slice (l := some (i, ti)) (u := none) (st := none) hs rfl (post_val_or_str ⟨hz, fin⟩)
    | int j tj => exact wpAny_getItem_str_slice (l := some (i, ti)) (u := some (j, tj)) (st := none) hs rfl (post_val_or_str ⟨hz, fin⟩)
noncomputable def rJoin : V → List V → Hp → VK → Prop := fun x vs H Q => ∃ (a : Str) (l : Addr) (ys : List Str), x = .str a ∧ vs = [.ref l] ∧ H l = some (.lst (ys.map V.str)) ∧ a.length ≤ 16 ∧ (ys.map (·.length)).sum + ys.length ≤ 1048576 ∧ Q (.str (Txt.join a ys)) H
theorem strsAre_of : ∀ {its : List Value} {ys : List Str}, Vals (ys.map V.str) its → StrsAre its ys
  | its, [], r => by rw [List.map_nil] at r; cases r; exact .nil
  | its, y :: ys, r => by
    rw [List.map_cons] at r
    cases r with
    | cons r1 r2 =>
      obtain ⟨t', rfl⟩ := r1
      exact .cons _ _ (strsAre_of r2)
theorem mt_join : MtR X "str.join" rJoin := by
  intro pins s σ H x vs v us Q I rx rv h
  obtain ⟨a, l, ys, rfl, rfl, hH, ha, hw, q⟩ := h
  obtain ⟨t, rfl⟩ := rx
  obtain ⟨u, rfl, ru⟩ := rv.one
  cases ru
  obtain ⟨z, its, n, r, hl, e⟩ := I.lstM hH
  exact join_listW ⟨_, e, rfl, _, rfl⟩ (by simpa using strsAre_of r) ha hw fun t' k => ⟨.str (Txt.join a ys), H, I.tok k, ⟨_, rfl⟩, q⟩
end
noncomputable def semSlZ : SS := fun u lo hi L => match u with
  | .str x => if small x.length = true then some (.str (Txt.slice x lo hi), L) else none
  | u => semSl u lo hi L
theorem sl_allZ {X : Cx} : SlR X (fun x lo hi H Q => rSlA X.K x lo hi H Q ∨ rSlS x lo hi H Q) := sl_all.or sl_str
theorem sem_slZ {K : PySem.W.Frag} : SemSl K (fun x lo hi H Q => rSlA K x lo hi H Q ∨ rSlS x lo hi H Q) semSlZ := by
  intro H α L u x lo hi z L' Q A ru e q
  cases u with
  | str a =>
    unfold semSlZ at e
    simp only at e
    split at e
    · rename_i hs
      cases e
      unfold RepU at ru
      subst ru
      exact .inr ⟨a, rfl, small_le hs, q _ H α (.refl _ _) A rfl⟩
    · cases e
  | tup l => exact .inl (sem_sl H α L (.tup l) x lo hi z L' Q A ru e q)
  | ref n => exact .inl (sem_sl H α L (.ref n) x lo hi z L' Q A ru e q)
  | _ => cases e
noncomputable def toS : U → Option Str
  | .str a => some a
  | _ => none
theorem toSs_ok {K : PySem.W.Frag} {H : Hp} {α : List Addr} : ∀ {us : List U} {xs : List V} {ys : List Str}, RepL K H α us xs → mapO toS us = some ys → xs = ys.map V.str
  | [], xs, ys, r, e => by
    unfold RepL at r
    cases e
    exact r
  | u :: us, xs, ys, r, e => by
    unfold RepL at r
    obtain ⟨x, xr, rfl, rx, r⟩ := r
    unfold mapO at e
    obtain ⟨y, hy, e⟩ := Option.bind_eq_some_iff.mp e
    obtain ⟨yr, hyr, e⟩ := Option.map_eq_some_iff.mp e
    cases e
    cases u with
    | str a =>
      cases hy
      unfold RepU at rx
      rw [rx, toSs_ok r hyr]; rfl
    | _ => cases hy
noncomputable def semJoin : SM := fun u us L => match u, us with
  | .str a, [.ref n] => (lstAt L n).bind fun l => (mapO toS l).bind fun ys => if a.length ≤ 16 ∧ (ys.map (·.length)).sum + ys.length ≤ 1048576 then some (.str (Txt.join a ys), L) else none
  | _, _ => none
theorem sem_join {K : PySem.W.Frag} : SemM K rJoin semJoin := by
  intro H α L u us x xs z L' Q A ru r e q
  unfold semJoin at e
  split at e
  · obtain ⟨l, hl, e⟩ := Option.bind_eq_some_iff.mp e
    obtain ⟨ys, hys, e⟩ := Option.bind_eq_some_iff.mp e
    split at e
    · rename_i hc
      cases e
      unfold RepU at ru
      subst ru
      obtain ⟨v, rfl, rv⟩ := r.one
      obtain ⟨a', zs, rfl, ea, h, r2⟩ := ref_lst A hl rv
      rw [toSs_ok r2 hys] at h
      exact ⟨_, a', ys, rfl, rfl, h, hc.1, hc.2, q _ H α (.refl _ _) A rfl⟩
    · cases e
  · cases e
end MR
namespace MR
open PySem PySem.W PyProof.Rows L2
end MR
namespace Att
open PySem PySem.W PySem.Calls PyProof.Rows L2 MR
end Att
set_option Elab.async false
set_option linter.all false
set_option maxRecDepth 100000
set_option maxHeartbeats 4000000
namespace MR
open PySem PyProof.Rows L2
noncomputable def g0 (us ws : List Value) : List Value := match us with | [] => ws | _ => []
noncomputable def gV0 (vs zs : List V) : List V := match vs with | [] => zs | _ => []
theorem kbinds0 {K : PySem.W.Frag} {fd : FuncData} {p : Str} {ps : List Str} (h : ∀ ws : List Value, ws.length = (p :: ps).length → bindArgs fd ⟨[], (p :: ps).zip ws⟩ = pure ((p :: ps).zip ws)) : KBinds K fd (p :: ps) (p :: ps) g0 gV0 where
  to := fun s us ws _ hl => by
    cases us with
    | nil => exact .of_eq (h ws hl)
    | cons u us => simp [g0] at hl
  rel := fun r rz => by
    cases r with
    | nil => exact rz
    | cons _ _ => exact .nil
section
variable {X : Cx} {k : Nat} {f : Addr} {fd : FuncData} {p : Str} {ps : List Str} {x : Str} {pp pos kpos : Pos} {e : Expr} {kws : List Keyword} {nm : Option Str}
theorem PK.imp {t t' : TA} (h : PK X kws t) (hi : ∀ σ H Q, t' σ H Q → t σ H Q) : PK X kws t' := fun pos pins s σ H Q I q => h pos pins s σ H Q I (hi σ H Q q)
noncomputable def PKF (X : Cx) (kws : List Keyword) (g : FA) : Prop := PK X kws (lA X.K g)
theorem pkf_nil : PKF X [] fNil := by
  refine PK.imp pk_nil ?_
  rintro σ H Q ⟨α, δ, L, A, S, z, L3, e, q⟩
  cases e
  exact q [] H α (.refl _ _) A .nil
theorem pkf_cons {fe : FE} {g : FA} (ha : PEF X e fe) (hr : PKF X kws g) : PKF X (⟨nm, e, kpos⟩ :: kws) (fCons fe g) := by
  refine PK.imp (pk_cons ha hr) ?_
  rintro σ H Q ⟨α, δ, L, A, S, z, L3, e, q⟩
  obtain ⟨⟨u, L1⟩, e1, e⟩ := Option.bind_eq_some_iff.mp e
  obtain ⟨⟨us, L2⟩, e2, e⟩ := Option.map_eq_some_iff.mp e
  cases e
  exact ⟨α, δ, L, A, S, u, L1, e1, fun x H1 α1 g1 A1 r1 => ⟨α1, δ, L1, A1, S.mono g1, us, L2, e2, fun xs H2 α2 g2 A2 r2 => q (x :: xs) H2 α2 (g1.trans g2) A2 (.cons (r1.mono g2) r2)⟩⟩
theorem pe_callK0 {CX : CXT} {sp : Sp} {E : XK} {tk : TA} (F : FnOk X.prog X.w X.K X.mg X.base CX k f fd (p :: ps) sp) (hr : Room k X.A) (hg : Gl X x) (hm : X.mg x = some (.ref f)) (hk : PySem.W.keepIn X.K (.ref f) = true) (hb : KBinds X.K fd (p :: ps) (p :: ps) g0 gV0) (hx : Passes CX X E)
    (hkw : PK X kws tk) (hall : (backToKw pos (keywordEach kws X.env)).all (·.1.isSome) = true := by rfl) (hks : (backToKw pos (keywordEach kws X.env)).filterMap (·.1) = p :: ps := by rfl)
    (hdb : (x == ("__debug__" : Str)) = false := by decide)
    (hpl : ((backTo pos (starEach [] X.env)).any (·.1) || (backToKw pos (keywordEach kws X.env)).any (·.1.isNone)) = false := by rfl) :
    PE X (.Call (.Name x pp) [] kws pos) (fun σ H Q => tk σ H fun zs H2 => sp zs H2 Q E) := by
  intro pins s σ H Q I h
  refine wpAny_Call_Name_kw (ld_glob I hg hm ?_ hdb)
  refine PySem.W.callWith_KW0 (h₀ := X.base) I.ok.mod.kin hk hall (thn (hkw pos pins s σ H _ I h) fun ws s2 ⟨zs, H2, I2, rz, q2⟩ => ⟨I2.kIn, ?_⟩) hpl
  rw [hks]
  exact run_fnk F hr hb hx I2 .nil rz q2
theorem pf_callK0 {n : Nat} {F : FN} {g : FA} (hF : FnOk X.prog X.w X.K X.mg X.base CX0 k f fd (p :: ps) (spF X.K n F)) (hr : Room k X.A) (hg : Gl X x) (hm : X.mg x = some (.ref f)) (hk : PySem.W.keepIn X.K (.ref f) = true) (hb : KBinds X.K fd (p :: ps) (p :: ps) g0 gV0)
    (hkw : PKF X kws g) (hall : (backToKw pos (keywordEach kws X.env)).all (·.1.isSome) = true := by rfl) (hks : (backToKw pos (keywordEach kws X.env)).filterMap (·.1) = p :: ps := by rfl)
    (hdb : (x == ("__debug__" : Str)) = false := by decide)
    (hpl : ((backTo pos (starEach [] X.env)).any (·.1) || (backToKw pos (keywordEach kws X.env)).any (·.1.isNone)) = false := by rfl) :
    PEF X (.Call (.Name x pp) [] kws pos) (fOwn n F g) := by
  refine PE.imp (pe_callK0 hF hr hg hm hk hb pass0 hkw hall hks hdb hpl) ?_
  rintro σ H Q ⟨α, δ, L, A, S, z, L3, e, q⟩
  obtain ⟨⟨us, L1⟩, e1, e⟩ := Option.bind_eq_some_iff.mp e
  simp only at e
  split at e
  · rename_i hl
    refine ⟨α, δ, L, A, S, us, L1, e1, fun xs H1 α1 g1 A1 r1 => ?_⟩
    exact ⟨α1, L1, us, A1, r1, hl, z, L3, e, fun v H2 α2 g2 A2 r2 => q v H2 α2 (g1.trans g2) A2 r2⟩
  · cases e
end
end MR
set_option Elab.async false
set_option linter.all false
set_option maxRecDepth 100000
set_option maxHeartbeats 4000000
namespace MR
open PySem PySem.Spec PyProof.Rows PySem.Calls L2
section
variable {X : Cx}
end
end MR
set_option Elab.async false
set_option linter.all false
set_option maxRecDepth 100000
set_option maxHeartbeats 4000000
namespace MR
open PySem PySem.Spec PyProof.Rows PySem.Calls L2
noncomputable def rngV (lo : Int) (n : Nat) : List V := (List.range n).map fun i => V.int (lo + (i : Nat))
theorem rng_items {lo : Int} {n : Nat} {acc : Array Value} (h : ItemsOf (fun i v => ∃ t, v = Value.int (lo + (i : Nat) * 1) t) acc n) : Vals (rngV lo n) acc.toList := by
  obtain ⟨h1, h2⟩ := h
  have key : ∀ (k : Nat) (l : List Value) (m : Nat), l.length = k → (∀ i v, l[i]? = some v → ∃ t, v = Value.int (lo + ((m + i : Nat) : Int)) t) → Vals ((List.range' m k).map fun i => V.int (lo + ((i : Nat) : Int))) l := by
    intro k
    induction k with
    | zero => intro l m hl _; cases l with | nil => exact .nil | cons _ _ => simp at hl
    | succ k ih =>
      intro l m hl hv
      cases l with
      | nil => simp at hl
      | cons v l =>
        rw [List.range'_succ, List.map_cons]
        obtain ⟨t, ht⟩ := hv 0 v rfl
        refine .cons ⟨t, by rw [ht]; rfl⟩ (ih l (m + 1) (by simpa using hl) fun i w hw => ?_)
        obtain ⟨t', ht'⟩ := hv (i + 1) w (by simpa using hw)
        refine ⟨t', ?_⟩
        rw [ht']
        have : m + (i + 1) = m + 1 + i := by omega
        rw [this]
  have := key n acc.toList 0 (by simpa using h1) (fun i v hv => by
    obtain ⟨t, ht⟩ := h2 i v (by simpa using hv)
    refine ⟨t, ?_⟩
    rw [ht, Int.mul_one, Nat.zero_add])
  unfold rngV
  rw [List.range_eq_range']
  exact this
section
variable {X : Cx}
theorem list_rng {pins : List (Addr × Obj)} {σ : L2.St} {H : Hp} {s : Shared} {Q : VK} {lo hi : Int} {t u v : Tok} {tk : Nat} (hc : X.calm = true) (I : L2.Inv X pins σ H s) (h1 : -(2 ^ 62) ≤ lo) (h2 : lo < 2 ^ 62) (h3 : -(2 ^ 62) ≤ hi) (h4 : hi < 2 ^ 62) (hn : (hi - lo).toNat ≤ 1000000)
    (q : ∀ l, H l = none → Q (.ref l) (upd H l (.lst (rngV lo (hi - lo).toNat)))) :
    wpAny (model X.prog X.w) X.A (call (.type "list") [.ref s.heap.objs.size]) (EP X pins σ Q) X.xe { s with heap := s.heap.push { cls := .type "range", data := .fields #[.int lo t, .int hi u, .int 1 v] }, toks := tk } := by
  have I1 : L2.Inv X pins σ H { s with heap := s.heap.push { cls := .type "range", data := .fields #[.int lo t, .int hi u, .int 1 v] }, toks := tk } := I.kept fun b o e => Heap.get?_push_of_some _ e
  refine call_list_range (n := (hi - lo).toNat) (I.ok.hd hc) (IsRange.new ..) (small_one h1 h2 h3 h4) (by rw [rangeSize_one]; split <;> omega) (by omega) fun h' tk' acc c' hk hS hacc => ?_
  have hz2 : (s.heap.push { cls := .type "range", data := .fields #[.int lo t, .int hi u, .int 1 v] }).objs.size = s.heap.objs.size + 1 := Heap.size_push ..
  have hv := rng_items hacc
  have kp : ∀ b o, (s.heap.push { cls := .type "range", data := .fields #[.int lo t, .int hi u, .int 1 v] }).get? b = some o → h'.get? b = some o := hk
  have hlen : (rngV lo (hi - lo).toNat).length ≤ sizeLine := by
    unfold rngV sizeLine
    rw [List.length_map, List.length_range]; omega
  have new : ObjOk X.prog X.w (upd H (s.heap.push { cls := .type "range", data := .fields #[.int lo t, .int hi u, .int 1 v] }).objs.size (.lst (rngV lo (hi - lo).toNat))) h' (s.heap.push { cls := .type "range", data := .fields #[.int lo t, .int hi u, .int 1 v] }).objs.size (.lst (rngV lo (hi - lo).toNat)) :=
    ⟨hlen, acc.toList, c', hv, by simpa using hS⟩
  exact ⟨.ref (s.heap.push { cls := .type "range", data := .fields #[.int lo t, .int hi u, .int 1 v] }).objs.size, _, I1.laid (t' := tk') kp (Nat.le_refl _) new, rfl, q _ (I1.hok.fresh (Nat.le_refl _))⟩
end
theorem rng_rep {K : PySem.W.Frag} {H : Hp} {α : List Addr} (lo : Int) (n : Nat) : RepL K H α (rangeU lo n) (rngV lo n) := by
  unfold rangeU rngV
  generalize List.range n = ks
  induction ks with
  | nil => exact .nil
  | cons k ks ih => exact .cons (by unfold RepU; rfl) ih
end MR
set_option Elab.async false
set_option linter.all false
set_option maxRecDepth 100000
set_option maxHeartbeats 4000000
namespace MR
open PySem PyProof.Rows L2
theorem RepL.init {K : PySem.W.Frag} {H : Hp} {α : List Addr} : ∀ {us : List U} {xs : List V}, RepL K H α us xs → RepL K H α us.dropLast xs.dropLast
  | [], xs, r => by unfold RepL at r; subst r; exact .nil
  | [u], xs, r => by
    unfold RepL at r
    obtain ⟨x, xr, rfl, rx, r⟩ := r
    unfold RepL at r
    subst r
    exact .nil
  | u :: w :: us, xs, r => by
    unfold RepL at r
    obtain ⟨x, xr, rfl, rx, r⟩ := r
    have r' := r
    unfold RepL at r'
    obtain ⟨y, yr, rfl, ry, _⟩ := r'
    exact .cons rx (RepL.init r)
end MR
set_option Elab.async false
set_option linter.all false
set_option maxRecDepth 100000
set_option maxHeartbeats 4000000
namespace MR
open PySem PyProof.Rows L2
noncomputable def toK : U → Option Key
  | .int i => some (.inl i)
  | .str x => some (.inr x)
  | _ => none
theorem toK_ok {K : PySem.W.Frag} {H : Hp} {α : List Addr} {u : U} {x : V} {k : Key} (r : RepU K H α u x) (h : toK u = some k) : x = kV k := by
  cases u <;> simp only [toK] at h <;> first | (cases h; unfold RepU at r; exact r) | cases h
noncomputable def valU (kvs : List (Key × U)) (k : Key) : Option U := (kvs.find? fun kv => decide (kv.1 = k)).map (·.2)
noncomputable def putD (kvs : List (Key × U)) (k : Key) (v : U) : List (Key × U) :=
  if (kvs.any fun kv => decide (kv.1 = k)) = true then kvs.map (fun kv => if kv.1 = k then (kv.1, v) else kv) else kvs ++ [(k, v)]
section
variable {K : PySem.W.Frag} {H : Hp} {α : List Addr}
noncomputable def RepKV (K : PySem.W.Frag) (H : Hp) (α : List Addr) (kvs : List (Key × U)) (vs : List (Key × V)) : Prop := kvs.map (·.1) = vs.map (·.1) ∧ RepL K H α (kvs.map (·.2)) (vs.map (·.2))
theorem RepKV.nil : RepKV K H α [] [] := ⟨rfl, .nil⟩
theorem RepKV.cons {kv : Key × U} {kvs : List (Key × U)} {vs : List (Key × V)} (h : RepKV K H α (kv :: kvs) vs) : ∃ x vs', vs = (kv.1, x) :: vs' ∧ RepU K H α kv.2 x ∧ RepKV K H α kvs vs' := by
  obtain ⟨h1, h2⟩ := h
  cases vs with
  | nil => simp at h1
  | cons w vs' =>
    simp only [List.map_cons, List.cons.injEq] at h1
    rw [List.map_cons, List.map_cons] at h2
    unfold RepL at h2
    obtain ⟨x, xr, hx, rx, r⟩ := h2
    injection hx with e1 e2
    subst e1
    refine ⟨w.2, vs', by rw [h1.1], rx, h1.2, ?_⟩
    rw [e2]; exact r
theorem RepKV.mk {k : Key} {u : U} {x : V} {kvs : List (Key × U)} {vs : List (Key × V)} (r : RepU K H α u x) (h : RepKV K H α kvs vs) : RepKV K H α ((k, u) :: kvs) ((k, x) :: vs) :=
  ⟨by simp [h.1], by rw [List.map_cons, List.map_cons]; exact .cons r h.2⟩
theorem RepKV.val {k : Key} {u : U} : ∀ {kvs : List (Key × U)} {vs : List (Key × V)}, RepKV K H α kvs vs → valU kvs k = some u → ∃ x, valV vs k = some x ∧ RepU K H α u x
  | [], vs, _, e => by simp [valU] at e
  | kv :: kvs, vs, r, e => by
    obtain ⟨x, vs', rfl, rx, r'⟩ := r.cons
    unfold valU at e
    unfold valV
    rw [List.find?_cons] at e ⊢
    by_cases h : kv.1 = k
    · simp only [h, decide_true, Option.map_some] at e ⊢
      cases e
      exact ⟨x, rfl, rx⟩
    · simp only [h, decide_false] at e ⊢
      exact RepKV.val r' e
theorem RepKV.any {k : Key} : ∀ {kvs : List (Key × U)} {vs : List (Key × V)}, RepKV K H α kvs vs → (kvs.any fun kv => decide (kv.1 = k)) = (vs.any fun kv => decide (kv.1 = k))
  | [], vs, r => by
    obtain ⟨h1, _⟩ := r
    cases vs with
    | nil => rfl
    | cons _ _ => simp at h1
  | kv :: kvs, vs, r => by
    obtain ⟨x, vs', rfl, rx, r'⟩ := r.cons
    rw [List.any_cons, List.any_cons, RepKV.any r']
theorem RepKV.len {kvs : List (Key × U)} {vs : List (Key × V)} (r : RepKV K H α kvs vs) : kvs.length = vs.length := by
  have := congrArg List.length r.1
  simpa using this
theorem RepKV.upd {k : Key} {u : U} {x : V} (ru : RepU K H α u x) : ∀ {kvs : List (Key × U)} {vs : List (Key × V)}, RepKV K H α kvs vs → RepKV K H α (kvs.map fun kv => if kv.1 = k then (kv.1, u) else kv) (vs.map fun kv => if kv.1 = k then (kv.1, x) else kv)
  | [], vs, r => by
    obtain ⟨h1, _⟩ := r
    cases vs with
    | nil => exact .nil
    | cons _ _ => simp at h1
  | kv :: kvs, vs, r => by
    obtain ⟨y, vs', rfl, ry, r'⟩ := r.cons
    rw [List.map_cons, List.map_cons]
    by_cases h : kv.1 = k
    · rw [if_pos h, if_pos h]
      exact .mk ru (RepKV.upd ru r')
    · rw [if_neg h, if_neg h]
      exact .mk ry (RepKV.upd ru r')
theorem RepKV.add {k : Key} {u : U} {x : V} (ru : RepU K H α u x) : ∀ {kvs : List (Key × U)} {vs : List (Key × V)}, RepKV K H α kvs vs → RepKV K H α (kvs ++ [(k, u)]) (vs ++ [(k, x)])
  | [], vs, r => by
    obtain ⟨h1, _⟩ := r
    cases vs with
    | nil => exact .mk ru .nil
    | cons _ _ => simp at h1
  | kv :: kvs, vs, r => by
    obtain ⟨y, vs', rfl, ry, r'⟩ := r.cons
    exact .mk ry (RepKV.add ru r')
theorem RepKV.put {k : Key} {u : U} {x : V} {kvs : List (Key × U)} {vs : List (Key × V)} (ru : RepU K H α u x) (r : RepKV K H α kvs vs) : RepKV K H α (putD kvs k u) (putK vs k x) := by
  unfold putD putK
  rw [r.any]
  split
  · exact r.upd ru
  · exact r.add ru
theorem RepKV.mono {H' : Hp} {α' : List Addr} {kvs : List (Key × U)} {vs : List (Key × V)} (r : RepKV K H α kvs vs) (g : Gr H α H' α') : RepKV K H' α' kvs vs := ⟨r.1, r.2.mono g⟩
end
noncomputable def dicAt (L : UH) (n : Nat) : Option (List (Key × U)) := match L[n]? with
  | some (.dic kvs) => some kvs
  | _ => none
theorem dicAt_some {L : UH} {n : Nat} {kvs : List (Key × U)} (h : dicAt L n = some kvs) : L[n]? = some (.dic kvs) := by
  unfold dicAt at h
  split at h
  · rename_i e; cases h; exact e
  · cases h
theorem ref_dic {K : PySem.W.Frag} {H : Hp} {α : List Addr} {L : UH} {n : Nat} {x : V} {kvs : List (Key × U)} (A : Abs K H α L) (h : dicAt L n = some kvs) (r : RepU K H α (.ref n) x) : ∃ a vs, x = .ref a ∧ α[n]? = some a ∧ H a = some (.dK vs) ∧ RepKV K H α kvs vs := by
  unfold RepU at r
  obtain ⟨a, ea, rfl⟩ := r
  obtain ⟨vs, e, k1, k2⟩ := A.rep n a _ ea (dicAt_some h)
  exact ⟨a, vs, rfl, ea, e, k1, k2⟩
theorem Abs.setD {K : PySem.W.Frag} {H : Hp} {α : List Addr} {L : UH} {n : Nat} {a : Addr} {vs ws : List (Key × V)} {kvs kws : List (Key × U)} (A : Abs K H α L) (h : dicAt L n = some kvs) (ea : α[n]? = some a) (e : H a = some (.dK vs)) (r : RepKV K H α kws ws) :
    Gr H α (upd H a (.dK ws)) α ∧ Abs K (upd H a (.dK ws)) α (L.set n (.dic kws)) := by
  have g : Gr H α (upd H a (.dK ws)) α := ⟨⟨[], by simp⟩, .write e (by exact trivial) _⟩
  obtain ⟨A', _⟩ := A.put (o := .dK ws) (u := .dic kws) ea (dicAt_some h) rfl rfl e (by exact trivial) ⟨ws, upd_same, (r.mono g).1, (r.mono g).2⟩
  exact ⟨g, A'⟩
section
variable {X : Cx} {o i value : Expr} {pos pos' : Pos} {fo fi fv : FE}
noncomputable def fDNew : FE := fun _ L => some (.ref L.length, L ++ [.dic []])
theorem pf_dnew : PEF X (.Dict [] [] pos) fDNew := by
  refine PE.imp pe_dnewK ?_
  rintro σ H Q ⟨α, δ, L, A, S, z, L3, e, q⟩
  cases e
  intro p hp
  have g : Gr H α (upd H p (.dK [])) (α ++ [p]) := ⟨⟨[p], rfl⟩, .new hp _⟩
  obtain ⟨A', _⟩ := A.new (o := .dK []) (u := .dic []) hp ⟨[], upd_same, rfl, .nil⟩
  refine q _ _ _ g A' ?_
  unfold RepU
  exact ⟨p, by rw [← A.len]; simp, rfl⟩
noncomputable def fDPut (fo fi fv : FE) : FS := fun δ L => (fv δ L).bind fun p => (fo δ p.2).bind fun q => (fi δ q.2).bind fun r => match q.1 with
  | .ref n => (toK r.1).bind fun k => (dicAt r.2 n).bind fun kvs => if kvs.length < 1000000 then some (.nx δ, r.2.set n (.dic (putD kvs k p.1))) else none
  | _ => none
theorem psf_dput (hu : X.A.units + 64 < cLine) (ho : PEF X o fo) (hi : PEF X i fi) (hv : PEF X value fv) (hs : swapsWith value (some (.Subscript o i pos')) pos.line X.env = pure false := by rfl) : PSF X (.Assign [.Subscript o i pos'] value pos) (fDPut fo fi fv) := by
  refine PS.imp (ps_dput (by omega) ho hi hv hs) ?_
  rintro D σ H ⟨α, δ, L, A, S, fl, L', e, q⟩
  obtain ⟨⟨v, L1⟩, e1, e⟩ := Option.bind_eq_some_iff.mp e
  obtain ⟨⟨u, L2⟩, e2, e⟩ := Option.bind_eq_some_iff.mp e
  obtain ⟨⟨w, L3⟩, e3, e⟩ := Option.bind_eq_some_iff.mp e
  refine ⟨α, δ, L, A, S, v, L1, e1, fun xv H1 α1 g1 A1 rv => ⟨α1, δ, L1, A1, S.mono g1, u, L2, e2, fun x H2 α2 g2 A2 rx => ⟨α2, δ, L2, A2, (S.mono g1).mono g2, w, L3, e3, fun y H3 α3 g3 A3 ry => ?_⟩⟩⟩
  simp only at e
  split at e
  · obtain ⟨k, hk, e⟩ := Option.bind_eq_some_iff.mp e
    obtain ⟨kvs, hd, e⟩ := Option.bind_eq_some_iff.mp e
    split at e
    · rename_i hl
      cases e
      obtain ⟨a, vs, rfl, ea, ha, rk⟩ := ref_dic A3 hd (rx.mono g3)
      have rv' := rv.mono (g2.trans g3)
      obtain ⟨g4, A4⟩ := A3.setD hd ea ha (rk.put (k := k) rv')
      refine ⟨a, _, rfl, ?_, q σ _ α3 ((g1.trans (g2.trans g3)).trans g4) A4 ((((S.mono g1).mono g2).mono g3).mono g4)⟩
      rw [toK_ok ry hk]
      exact DPut.k ha (by rw [← rk.len]; unfold sizeLine; omega)
    · cases e
  · cases e
end
end MR
set_option Elab.async false
set_option linter.all false
set_option maxRecDepth 100000
set_option maxHeartbeats 4000000
namespace MR
open PySem PyProof.Rows L2
theorem all0 {β : Type} {P : List β → Prop} (h : P []) (us : List β) (hl : us.length = 0) : P us := by
  cases us with
  | nil => exact h
  | cons => cases hl
theorem allS {β : Type} {n : Nat} {P : List β → Prop} (h : ∀ (a : β) (us : List β), us.length = n → P (a :: us)) (us : List β) (hl : us.length = n + 1) : P us := by
  cases us with
  | nil => cases hl
  | cons a us => exact h a us (Nat.succ.inj hl)
theorem all1 {β : Type} {P : List β → Prop} (h : ∀ a, P [a]) : ∀ us : List β, us.length = 1 → P us := allS fun a => all0 (h a)
theorem all2 {β : Type} {P : List β → Prop} (h : ∀ a b, P [a, b]) : ∀ us : List β, us.length = 2 → P us := allS fun a => all1 (h a)
theorem all3 {β : Type} {P : List β → Prop} (h : ∀ a b c, P [a, b, c]) : ∀ us : List β, us.length = 3 → P us := allS fun a => all2 (h a)
section
variable {X : Cx} {elts : List Expr} {x1 : Nat} {tpos : Pos}
noncomputable def fZipT (g : FA) : FI := fun δ L => (g δ L).bind fun p => match p.1 with
  | [.tup us, .tup ws] => some (.seq (pairsU us ws), p.2)
  | _ => none
theorem pif_zipT {a b : Expr} {g : FA} {p pos : Pos} (hg : Gl X "zip") (hm : X.mg "zip" = none) (ha : PAF X [a, b] g) (hs : starEach [a, b] X.env = (false, eval a X.env) :: starEach [b] X.env := by rfl) (hpl : (backTo pos (starEach [b] X.env)).any (·.1) = false := by rfl) : PIF X (.Tuple elts x1 tpos) (.Call (.Name "zip" p) [a, b] [] pos) (fZipT g) := by
  refine PI.imp (pi_zipT hg hm ha hs hpl) ?_
  rintro σ H R ⟨α, δ, L, A, S, i, L3, e, q⟩
  obtain ⟨⟨us, L1⟩, e1, ee⟩ := Option.bind_eq_some_iff.mp e
  simp only at ee
  split at ee
  · cases ee
    refine ⟨α, δ, L, A, S, _, _, e1, fun xs H1 α1 g1 A1 r1 => ?_⟩
    obtain ⟨x, y, rfl, rx, ry⟩ := r1.two
    unfold RepU at rx ry
    obtain ⟨a', ys, rfl, sq, r2⟩ := rx
    obtain ⟨b', ys', rfl, sq', r2'⟩ := ry
    exact ⟨a', b', ys, ys', rfl, sq, sq', q _ H1 α1 g1 A1 (itzT_rep sq sq' r2 r2')⟩
  · cases ee
end
end MR
set_option Elab.async false
set_option linter.all false
set_option maxRecDepth 100000
set_option maxHeartbeats 4000000
namespace MR
open PySem PySem.Spec PyProof.Rows L2
section
variable {X : Cx} {pins : List (Addr × Obj)} {σ : L2.St} {H H' : Hp} {s : Shared}
noncomputable def Thaw (H H' H2 : Hp) : Prop := ∀ b, H2 b = H' b ∨ ∃ o vs, H' b = some (.frz o (.dK vs)) ∧ H2 b = some (.dK vs) ∧ ∀ o u, H b ≠ some (.frz o u)
theorem Thaw.stay {H2 : Hp} (t : Thaw H H' H2) {b : Addr} {u : Option HO} (e : H' b = u) (n : ∀ o ks, u ≠ some (.frz o (.dK ks))) : H2 b = u := by
  rcases t b with z | ⟨o, vs, z, _⟩
  · rw [z]; exact e
  · rw [e] at z; exact absurd z (n _ _)
end
section
variable {K : PySem.W.Frag} {H H' : Hp} {α : List Addr}
mutual
theorem RepU.via (g : ∀ a xs, SqT K H a xs → SqT K H' a xs) : ∀ (u : U) (v : V), RepU K H α u v → RepU K H' α u v
  | .non, _, h => h
  | .bl _, _, h => h
  | .int _, _, h => h
  | .str _, _, h => h
  | .tup l, v, h => by
    unfold RepU at h ⊢
    obtain ⟨a, xs, e, s, r⟩ := h
    exact ⟨a, xs, e, g _ _ s, RepL.via g l xs r⟩
  | .ref n, v, h => by
    unfold RepU at h ⊢
    exact h
theorem RepL.via (g : ∀ a xs, SqT K H a xs → SqT K H' a xs) : ∀ (l : List U) (xs : List V), RepL K H α l xs → RepL K H' α l xs
  | [], xs, h => h
  | u :: l, xs, h => by
    unfold RepL at h ⊢
    obtain ⟨x, r, e, h1, h2⟩ := h
    exact ⟨x, r, e, RepU.via g u x h1, RepL.via g l r h2⟩
end
end
end MR
set_option Elab.async false
set_option linter.all false
set_option maxRecDepth 100000
set_option maxHeartbeats 4000000
namespace MR
open PySem PySem.Spec PyProof.Rows L2
structure DObj (P : Program) (w : World) (o : Obj) (kvs : List (Key × V)) (vs : List (Key × Value)) (ep : Nat) : Prop where
  rel : KV kvs vs
  at_ : ∀ (h : Heap) (d : Addr), h.get? d = some o → h.DictAt (mixKind P w) d vs ep
theorem KV.at_ : ∀ {kvs : List (Key × V)} {vs : List (Key × Value)} {i : Nat} {p : Key × Value}, KV kvs vs → vs[i]? = some p → ∃ q, kvs[i]? = some q ∧ q.1 = p.1 ∧ RelV q.2 p.2
  | _, _, i, p, .nil, e => by simp at e
  | _, _, 0, p, .cons r t, e => by simp at e; subst e; exact ⟨_, rfl, r⟩
  | _, _, i + 1, p, .cons r t, e => by simpa using KV.at_ (i := i) t (by simpa using e)
section
variable {P : Program} {w : World} {K : PySem.W.Frag} {d it : Addr} {o : Obj} {kvs : List (Key × V)} {vs : List (Key × Value)} {ep : Nat}
end
section
variable {X : Cx} {tg o e : Expr} {apos cpos : Pos} {td : TE}
structure M0 (X : Cx) (o : Expr) (m : Str) (apos cpos : Pos) : Prop where
  base : attributeBase o m X.env (eval o X.env) = eval o X.env
  few : ((backTo cpos (starEach [] X.env)).all (fun x => !x.1) && (backToKw cpos (keywordEach [] X.env)).all (fun x => x.1.isSome)
    && decide (([] : List Expr).length + ([] : List Keyword).length + (if ([] : List Keyword).isEmpty then 0 else 1) < 30)) = true
  line : (apos.endLine == cpos.line) = true
  trees : backTo cpos (starEach [] X.env) = []
end
section
variable {K : PySem.W.Frag} {H : Hp} {α : List Addr} {L : UH} {a : Addr} {ob : Obj}
end
section
variable {X : Cx} {tg o : Expr} {apos cpos : Pos} {fo : FE}
noncomputable def rDIn : R2 := fun y x H Q => ∃ a r, x = .ref a ∧ DGet H a y r ∧ Q (.bl r.isSome) H
theorem op_din (hu : X.A.units + 64 < cLine) : OpR X (compareOp .In) rDIn := by
  intro pins s σ H x y u w Q I rx ry h
  obtain ⟨a, r, rfl, g, q⟩ := h
  obtain rfl : w = Value.ref a := ry
  exact d_in (by omega) I g rx fun s' I' => ⟨.bl _, H, I', rfl, q⟩
noncomputable def semDIn : S2 := fun y x L => match x with
  | .ref n => (toK y).bind fun k => (dicAt L n).map fun kvs => (.bl (valU kvs k).isSome, L)
  | _ => none
theorem find_any (k : Key) : ∀ kvs : List (Key × U), (kvs.find? fun kv => decide (kv.1 = k)).isSome = kvs.any fun kv => decide (kv.1 = k)
  | [] => rfl
  | kv :: kvs => by
    rw [List.find?_cons, List.any_cons]
    by_cases h : kv.1 = k
    · simp [h]
    · simp only [h, decide_false, Bool.false_or]
      exact find_any k kvs
theorem RepKV.some {K : PySem.W.Frag} {H : Hp} {α : List Addr} {kvs : List (Key × U)} {vs : List (Key × V)} (r : RepKV K H α kvs vs) (k : Key) : (valU kvs k).isSome = (valV vs k).isSome := by
  have h1 : (valU kvs k).isSome = kvs.any fun kv => decide (kv.1 = k) := by
    unfold valU
    rw [Option.isSome_map]
    exact find_any k kvs
  rw [h1, r.any, valV_any]
theorem sem_din {K : PySem.W.Frag} : SemR2 K rDIn semDIn := by
  intro H α L u w x y z L' Q A ru rw' e q
  unfold semDIn at e
  split at e
  · obtain ⟨k, hk, e⟩ := Option.bind_eq_some_iff.mp e
    obtain ⟨kvs, hd, e⟩ := Option.map_eq_some_iff.mp e
    cases e
    obtain ⟨a, vs, rfl, ea, ha, rk⟩ := ref_dic A hd rw'
    refine ⟨a, _, rfl, by rw [toK_ok ru hk]; exact DGet.k ha, ?_⟩
    rw [← rk.some k]
    exact q _ H α (.refl _ _) A rfl
  · cases e
end
noncomputable def dropD (kvs : List (Key × U)) (k : Key) : List (Key × U) := kvs.filter fun kv => decide (kv.1 ≠ k)
theorem RepKV.drop {K : PySem.W.Frag} {H : Hp} {α : List Addr} (k : Key) : ∀ {kvs : List (Key × U)} {vs : List (Key × V)}, RepKV K H α kvs vs → RepKV K H α (dropD kvs k) (dropK vs k)
  | [], vs, r => by
    have := r.1
    cases vs with
    | nil => exact .nil
    | cons _ _ => simp at this
  | kv :: kvs, vs, r => by
    obtain ⟨x, vs', rfl, rx, r'⟩ := r.cons
    unfold dropD dropK
    rw [List.filter_cons, List.filter_cons]
    by_cases h : kv.1 = k
    · simp only [h, ne_eq, not_true_eq_false, decide_false, Bool.false_eq_true, if_false]
      exact RepKV.drop k r'
    · simp only [h, ne_eq, not_false_eq_true, decide_true, if_true]
      exact .mk rx (RepKV.drop k r')
end MR
set_option Elab.async false
set_option linter.all false
set_option maxRecDepth 100000
set_option maxHeartbeats 4000000
namespace ZT
open PySem PySem.Spec PyProof.Rows PySem.W
open Sem (wp)
section
variable {prog : Program} {w : World} {A : Around} {E : Value → Shared → Prop} {s : Shared} {T : String} {r d : Addr} {n : Nat} {P : Nat → Value → Prop} {OK : Heap → Prop}
end
end ZT
namespace MR
open PySem PySem.Spec PyProof.Rows PySem.Calls L2
section
variable {X : Cx} {o : Expr} {apos cpos p pos : Pos} {td : TE} {fo : FE}
end
end MR
set_option Elab.async false
set_option linter.all false
set_option maxRecDepth 100000
set_option maxHeartbeats 4000000
namespace MR
open PySem PySem.Spec PyProof.Rows L2
end MR
set_option Elab.async false
set_option linter.all false
set_option maxRecDepth 100000
set_option maxHeartbeats 4000000
namespace MR
open PySem PySem.Spec PyProof.Rows L2
section
variable {X : Cx} {o i e f : Expr} {pos apos cpos : Pos} {fo fi fe fx : FE}
end
end MR
set_option Elab.async false
set_option linter.all false
set_option maxRecDepth 100000
set_option maxHeartbeats 4000000
namespace MR
open PySem PySem.Spec PyProof.Rows PySem.Calls L2
section
variable {X : Cx}
noncomputable def tLRng2 (ta : TA) : TE := fun σ H Q => ta σ H fun vs H1 => ∃ i j : Int, vs = [.int i, .int j] ∧ (-(2 ^ 62) ≤ i ∧ i < 2 ^ 62 ∧ -(2 ^ 62) ≤ j ∧ j < 2 ^ 62 ∧ (j - i).toNat ≤ 1000000) ∧ ∀ l, H1 l = none → Q (.ref l) (upd H1 l (.lst (rngV i (j - i).toNat)))
theorem pe_lrng2 {a b : Expr} {ta : TA} {p p' pos pos' : Pos} (hc : X.calm = true) (hgL : Gl X "list") (hmL : X.mg "list" = none) (hg : Gl X "range") (hm : X.mg "range" = none) (ha : PA X [a, b] ta) (hs : starEach [a, b] X.env = [(false, eval a X.env), (false, eval b X.env)] := by rfl) (hs1 : starEach [b] X.env = [(false, eval b X.env)] := by rfl)
    (hs2 : starEach [.Call (.Name "range" p') [a, b] [] pos'] X.env = [(false, eval (.Call (.Name "range" p') [a, b] [] pos') X.env)] := by rfl) : PE X (.Call (.Name "list" p) [.Call (.Name "range" p') [a, b] [] pos'] [] pos) (tLRng2 ta) := by
  intro pins s σ H Q I h
  refine wpAny_Call_Name_kw (ld_blt I hgL hmL boot_listT ?_)
  refine PyProof.Rows.callWith_type1 ?_ hs2 rfl
  rw [hs2]
  refine Calls.spliced_cons ?_
  refine wpAny_Call_Name_kw (ld_blt I hg hm boot_range (PyProof.Rows.callWith_type1 (thn (ha pos' pins s σ H _ I h) fun us s1 ⟨vs, H1, I1, r1, q1⟩ => ?_) (by rw [hs, hs1]) (by rw [hs1]; rfl)))
  obtain ⟨i, j, rfl, ⟨i0, i1, j0, j1, hn⟩, q⟩ := q1
  cases r1 with
  | cons r rr =>
    cases rr with
    | cons r' rr =>
      cases rr
      obtain ⟨t, rfl⟩ := r
      obtain ⟨t', rfl⟩ := r'
      refine call_range_2 ?_
      refine Calls.spliced_nil ?_
      exact list_rng (lo := i) (hi := j) hc I1 i0 i1 j0 j1 hn q
end
noncomputable def fLRng2 (g : FA) : FE := fun δ L => (g δ L).bind fun p => match p.1 with
  | [.int i, .int j] => if -(2 ^ 62) ≤ i ∧ i < 2 ^ 62 ∧ -(2 ^ 62) ≤ j ∧ j < 2 ^ 62 ∧ (j - i).toNat ≤ 1000000 then some (.ref p.2.length, p.2 ++ [.lst (rangeU i (j - i).toNat)]) else none
  | _ => none
theorem pf_lrng2 {X : Cx} {a b : Expr} {g : FA} {p p' pos pos' : Pos} (hc : X.calm = true) (hgL : Gl X "list") (hmL : X.mg "list" = none) (hg : Gl X "range") (hm : X.mg "range" = none) (ha : PAF X [a, b] g) (hs : starEach [a, b] X.env = [(false, eval a X.env), (false, eval b X.env)] := by rfl) (hs1 : starEach [b] X.env = [(false, eval b X.env)] := by rfl)
    (hs2 : starEach [.Call (.Name "range" p') [a, b] [] pos'] X.env = [(false, eval (.Call (.Name "range" p') [a, b] [] pos') X.env)] := by rfl) : PEF X (.Call (.Name "list" p) [.Call (.Name "range" p') [a, b] [] pos'] [] pos) (fLRng2 g) := by
  refine PE.imp (pe_lrng2 hc hgL hmL hg hm ha hs hs1 hs2) ?_
  rintro σ H Q ⟨α, δ, L, A, S, z, L3, e, q⟩
  obtain ⟨⟨us, L1⟩, e1, e⟩ := Option.bind_eq_some_iff.mp e
  refine ⟨α, δ, L, A, S, us, L1, e1, fun xs H1 α1 g1 A1 r1 => ?_⟩
  simp only at e
  split at e
  · split at e
    · rename_i hj
      cases e
      obtain ⟨x, y, rfl, rx, ry⟩ := r1.two
      unfold RepU at rx ry
      subst rx
      subst ry
      refine ⟨_, _, rfl, hj, fun l hl => ?_⟩
      obtain ⟨g2, A2, r2⟩ := A1.lst (rng_rep (K := X.K) (H := H1) (α := α1) _ _) hl
      exact q _ _ _ (g1.trans g2) A2 r2
    · cases e
  · cases e
end MR
set_option Elab.async false
set_option linter.all false
set_option maxRecDepth 100000
set_option maxHeartbeats 1000000
namespace SO
open PySem PySem.W PyProof.Rows
def On {α : Type} (n : Nat) (lt : Nat → Nat → Bool) (P : α → Prop) : KasT α → Prop
  | .ret a => P a
  | .ask i j k => i < n ∧ j < n ∧ On n lt P (k (lt i j))
theorem On.bind {α β : Type} {n : Nat} {lt : Nat → Nat → Bool} {P : α → Prop} {Q : β → Prop} {f : α → KasT β} (hf : ∀ a, P a → On n lt Q (f a)) : ∀ {t : KasT α}, On n lt P t → On n lt Q (t.bind f)
  | .ret a, h => hf a h
  | .ask i j k, h => ⟨h.1, h.2.1, On.bind hf h.2.2⟩
theorem On.imp {α : Type} {n : Nat} {lt : Nat → Nat → Bool} {P Q : α → Prop} (hf : ∀ a, P a → Q a) : ∀ {t : KasT α}, On n lt P t → On n lt Q t
  | .ret a, h => hf a h
  | .ask i j k, h => ⟨h.1, h.2.1, On.imp hf h.2.2⟩
theorem On.wp {α : Type} {n : Nat} {lt : Nat → Nat → Bool} {P : α → Prop} {cmp : Nat → Nat → (Bool → Shared → Prop) → Shared → Prop} {s : Shared} {Q : α → Shared → Prop} (hc : ∀ i j C, i < n → j < n → C (lt i j) s → cmp i j C s) (hq : ∀ a, P a → Q a s) : ∀ {t : KasT α}, On n lt P t → t.kasWp cmp Q s
  | .ret a, h => hq a h
  | .ask i j k, h => hc i j _ h.1 h.2.1 (On.wp hc hq h.2.2)
structure Wo (lt : Nat → Nat → Bool) : Prop where
  asym : ∀ i j, lt i j = true → lt j i = false
  tr : ∀ i j k, lt j i = false → lt k j = false → lt k i = false
section
variable {lt : Nat → Nat → Bool} {n : Nat}
def Le (lt : Nat → Nat → Bool) (i j : Nat) : Prop := lt j i = false
def Eqv (lt : Nat → Nat → Bool) (i j : Nat) : Prop := Le lt i j ∧ Le lt j i
theorem Wo.refl (W : Wo lt) (i : Nat) : Le lt i i := by
  unfold Le
  cases h : lt i i with
  | false => rfl
  | true => have := W.asym i i h; rw [h] at this; cases this
theorem Wo.le (W : Wo lt) {i j : Nat} (h : lt i j = true) : Le lt i j := W.asym i j h
theorem Wo.trans (W : Wo lt) {i j k : Nat} (h1 : Le lt i j) (h2 : Le lt j k) : Le lt i k := W.tr i j k h1 h2
def at0 (p : Array Nat) (i : Nat) : Nat := p.getD i 0
theorem at0_of {p q : Array Nat} {i j : Nat} (h : p[i]? = q[j]?) : at0 p i = at0 q j := by
  unfold at0
  rw [Array.getD_eq_getD_getElem?, Array.getD_eq_getD_getElem?, h]
structure Pm (n : Nat) (p : Array Nat) : Prop where
  size : p.size = n
  perm : p.toList.Perm (List.range n)
theorem Pm.bd {p : Array Nat} (h : Pm n p) (h0 : 0 < n) (i : Nat) : at0 p i < n := by
  unfold at0
  rw [Array.getD_eq_getD_getElem?]
  cases hi : p[i]? with
  | none => exact h0
  | some x =>
    have : x ∈ p.toList := by
      rw [← Array.getElem?_toList] at hi
      exact List.mem_of_getElem? hi
    exact List.mem_range.mp (h.perm.mem_iff.mp this)
def Up (lt : Nat → Nat → Bool) (p : Array Nat) (k : Nat) : Prop := ∀ i j, i ≤ j → j < k → Le lt (at0 p i) (at0 p j)
def Dn (lt : Nat → Nat → Bool) (p : Array Nat) (k : Nat) : Prop := ∀ i j, i ≤ j → j < k → Le lt (at0 p j) (at0 p i)
theorem Up.one (W : Wo lt) (p : Array Nat) : Up lt p 1 := fun i j h1 h2 => by
  have : i = j := by omega
  subst this; exact W.refl _
theorem Up.snoc (W : Wo lt) {p : Array Nat} {m : Nat} (h : Up lt p m) (hm : 1 ≤ m) (hl : Le lt (at0 p (m - 1)) (at0 p m)) : Up lt p (m + 1) := fun i j h1 h2 => by
  by_cases hj : j < m
  · exact h i j h1 hj
  · have hj : j = m := by omega
    subst hj
    by_cases hi : i = j
    · subst hi; exact W.refl _
    · exact W.trans (h i (j - 1) (by omega) (by omega)) hl
theorem Dn.snoc (W : Wo lt) {p : Array Nat} {m : Nat} (h : Dn lt p m) (hm : 1 ≤ m) (hl : Le lt (at0 p m) (at0 p (m - 1))) : Dn lt p (m + 1) := fun i j h1 h2 => by
  by_cases hj : j < m
  · exact h i j h1 hj
  · have hj : j = m := by omega
    subst hj
    by_cases hi : i = j
    · subst hi; exact W.refl _
    · exact W.trans hl (h i (j - 1) (by omega) (by omega))
theorem rev_at {p : Array Nat} {i j : Nat} (hj : j ≤ p.size) (k : Nat) : at0 (kas_rev p i j) k = if i ≤ k ∧ k < j then at0 p (i + j - 1 - k) else at0 p k := by
  have h := getElem?_mirror_all (xs := p) (i := i) hj k
  unfold kas_rev
  split
  · rename_i hc; rw [if_pos hc] at h; exact at0_of h
  · rename_i hc; rw [if_neg hc] at h; exact at0_of h
theorem Pm.rev {p : Array Nat} (h : Pm n p) (i j : Nat) : Pm n (kas_rev p i j) := ⟨by unfold kas_rev; rw [mirror_size]; exact h.size, (mirror_perm p i j _).toList.trans h.perm⟩
theorem Pm.bub {p : Array Nat} (h : Pm n p) (i j : Nat) : Pm n (bubble p i j) := ⟨by rw [bubble_size]; exact h.size, (bubble_perm p i j).toList.trans h.perm⟩
theorem bub_at {p : Array Nat} {k l : Nat} (hk : k < p.size) (hl : l ≤ k) (i : Nat) : at0 (bubble p k (k - l)) i = if i = l then at0 p k else if l < i ∧ i ≤ k then at0 p (i - 1) else at0 p i := by
  have h := getElem?_bubble (xs := p) hk (k - l) (by omega) i
  have e : k - (k - l) = l := by omega
  rw [e] at h
  split
  · rename_i hc; rw [if_pos hc] at h; exact at0_of h
  · rename_i hc
    rw [if_neg hc] at h
    split
    · rename_i hd; rw [if_pos hd] at h; exact at0_of h
    · rename_i hd; rw [if_neg hd] at h; exact at0_of h
theorem asc_on (W : Wo lt) {p : Array Nat} {nrem : Nat} (h0 : 0 < n) (hp : Pm n p) : ∀ (f m : Nat), 1 ≤ m → m + f = nrem → Up lt p m → On n lt (fun m' => m ≤ m' ∧ m' ≤ nrem ∧ Up lt p m' ∧ (m' = nrem ∨ lt (at0 p m') (at0 p (m' - 1)) = true)) (kas_asc p f m)
  | 0, m, h1, hf, hu => ⟨Nat.le_refl _, by omega, hu, .inl (by omega)⟩
  | f + 1, m, h1, hf, hu => by
    refine ⟨hp.bd h0 _, hp.bd h0 _, ?_⟩
    show On n lt _ (if lt (at0 p m) (at0 p (m - 1)) = true then KasT.ret m else kas_asc p f (m + 1))
    cases hl : lt (at0 p m) (at0 p (m - 1)) with
    | true => exact ⟨Nat.le_refl _, by omega, hu, .inr hl⟩
    | false =>
      exact (asc_on W h0 hp f (m + 1) (by omega) (by omega) (hu.snoc W h1 hl)).imp fun m' ⟨a, b, c⟩ => ⟨by omega, b, c⟩
def Tl (lt : Nat → Nat → Bool) (p : Array Nat) (m q : Nat) : Prop := ∀ i, m - (q + 1) ≤ i → i < m → Eqv lt (at0 p i) (at0 p (m - 1))
theorem Tl.rev (W : Wo lt) {p : Array Nat} {m q : Nat} (h : Tl lt p m q) (hq : q < m) (hm : m ≤ p.size) (k : Nat) : Eqv lt (at0 (kas_rev p (m - (q + 1)) m) k) (at0 p k) := by
  rw [rev_at hm]
  split
  · rename_i hc
    have a := h (m - (q + 1) + m - 1 - k) (by omega) (by omega)
    have b := h k hc.1 hc.2
    exact ⟨W.trans a.1 b.2, W.trans b.1 a.2⟩
  · exact ⟨W.refl _, W.refl _⟩
theorem Dn.eqv (W : Wo lt) {p p' : Array Nat} {m : Nat} (h : Dn lt p m) (he : ∀ k, Eqv lt (at0 p' k) (at0 p k)) : Dn lt p' m := fun i j h1 h2 => W.trans (he j).1 (W.trans (h i j h1 h2) (he i).2)
theorem desc_on (W : Wo lt) {nrem : Nat} (h0 : 0 < n) (hz : nrem ≤ n) : ∀ (f : Nat) (p : Array Nat) (m q : Nat), Pm n p → 1 ≤ m → m + f = nrem → Dn lt p m → q < m → Tl lt p m q →
    On n lt (fun r => Pm n r.1 ∧ 1 ≤ r.2.1 ∧ r.2.1 ≤ nrem ∧ Dn lt r.1 r.2.1 ∧ r.2.2 < r.2.1 ∧ Tl lt r.1 r.2.1 r.2.2) (kas_desc f p m q)
  | 0, p, m, q, hp, h1, hf, hd, hq, ht => ⟨hp, h1, (by show m ≤ nrem; omega), hd, hq, ht⟩
  | f + 1, p, m, q, hp, h1, hf, hd, hq, ht => by
    refine ⟨hp.bd h0 _, hp.bd h0 _, ?_⟩
    show On n lt _ (if lt (at0 p m) (at0 p (m - 1)) = true then _ else _)
    have tl0 : ∀ p' : Array Nat, Tl lt p' (m + 1) 0 := fun p' i i1 i2 => by
      have : i = m := by omega
      subst this
      rw [Nat.add_sub_cancel]; exact ⟨W.refl _, W.refl _⟩
    cases hl : lt (at0 p m) (at0 p (m - 1)) with
    | true =>
      have hms : m ≤ p.size := by rw [hp.size]; omega
      rw [if_pos rfl]
      by_cases hq0 : q > 0
      · rw [if_pos hq0]
        have he := ht.rev W hq hms
        have hm' : at0 (kas_rev p (m - (q + 1)) m) m = at0 p m := by rw [rev_at hms, if_neg (by omega)]
        have hd' := (hd.eqv W he).snoc W h1 (by rw [hm']; exact W.trans (W.le hl) (he (m - 1)).2)
        exact desc_on W h0 hz f _ (m + 1) 0 (hp.rev _ _) (by omega) (by omega) hd' (by omega) (tl0 _)
      · rw [if_neg hq0]
        exact desc_on W h0 hz f p (m + 1) 0 hp (by omega) (by omega) (hd.snoc W h1 (W.le hl)) (by omega) (tl0 _)
    | false =>
      rw [if_neg (by simp)]
      refine ⟨hp.bd h0 _, hp.bd h0 _, ?_⟩
      show On n lt _ (if lt (at0 p (m - 1)) (at0 p m) = true then _ else _)
      cases hl2 : lt (at0 p (m - 1)) (at0 p m) with
      | true => rw [if_pos rfl]; exact ⟨hp, h1, (by show m ≤ nrem; omega), hd, hq, ht⟩
      | false =>
        rw [if_neg (by simp)]
        refine desc_on W h0 hz f p (m + 1) (q + 1) hp (by omega) (by omega) (hd.snoc W h1 hl2) (by omega) fun i i1 i2 => ?_
        rw [Nat.add_sub_cancel]
        by_cases hi : i = m
        · subst hi; exact ⟨W.refl _, W.refl _⟩
        · have a := ht i (by omega) (by omega)
          exact ⟨W.trans a.1 hl, W.trans hl2 a.2⟩
theorem tail_on (W : Wo lt) {m nrem : Nat} {p : Array Nat} (h0 : 0 < n) (hz : nrem ≤ n) (hp : Pm n p) (h1 : 1 ≤ m) (hm : m ≤ nrem) (hd : Dn lt p m) : On n lt (fun r => Pm n r.2 ∧ 1 ≤ r.1 ∧ r.1 ≤ nrem ∧ Up lt r.2 r.1) (kas_tail3 m nrem p) := by
  have hms : m ≤ p.size := by rw [hp.size]; omega
  have hu : Up lt (kas_rev p 0 m) m := fun i j i1 i2 => by
    rw [rev_at hms, rev_at hms, if_pos (by omega), if_pos (by omega)]
    exact hd _ _ (by omega) (by omega)
  unfold kas_tail3
  exact On.bind (fun a ⟨a1, a2, a3, _⟩ => ⟨hp.rev _ _, by omega, a2, a3⟩) (asc_on (nrem := nrem) W h0 (hp.rev 0 m) (nrem - m) m h1 (by omega) hu)
theorem descPart_on (W : Wo lt) {m nrem : Nat} {p : Array Nat} (h0 : 0 < n) (hz : nrem ≤ n) (hp : Pm n p) (hm : m + 1 ≤ nrem) (hd : Dn lt p (m + 1)) : On n lt (fun r => Pm n r.2 ∧ 1 ≤ r.1 ∧ r.1 ≤ nrem ∧ Up lt r.2 r.1) (kas_descPart m nrem p) := by
  unfold kas_descPart
  have tl0 : Tl lt p (m + 1) 0 := fun i i1 i2 => by
    have : i = m := by omega
    subst this
    rw [Nat.add_sub_cancel]; exact ⟨W.refl _, W.refl _⟩
  refine On.bind (fun r ⟨a1, a2, a3, a4, a5, a6⟩ => ?_) (desc_on W h0 hz (nrem - (m + 1)) p (m + 1) 0 hp (by omega) (by omega) hd (by omega) tl0)
  have hms : r.2.1 ≤ r.1.size := by rw [a1.size]; omega
  split
  · exact tail_on W h0 hz (a1.rev _ _) a2 a3 (a4.eqv W (a6.rev W a5 hms))
  · exact tail_on W h0 hz a1 a2 a3 a4
theorem count_on (W : Wo lt) {nrem : Nat} {p : Array Nat} (h0 : 0 < n) (hz : nrem ≤ n) (h1 : 1 ≤ nrem) (hp : Pm n p) : On n lt (fun r => Pm n r.2 ∧ 1 ≤ r.1 ∧ r.1 ≤ nrem ∧ Up lt r.2 r.1) (kas_count nrem p) := by
  unfold kas_count
  refine On.bind (fun m ⟨a1, a2, a3, a4⟩ => ?_) (asc_on (nrem := nrem) W h0 hp (nrem - 1) 1 (Nat.le_refl _) (by omega) (Up.one W p))
  by_cases hm : (m == nrem) = true
  · rw [if_pos hm]; exact ⟨hp, by omega, a2, a3⟩
  · rw [if_neg hm]
    have hne : m ≠ nrem := by simpa using hm
    have hlt : lt (at0 p m) (at0 p (m - 1)) = true := a4.resolve_left hne
    by_cases hm1 : m > 1
    · rw [if_pos hm1]
      refine ⟨hp.bd h0 _, hp.bd h0 _, ?_⟩
      show On n lt _ (if lt (at0 p 0) (at0 p (m - 1)) = true then _ else _)
      cases hl : lt (at0 p 0) (at0 p (m - 1)) with
      | true => rw [if_pos rfl]; exact ⟨hp, by omega, a2, a3⟩
      | false =>
        rw [if_neg (by simp)]
        have hms : m ≤ p.size := by rw [hp.size]; omega
        have hall : ∀ i j, i < m → j < m → Le lt (at0 p i) (at0 p j) := fun i j i1 j1 => W.trans (a3 i (m - 1) (by omega) (by omega)) (W.trans hl (a3 0 j (by omega) j1))
        refine descPart_on W h0 hz (hp.rev 0 m) (by omega) ?_
        have hd : Dn lt (kas_rev p 0 m) m := fun i j i1 i2 => by
          rw [rev_at hms, rev_at hms, if_pos (by omega), if_pos (by omega)]
          exact hall _ _ (by omega) (by omega)
        refine hd.snoc W (by omega) ?_
        rw [rev_at hms, rev_at hms, if_neg (by omega), if_pos (by omega)]
        exact W.trans (W.le hlt) (hall _ _ (by omega) (by omega))
    · rw [if_neg hm1]
      have : m = 1 := by omega
      subst this
      refine descPart_on W h0 hz hp (by omega) ?_
      have hd : Dn lt p 1 := fun i j h1 h2 => by
        have : i = j := by omega
        subst this; exact W.refl _
      exact hd.snoc W (Nat.le_refl _) (W.le hlt)
theorem place_on (W : Wo lt) {p : Array Nat} {k : Nat} (h0 : 0 < n) (hp : Pm n p) (hu : Up lt p k) : ∀ (f l r : Nat), l ≤ r → r ≤ k → r - l ≤ f → (∀ i, i < l → Le lt (at0 p i) (at0 p k)) → (∀ i, r ≤ i → i < k → Le lt (at0 p k) (at0 p i)) →
    On n lt (fun l' => l' ≤ k ∧ (∀ i, i < l' → Le lt (at0 p i) (at0 p k)) ∧ ∀ i, l' ≤ i → i < k → Le lt (at0 p k) (at0 p i)) (kas_place p k f l r)
  | 0, l, r, h1, h2, h3, h4, h5 => ⟨by omega, h4, fun i i1 i2 => h5 i (by omega) i2⟩
  | f + 1, l, r, h1, h2, h3, h4, h5 => by
    unfold kas_place
    by_cases hlr : l ≥ r
    · rw [if_pos hlr]; exact ⟨by omega, h4, fun i i1 i2 => h5 i (by omega) i2⟩
    · rw [if_neg hlr]
      refine ⟨hp.bd h0 _, hp.bd h0 _, ?_⟩
      show On n lt _ (if lt (at0 p k) (at0 p ((l + r) / 2)) = true then _ else _)
      cases hl : lt (at0 p k) (at0 p ((l + r) / 2)) with
      | true =>
        rw [if_pos rfl]
        exact place_on W h0 hp hu f l ((l + r) / 2) (by omega) (by omega) (by omega) h4 fun i i1 i2 => W.trans (W.le hl) (hu _ _ i1 i2)
      | false =>
        rw [if_neg (by simp)]
        exact place_on W h0 hp hu f ((l + r) / 2 + 1) r (by omega) h2 (by omega) (fun i i1 => W.trans (hu i ((l + r) / 2) (by omega) (by omega)) hl) h5
theorem bin_on (W : Wo lt) (h0 : 0 < n) : ∀ (f : Nat) (p : Array Nat) (k : Nat), Pm n p → Up lt p k → k + f = n → On n lt (fun p' => Pm n p' ∧ Up lt p' n) (kas_bin f p k)
  | 0, p, k, hp, hu, hk => ⟨hp, (show k = n by omega) ▸ hu⟩
  | f + 1, p, k, hp, hu, hk => by
    unfold kas_bin
    refine On.bind (fun l ⟨a1, a2, a3⟩ => ?_) (place_on W h0 hp hu k 0 k (by omega) (Nat.le_refl _) (by omega) (fun i h => by omega) fun i h1 h2 => by omega)
    have hks : k < p.size := by rw [hp.size]; omega
    refine bin_on W h0 f _ (k + 1) (hp.bub _ _) (fun i j i1 i2 => ?_) (by omega)
    rw [bub_at hks a1, bub_at hks a1]
    by_cases hi : i = l
    · rw [if_pos hi]
      by_cases hj : j = l
      · rw [if_pos hj]; exact W.refl _
      · rw [if_neg hj, if_pos (by omega)]; exact a3 _ (by omega) (by omega)
    · rw [if_neg hi]
      by_cases hi2 : l < i ∧ i ≤ k
      · rw [if_pos hi2, if_neg (by omega), if_pos (by omega)]
        exact hu _ _ (by omega) (by omega)
      · rw [if_neg hi2]
        by_cases hj : j = l
        · rw [if_pos hj]; exact a2 _ (by omega)
        · rw [if_neg hj]
          by_cases hj2 : l < j ∧ j ≤ k
          · rw [if_pos hj2]; exact hu _ _ (by omega) (by omega)
          · rw [if_neg hj2]; exact hu _ _ i1 (by omega)
theorem sort_on (W : Wo lt) (h0 : 0 < n) : On n lt (fun p => Pm n p ∧ Up lt p n) (kas_sort n) := by
  unfold kas_sort
  have hp : Pm n (List.toArray (List.range n)) := ⟨by simp, by simp⟩
  refine On.bind (fun r ⟨a1, a2, a3, a4⟩ => ?_) (count_on W h0 (Nat.le_refl n) h0 hp)
  by_cases hr : r.1 < n
  · rw [if_pos hr]
    have hm : max r.1 1 = r.1 := by omega
    rw [hm]
    exact bin_on W h0 _ _ _ a1 a4 (by omega)
  · rw [if_neg hr]
    have : r.1 = n := by omega
    exact ⟨a1, by rw [← this]; exact a4⟩
end
end SO
set_option Elab.async false
set_option linter.all false
set_option maxRecDepth 100000
set_option maxHeartbeats 1000000
namespace SO
open PySem PySem.W PySem.Calls PyProof.Rows
section
variable {P : Program} {w : World} {A : Around} {E : Value → Shared → Prop} {s : Shared} {vs : List Value} {lt : Nat → Nat → Bool} {κ : SortKind}
def Kb (a : Addr) (h h' : Heap) : Prop := ∀ b o, b ≠ a → h.get? b = some o → h'.get? b = some o
theorem Kb.trans {a : Addr} {h h1 h2 : Heap} (x : Kb a h h1) (y : Kb a h1 h2) : Kb a h h2 := fun b o hb e => y b o hb (x b o hb e)
theorem kb_upd (h : Heap) (a : Addr) (f : Obj → Obj) : Kb a h (h.update a f) := fun b o hb e => ((Heap.SameBut.update h a f).2 b hb).trans e
theorem kb_push (a : Addr) (h : Heap) (o : Obj) : Kb a h (h.push o) := fun _ _ _ e => Heap.get?_push_of_some _ e
def outV (vs : List Value) (p : Array Nat) : List Value := p.toList.map fun i => vs.getD i Value.none
theorem outV_range (vs : List Value) : outV vs (List.toArray (List.range vs.length)) = vs := by
  unfold outV
  apply List.ext_getElem
  · simp
  · intro i h1 h2
    simp [h2]
theorem lsort_by {a : Addr} {c0 : Nat} {F : PySem.Fin → Shared → Prop} (W : Wo lt) (ho : s.heap.get? a = some (seqObj "list" vs.toArray c0)) (h64 : vs.length < 64)
    (hkind : 2 ≤ vs.length → ∀ (h' : Heap) (Q : SortKind → Shared → Prop), Kb a s.heap h' → Q κ { s with heap := h' } → wpAny (model P w) A (keyKind' vs.toArray) Q E { s with heap := h' })
    (hask : ∀ (h' : Heap) (i j : Nat) (C : Bool → Shared → Prop), Kb a s.heap h' → i < vs.length → j < vs.length → C (lt i j) { s with heap := h' } → kas_ask P w A κ vs i j C { s with heap := h' })
    (hq : ∀ (p : Array Nat) (h' : Heap) (c : Nat), Pm vs.length p → Up lt p vs.length → Kb a s.heap h' → h'.get? a = some (seqObj "list" (outV vs p).toArray c) → F (.done (.ret .none)) { s with heap := h' }) :
    wpAny (model P w) A (Builtin.«list.sort» ⟨[.ref a], []⟩) F E s := by
  obtain ⟨c1, h1⟩ : ∃ c1, (s.heap.update a (Obj.mapSeq fun _ => (#[] : Array Value))).get? a = some (seqObj "list" #[] c1) := ⟨_, get?_update_seq ho fun _ => #[]⟩
  have k1 : Kb a s.heap (((s.heap.update a (Obj.mapSeq fun _ => (#[] : Array Value))).push (seqObj "tuple" vs.toArray 0)).push (seqObj "list" #[] 0)) := ((kb_upd _ _ _).trans (kb_push _ _ _)).trans (kb_push _ _ _)
  have h3 : (((s.heap.update a (Obj.mapSeq fun _ => (#[] : Array Value))).push (seqObj "tuple" vs.toArray 0)).push (seqObj "list" #[] 0)).get? a = some (seqObj "list" #[] c1) := Heap.get?_push_of_some _ (Heap.get?_push_of_some _ h1)
  rw [list_sort_plain]
  refine wpAny_bind (listItems_at ho rfl (wpAny_bind (listUpdate_at ho rfl (wpAny_bind (seqEpoch_at h1 rfl (wpAny_bind (wpAny_newTuple (wpAny_bind (wpAny_newList (wpAny_holding ?_) (Nat.zero_le _))) ?z2)))) ?z1 (Nat.zero_le _))))
  case z1 => rw [List.size_toArray, sizeLine_eq]; omega
  case z2 => show vs.length ≤ _; rw [sizeLine_eq]; omega
  show wpAny (model P w) A _ F E ({ s with heap := ((s.heap.update a (Obj.mapSeq fun _ => (#[] : Array Value))).push (seqObj "tuple" vs.toArray 0)).push (seqObj "list" #[] 0) } : Shared)
  generalize ((s.heap.update a (Obj.mapSeq fun _ => (#[] : Array Value))).push (seqObj "tuple" vs.toArray 0)).push (seqObj "list" #[] 0) = hp at k1 h3
  dsimp only
  have fin : ∀ (p : Array Nat) (st : SortSt), Pm vs.length p → Up lt p vs.length → (arrOf st).map (·.2) = (outV vs p).toArray → failedOf st = none → wpAny (model P w) A (do
      let touched := (← seqEpoch a) != c1
      Builtin.List.listUpdate (.ref a) fun _ => (arrOf st).map (·.2)
      if let some e := failedOf st then rule "list.sort.comparison-raised"; throw e
      if touched then rule "list.sort.modified"; raiseError "ValueError" "list modified during sort"
      ret .none) F E { s with heap := hp } := by
    intro p st hpm hup hout hfail
    have hlen : (outV vs p).length = vs.length := by unfold outV; rw [List.length_map, Array.length_toList, hpm.size]
    obtain ⟨c2, h4⟩ : ∃ c2, (hp.update a (Obj.mapSeq fun _ => (outV vs p).toArray)).get? a = some (seqObj "list" (outV vs p).toArray c2) := ⟨_, get?_update_seq h3 fun _ => (outV vs p).toArray⟩
    rw [hout, hfail]
    refine wpAny_bind (seqEpoch_at h3 rfl (wpAny_bind (listUpdate_at h3 rfl ?_ (Nat.zero_le _) ?z3)))
    case z3 => rw [List.size_toArray, hlen, sizeLine_eq]; omega
    simp only [bne_self_eq_false, Bool.false_eq_true, if_false]
    exact wpAny_pure (hq p _ c2 hpm hup (k1.trans (kb_upd _ _ _)) h4)
  by_cases hsmall : vs.toArray.size < 2
  · rw [if_pos hsmall, if_pos hsmall]
    have hs2 : vs.length < 2 := by simpa using hsmall
    refine wpAny_bind (wpAny_pure ?_)
    rw [StateT.run_pure]
    refine wpAny_bind (wpAny_pure (fin (List.toArray (List.range vs.length)) (SortSt.mk' general' (vs.toArray.zip vs.toArray) #[] 7 none) ⟨by simp, by simp⟩ ?_ ?_ rfl))
    · intro i j hij hj
      have : i = j := by omega
      subst this; exact W.refl _
    · rw [outV_range]
      show (vs.toArray.zip vs.toArray).map (·.2) = vs.toArray
      apply Array.ext
      · simp
      · intro i i1 i2; simp
  · rw [if_neg hsmall, if_neg hsmall]
    have hs2 : 2 ≤ vs.length := by simp at hsmall; omega
    refine wpAny_bind (hkind hs2 hp _ k1 ?_)
    have on := (sort_on (n := vs.length) W (by omega)).wp (cmp := kas_ask P w A κ vs) (s := { s with heap := hp }) (Q := fun p s' => (Pm vs.length p ∧ Up lt p vs.length) ∧ s' = { s with heap := hp }) (fun i j C hi hj hC => hask hp i j C k1 hi hj hC) fun p h => ⟨h, rfl⟩
    refine wpAny_bind (wpAny_mono (kat_run (Q := fun st s' => ∃ p : Array Nat, arrOf st = p.map (kas_item (vs.toArray.zip vs.toArray)) ∧ failedOf st = none ∧ (Pm vs.length p ∧ Up lt p vs.length) ∧ s' = { s with heap := hp }) rfl hs2 h64 (fun p st s' _ q1 q2 q3 => ⟨p, q1, q2, q3⟩) on) ?_ fun _ _ e => e)
    rintro ⟨⟨⟩, st⟩ s' ⟨p, q1, q2, ⟨q3, q4⟩, rfl⟩
    exact fin p st q3 q4 (kat_snds rfl q1) q2
theorem sorted_by {l : Addr} {Q : Value → Shared → Prop} (W : Wo lt) (hl : s.heap.IsList l vs.toArray) (h64 : vs.length < 64)
    (hkind : 2 ≤ vs.length → ∀ (h' : Heap) (Q : SortKind → Shared → Prop) (E : Value → Shared → Prop), (∀ b o, s.heap.get? b = some o → h'.get? b = some o) → Q κ { s with heap := h' } → wpAny (model P w) A.in1.in1 (keyKind' vs.toArray) Q E { s with heap := h' })
    (hask : ∀ (h' : Heap) (i j : Nat) (C : Bool → Shared → Prop), (∀ b o, s.heap.get? b = some o → h'.get? b = some o) → i < vs.length → j < vs.length → C (lt i j) { s with heap := h' } → kas_ask P w A.in1.in1 κ vs i j C { s with heap := h' })
    (hq : ∀ (p : Array Nat) (h' : Heap) (c : Nat), Pm vs.length p → Up lt p vs.length → (∀ b o, s.heap.get? b = some o → h'.get? b = some o) → h'.get? (s.heap.objs.size + 1) = some (seqObj "list" (outV vs p).toArray c) → Q (.ref (s.heap.objs.size + 1)) { s with heap := h' }) :
    wpAny (model P w) A (call (.builtin "sorted") [.ref l]) Q E s := by
  have e1 : ((s.heap.push (seqObj "list" #[] 0)).update s.heap.objs.size (Obj.mapSeq (· ++ vs.toArray))).objs.size = s.heap.objs.size + 1 := by rw [Heap.size_update, size_push']
  have e2 : (((s.heap.push (seqObj "list" #[] 0)).update s.heap.objs.size (Obj.mapSeq (· ++ vs.toArray))).push (seqObj "list" vs.toArray 0)).get? (s.heap.objs.size + 1) = some (seqObj "list" vs.toArray 0) := by rw [← e1]; exact Heap.get?_push_size _ rfl
  have e3 : ∀ b o, s.heap.get? b = some o → (((s.heap.push (seqObj "list" #[] 0)).update s.heap.objs.size (Obj.mapSeq (· ++ vs.toArray))).push (seqObj "list" vs.toArray 0)).get? b = some o := fun b o q =>
    Heap.get?_push_of_some _ (kb_upd _ _ _ b o (Nat.ne_of_lt (Heap.lt_size q)) (Heap.get?_push_of_some _ q))
  have e4 : ∀ (h' : Heap), Kb (s.heap.objs.size + 1) (((s.heap.push (seqObj "list" #[] 0)).update s.heap.objs.size (Obj.mapSeq (· ++ vs.toArray))).push (seqObj "list" vs.toArray 0)) h' → ∀ b o, s.heap.get? b = some o → h'.get? b = some o := fun h' k b o q =>
    k b o (Nat.ne_of_lt (Nat.lt_succ_of_lt (Heap.lt_size q))) (e3 b o q)
  refine call_function_entry kind_sorted plain_sorted entry_sorted (args_sorted1 _) ?_
  unfold Builtin.«sorted»
  refine wpAny_bind (m := checkCount "sorted" 1 1 _) (wpAny_pure (wpAny_bind (collect_list hl (wpAny_bind (wpAny_newList ?_ ?y2)) ?y1)))
  case y1 => rw [sizeLine_eq]; omega
  case y2 => rw [sizeLine_eq]; omega
  show wpAny _ _ _ _ _ ({ s with heap := ((s.heap.push (seqObj "list" #[] 0)).update s.heap.objs.size (Obj.mapSeq (· ++ vs.toArray))).push (seqObj "list" vs.toArray 0) } : Shared)
  rw [e1]
  generalize ((s.heap.push (seqObj "list" #[] 0)).update s.heap.objs.size (Obj.mapSeq (· ++ vs.toArray))).push (seqObj "list" vs.toArray 0) = hp at e2 e3 e4
  refine wpAny_bind (wpAny_holding (wpAny_call_entry slot_list_sort ⟨_, e2, rfl⟩ entry_list_sort (lsort_by (s := { s with heap := hp }) W e2 h64 (fun h2 h' Q' k q => hkind h2 h' Q' _ (e4 h' k) q) (fun h' i j C k => hask h' i j C (e4 h' k)) fun p h' c a1 a2 a3 a4 => ⟨_, rfl, ?_⟩) (args_list_sort _)))
  exact wpAny_pure ⟨_, rfl, hq p h' c a1 a2 (e4 h' a3) a4⟩
end
end SO
set_option Elab.async false
set_option linter.all false
set_option maxRecDepth 100000
set_option maxHeartbeats 4000000
namespace MR
open PySem PySem.Spec PyProof.Rows PySem.Calls L2 SO
noncomputable def ltT : List Int → List Int → Bool
  | _, [] => false
  | [], _ :: _ => true
  | a :: x, b :: y => if a == b then ltT x y else decide (a < b)
theorem ltT_asym : ∀ x y : List Int, ltT x y = true → ltT y x = false
  | x, [], h => by unfold ltT at h; cases h
  | [], b :: y, _ => by simp [ltT]
  | a :: x, b :: y, h => by
    unfold ltT at h ⊢
    by_cases e : a = b
    · subst e
      simp only [beq_self_eq_true, if_true] at h ⊢
      exact ltT_asym x y h
    · have h1 : (a == b) = false := by simpa using e
      have h2 : (b == a) = false := by simpa using fun q => e q.symm
      simp only [h1, h2, Bool.false_eq_true, if_false, decide_eq_true_eq] at h ⊢
      simp only [decide_eq_false_iff_not]; omega
theorem ltT_tr : ∀ x y z : List Int, ltT y x = false → ltT z y = false → ltT z x = false
  | [], _, z, _, _ => by unfold ltT; rfl
  | a :: x, [], z, h, _ => by simp [ltT] at h
  | a :: x, b :: y, [], _, h => by simp [ltT] at h
  | a :: x, b :: y, c :: z, h1, h2 => by
    unfold ltT at h1 h2 ⊢
    by_cases e1 : b = a
    · subst e1
      simp only [beq_self_eq_true, if_true] at h1
      by_cases e2 : c = b
      · subst e2
        simp only [beq_self_eq_true, if_true] at h2 ⊢
        exact ltT_tr x y z h1 h2
      · have q : (c == b) = false := by simpa using e2
        simp only [q, Bool.false_eq_true, if_false] at h2 ⊢
        exact h2
    · have q1 : (b == a) = false := by simpa using e1
      simp only [q1, Bool.false_eq_true, if_false, decide_eq_false_iff_not] at h1
      by_cases e2 : c = b
      · subst e2
        simp only [q1, Bool.false_eq_true, if_false, decide_eq_false_iff_not]; exact h1
      · have q2 : (c == b) = false := by simpa using e2
        simp only [q2, Bool.false_eq_true, if_false, decide_eq_false_iff_not] at h2
        have e3 : c ≠ a := by omega
        have q3 : (c == a) = false := by simpa using e3
        simp only [q3, Bool.false_eq_true, if_false, decide_eq_false_iff_not]; omega
theorem ltT_anti : ∀ x y : List Int, ltT x y = false → ltT y x = false → x = y
  | [], [], _, _ => rfl
  | a :: x, [], _, h => by simp [ltT] at h
  | [], b :: y, h, _ => by simp [ltT] at h
  | a :: x, b :: y, h1, h2 => by
    unfold ltT at h1 h2
    by_cases e : a = b
    · subst e
      simp only [beq_self_eq_true, if_true] at h1 h2
      rw [ltT_anti x y h1 h2]
    · have q1 : (a == b) = false := by simpa using e
      have q2 : (b == a) = false := by simpa using fun q => e q.symm
      simp only [q1, q2, Bool.false_eq_true, if_false, decide_eq_false_iff_not] at h1 h2
      omega
noncomputable def leT (x y : List Int) : Prop := ltT y x = false
theorem sort_same : ∀ {a b : List (List Int)}, a.Perm b → a.Pairwise leT → b.Pairwise leT → a = b
  | [], b, p, _, _ => p.nil_eq
  | x :: r, [], p, _, _ => absurd p.length_eq (by simp)
  | x :: r, y :: t, p, ha, hb => by
    have hx : x ∈ y :: t := p.mem_iff.mp (List.mem_cons_self ..)
    have hy : y ∈ x :: r := p.mem_iff.mpr (List.mem_cons_self ..)
    have e : x = y := by
      rcases List.mem_cons.mp hx with h | h
      · exact h
      · rcases List.mem_cons.mp hy with h' | h'
        · exact h'.symm
        · exact ltT_anti x y ((List.pairwise_cons.mp hb).1 x h) ((List.pairwise_cons.mp ha).1 y h')
    subst e
    rw [sort_same p.cons_inv (List.pairwise_cons.mp ha).2 (List.pairwise_cons.mp hb).2]
noncomputable def insT (x : List Int) : List (List Int) → List (List Int)
  | [] => [x]
  | y :: r => if ltT y x = true then y :: insT x r else x :: y :: r
theorem insT_perm (x : List Int) : ∀ l, (insT x l).Perm (x :: l)
  | [] => .refl _
  | y :: r => by
    unfold insT
    split
    · exact ((insT_perm x r).cons y).trans (.swap ..)
    · exact .refl _
theorem insT_sorted (x : List Int) : ∀ l, l.Pairwise leT → (insT x l).Pairwise leT
  | [], _ => List.pairwise_singleton ..
  | y :: r, h => by
    obtain ⟨h1, h2⟩ := List.pairwise_cons.mp h
    unfold insT
    split
    · rename_i hl
      refine List.pairwise_cons.mpr ⟨fun z hz => ?_, insT_sorted x r h2⟩
      rcases List.mem_cons.mp ((insT_perm x r).mem_iff.mp hz) with e | e
      · subst e; exact ltT_asym _ _ hl
      · exact h1 z e
    · rename_i hl
      have hl : leT x y := by unfold leT; simpa using hl
      refine List.pairwise_cons.mpr ⟨fun z hz => ?_, h⟩
      rcases List.mem_cons.mp hz with e | e
      · subst e; exact hl
      · exact ltT_tr x y z hl (h1 z e)
noncomputable def sortT : List (List Int) → List (List Int)
  | [] => []
  | x :: r => insT x (sortT r)
theorem sortT_perm : ∀ l, (sortT l).Perm l
  | [] => .refl _
  | x :: r => (insT_perm x _).trans ((sortT_perm r).cons x)
theorem sortT_sorted : ∀ l, (sortT l).Pairwise leT
  | [] => .nil
  | x :: r => insT_sorted x _ (sortT_sorted r)
inductive Tups (K : PySem.W.Frag) (H : Hp) : List (List Int) → List V → Prop
  | nil : Tups K H [] []
  | cons {a : Addr} {n : Int} {t : List Int} {ts : List (List Int)} {ys : List V} (h : SqT K H a ((n :: t).map V.int)) (r : Tups K H ts ys) : Tups K H ((n :: t) :: ts) (.ref a :: ys)
theorem Tups.len {K : PySem.W.Frag} {H : Hp} {ts : List (List Int)} {ys : List V} (r : Tups K H ts ys) : ts.length = ys.length := by
  induction r with
  | nil => rfl
  | cons h r ih => simp [ih]
theorem Tups.at_ {K : PySem.W.Frag} {H : Hp} {ts : List (List Int)} {ys : List V} (r : Tups K H ts ys) : ∀ i, i < ts.length → ∃ (a : Addr) (n : Int) (t : List Int), ts[i]? = some (n :: t) ∧ ys[i]? = some (.ref a) ∧ SqT K H a ((n :: t).map V.int) := by
  induction r with
  | nil => intro i h; simp at h
  | @cons a n t ts ys h r ih =>
    intro i hi
    cases i with
    | zero => exact ⟨a, n, t, rfl, rfl, h⟩
    | succ i => simpa using ih i (by simpa using hi)
theorem lex_ok {P : Program} {w : World} {A : Around} {b fin : Bool} {s : Shared} {Q : Bool → Shared → Prop} : ∀ (ns ms : List Int) (xs ys : List Value) (i : Nat), Vals (ns.map V.int) xs → Vals (ms.map V.int) ys → fin = decide (ns.length < ms.length) → Q (ltT ns ms) s → PySem.W.KatLex P w A b fin Q (xs.zip ys) i s
  | [], ms, xs, ys, i, rx, ry, hf, q => by
    rw [List.map_nil] at rx; cases rx
    rw [List.zip_nil_left]
    refine PySem.W.kat_nil ?_
    rw [hf]
    cases ms with
    | nil => exact q
    | cons m ms => simpa [ltT] using q
  | n :: ns, [], xs, ys, i, rx, ry, hf, q => by
    rw [List.map_nil] at ry; cases ry
    rw [List.zip_nil_right]
    refine PySem.W.kat_nil ?_
    rw [hf]
    simpa [ltT] using q
  | n :: ns, m :: ms, xs, ys, i, rx, ry, hf, q => by
    rw [List.map_cons] at rx ry
    cases rx with
    | cons r1 r2 =>
      cases ry with
      | cons s1 s2 =>
        obtain ⟨t, rfl⟩ := r1
        obtain ⟨u, rfl⟩ := s1
        rw [List.zip_cons_cons]
        refine PySem.W.kat_cons (PySem.wpAny_eqBool_int ?_)
        unfold ltT at q
        cases e : (n == m) with
        | true =>
          rw [e, if_pos rfl] at q
          exact PySem.W.kat_yes (lex_ok ns ms _ _ (i + 1) r2 s2 (by rw [hf]; simp) q)
        | false =>
          rw [e, if_neg (by simp)] at q
          refine PySem.W.kat_no ?_
          cases (b && i == 0) with
          | true => exact oneLt_int q
          | false => exact PySem.W.kat_one _ _ (lt_int q)
section
variable {X : Cx}
theorem call_sortT (hc : X.calm = true) : CallR X (.builtin "sorted") (fun xs H Q => ∃ (l : Addr) (ys : List V) (ts : List (List Int)), xs = [.ref l] ∧ SqL X.K H l ys ∧ Tups X.K H ts ys ∧ ys.length < 64 ∧
    ∀ (p : Addr) (ks : List Nat), H p = none → (ks.map fun i => ts.getD i []) = sortT ts → (∀ k ∈ ks, k < ys.length) → Q (.ref p) (upd H p (.lst (ks.map fun i => ys.getD i .non)))) := by
  intro pins s σ H xs us Q I r h
  obtain ⟨l, ys, ts, rfl, hq, tp, h64, q⟩ := h
  obtain ⟨u, rfl, rx⟩ := vals1 r
  cases rx
  obtain ⟨its, rv, pl, hz⟩ := I.list hq
  have hlen := rv.length
  have htl := tp.len
  have hat : ∀ i, i < its.length → ∃ (a : Addr) (n : Int) (t : List Int) (vs : List Value), its[i]? = some (.ref a) ∧ ts.getD i [] = n :: t ∧ Vals ((n :: t).map V.int) vs ∧ IsTup s.heap a vs.toArray := by
    intro i hi
    obtain ⟨a, n, t, e1, e2, sq⟩ := tp.at_ i (by omega)
    obtain ⟨v, e3, rr⟩ := rv.get e2
    cases rr
    obtain ⟨vs, r2, it, _⟩ := I.tuple sq
    exact ⟨a, n, t, vs, e3, by rw [List.getD_eq_getElem?_getD, e1]; rfl, r2, it⟩
  have W : Wo fun i j => ltT (ts.getD i []) (ts.getD j []) := ⟨fun i j h => ltT_asym _ _ h, fun i j k h1 h2 => ltT_tr _ _ _ h1 h2⟩
  refine sorted_by (κ := tuples' (Value.type "int" != Value.type "tuple")) W pl.isList (by omega) ?kd ?ak ?en
  case kd =>
    intro h2 h' Q' E' kp q'
    have mk : ∀ (m : Nat), m ≤ its.length → ∃ fs : List Value, PySem.W.KatTups h' (its.drop (its.length - m)) fs ∧ fs.length = m ∧ ∀ v ∈ fs, PySem.W.Looks (model X.prog X.w) h' (typeOf v) (.type "int") := by
      intro m
      induction m with
      | zero => intro _; exact ⟨[], by rw [Nat.sub_zero, List.drop_length]; exact PySem.W.KatTups.nil, rfl, by simp⟩
      | succ m ih =>
        intro hm
        obtain ⟨fs, k1, k2, k3⟩ := ih (by omega)
        obtain ⟨a, n, t, vs, e1, _, r2, it⟩ := hat (its.length - (m + 1)) (by omega)
        obtain ⟨o, ho, hcls, nn, hd⟩ := it
        rw [List.map_cons] at r2
        cases r2 with
        | @cons _ v0 _ vr rr rs =>
          obtain ⟨tk, rfl⟩ := rr
          have hdrop : its.drop (its.length - (m + 1)) = .ref a :: its.drop (its.length - m) := by
            have hlt : its.length - (m + 1) < its.length := by omega
            rw [List.drop_eq_getElem_cons hlt]
            have : its[its.length - (m + 1)] = .ref a := by
              rw [List.getElem?_eq_getElem hlt] at e1; exact Option.some.inj e1
            rw [this]
            congr 2; omega
          refine ⟨.int n tk :: fs, ?_, by simp [k2], fun v hv => ?_⟩
          · rw [hdrop]
            exact PySem.W.KatTups.cons (kp _ _ ho) hcls hd rfl k1
          · rcases List.mem_cons.mp hv with e | e
            · subst e
              exact PySem.W.Looks.now
            · exact k3 v e
    obtain ⟨fs, k1, k2, k3⟩ := mk its.length (Nat.le_refl _)
    rw [Nat.sub_self, List.drop_zero] at k1
    exact PySem.W.kat_kind (s := { s with heap := h' }) k1 (by omega) k3 rfl q'
  case ak =>
    intro h' i j C kp hi hj hC
    obtain ⟨a, n, t, vs, e1, e2, r2, it⟩ := hat i hi
    obtain ⟨b, m, u, ws, f1, f2, s2, jt⟩ := hat j hj
    obtain ⟨o, ho, _, c1, hd⟩ := it
    obtain ⟨o', ho', _, c2, hd'⟩ := jt
    have g1 : its.getD i Value.none = .ref a := by rw [List.getD_eq_getElem?_getD, e1]; rfl
    have g2 : its.getD j Value.none = .ref b := by rw [List.getD_eq_getElem?_getD, f1]; rfl
    unfold PySem.W.kas_ask
    rw [g1, g2]
    refine PySem.W.kat_lt (s := { s with heap := h' }) (kp _ _ ho) hd (kp _ _ ho') hd' ?_
    have hl1 := r2.length
    have hl2 := s2.length
    rw [List.length_map] at hl1 hl2
    refine lex_ok (n :: t) (m :: u) vs ws 0 r2 s2 ?_ ?_
    · rw [List.size_toArray, List.size_toArray, ← hl1, ← hl2]
    · rw [← e2, ← f2]; exact hC
  case en =>
    intro p h' c hp hu kp hl
    have hks : (p.toList.map fun i => ts.getD i []) = sortT ts := by
      refine sort_same ?_ ?_ (sortT_sorted ts)
      · have e : (List.range its.length).map (fun i => ts.getD i []) = ts := by
          apply List.ext_getElem
          · simp; omega
          · intro i h1 h2
            simp [h2]
        exact ((hp.perm.map _).trans (by rw [e])).trans (sortT_perm ts).symm
      · rw [List.pairwise_map, List.pairwise_iff_getElem]
        intro i j hi hj hij
        have hz : p.toList.length = its.length := by rw [Array.length_toList]; exact hp.size
        have := hu i j (Nat.le_of_lt hij) (by omega)
        have ai : at0 p i = p.toList[i] := by unfold at0; rw [Array.getD_eq_getD_getElem?, ← Array.getElem?_toList, List.getElem?_eq_getElem hi]; rfl
        have aj : at0 p j = p.toList[j] := by unfold at0; rw [Array.getD_eq_getD_getElem?, ← Array.getElem?_toList, List.getElem?_eq_getElem hj]; rfl
        rw [ai, aj] at this
        exact this
    have hlt : ∀ k ∈ p.toList, k < ys.length := fun k hk => by
      have := List.mem_range.mp (hp.perm.mem_iff.mp hk)
      omega
    have hrel : Vals (p.toList.map fun i => ys.getD i .non) (outV its p) := by
      unfold outV
      have : ∀ ks : List Nat, (∀ k ∈ ks, k < ys.length) → Vals (ks.map fun i => ys.getD i .non) (ks.map fun i => its.getD i Value.none) := by
        intro ks
        induction ks with
        | nil => intro _; exact .nil
        | cons k ks ih =>
          intro hk
          have hk0 := hk k (List.mem_cons_self ..)
          obtain ⟨v, e3, rr⟩ := rv.get (List.getElem?_eq_getElem hk0)
          refine .cons ?_ (ih fun x hx => hk x (List.mem_cons_of_mem _ hx))
          show L2.RelV (ys.getD k .non) (its.getD k Value.none)
          rw [List.getD_eq_getElem?_getD, List.getD_eq_getElem?_getD, List.getElem?_eq_getElem hk0, e3]
          exact rr
      exact this _ hlt
    have hsz : (p.toList.map fun i => ys.getD i .non).length ≤ sizeLine := by
      have : p.toList.length = its.length := by rw [Array.length_toList]; exact hp.size
      rw [List.length_map, this, sizeLine_eq]; omega
    have I1 : Inv X pins σ (upd H (s.heap.objs.size + 1) (.lst (p.toList.map fun i => ys.getD i .non))) { s with heap := h' } := I.laid (t' := s.toks) kp (Nat.le_succ _) ⟨hsz, outV its p, c, hrel, hl⟩
    exact ⟨.ref (s.heap.objs.size + 1), _, I1, rfl, q _ _ (I.hok.fresh (Nat.le_succ _)) hks hlt⟩
end
noncomputable def toTI : U → Option (List Int)
  | .tup l => mapO toI l
  | _ => none
noncomputable def tupI (l : List Int) : U := .tup (l.map U.int)
noncomputable def semSortT : SC := fun us L => match us with
  | [.ref n] => (seqAt L n).bind fun l => (mapO toTI l).bind fun ts => if ts.length < 64 ∧ (ts.all fun t => !t.isEmpty) = true then some (.ref L.length, L ++ [.lst ((sortT ts).map tupI)]) else none
  | _ => none
theorem tups_of {K : PySem.W.Frag} {H : Hp} {α : List Addr} : ∀ {us : List U} {ys : List V} {ts : List (List Int)}, RepL K H α us ys → mapO toTI us = some ts → (ts.all fun t => !t.isEmpty) = true → Tups K H ts ys
  | [], ys, ts, r, e, h => by
    unfold RepL at r; subst r
    simp only [mapO] at e; cases e
    exact .nil
  | u :: us, ys, ts, r, e, h => by
    unfold RepL at r
    obtain ⟨x, xr, rfl, r1, r2⟩ := r
    simp only [mapO] at e
    obtain ⟨t, e1, e⟩ := Option.bind_eq_some_iff.mp e
    obtain ⟨tr, e2, e⟩ := Option.map_eq_some_iff.mp e
    subst e
    rw [List.all_cons, Bool.and_eq_true] at h
    have ih := tups_of r2 e2 h.2
    cases u with
    | tup l =>
      unfold RepU at r1
      obtain ⟨a, vs, rfl, sq, rl⟩ := r1
      have hv := toIs_ok rl e1
      rw [hv] at sq
      cases t with
      | nil => simp at h
      | cons n t => exact .cons sq ih
    | _ => cases e1
theorem toTI_eq : ∀ {us : List U} {ts : List (List Int)}, mapO toTI us = some ts → us = ts.map tupI
  | [], ts, e => by simp only [mapO] at e; cases e; rfl
  | u :: us, ts, e => by
    simp only [mapO] at e
    obtain ⟨t, e1, e⟩ := Option.bind_eq_some_iff.mp e
    obtain ⟨tr, e2, e⟩ := Option.map_eq_some_iff.mp e
    subst e
    rw [List.map_cons, toTI_eq e2]
    congr 1
    cases u with
    | tup l =>
      have : ∀ (l : List U) (t : List Int), mapO toI l = some t → l = t.map U.int := by
        intro l
        induction l with
        | nil => intro t e; simp only [mapO] at e; cases e; rfl
        | cons a l ih =>
          intro t e
          simp only [mapO] at e
          obtain ⟨x, x1, e⟩ := Option.bind_eq_some_iff.mp e
          obtain ⟨y, y1, e⟩ := Option.map_eq_some_iff.mp e
          subst e
          rw [List.map_cons, ← ih y y1]
          cases a <;> first | (cases x1; rfl) | cases x1
      unfold tupI
      rw [this l t e1]
    | _ => cases e1
theorem sem_sortT {K : PySem.W.Frag} : SemC K (fun xs H Q => ∃ (l : Addr) (ys : List V) (ts : List (List Int)), xs = [.ref l] ∧ SqL K H l ys ∧ Tups K H ts ys ∧ ys.length < 64 ∧
    ∀ (p : Addr) (ks : List Nat), H p = none → (ks.map fun i => ts.getD i []) = sortT ts → (∀ k ∈ ks, k < ys.length) → Q (.ref p) (upd H p (.lst (ks.map fun i => ys.getD i .non)))) semSortT := by
  intro H α L us xs z L' Q A r e q
  unfold semSortT at e
  split at e
  · obtain ⟨l, hl, e⟩ := Option.bind_eq_some_iff.mp e
    obtain ⟨ts, hts, e⟩ := Option.bind_eq_some_iff.mp e
    split at e
    · rename_i hc
      cases e
      obtain ⟨x, rfl, rx⟩ := r.one
      obtain ⟨a, ys, rfl, sq, r2⟩ := refs_at A hl rx
      have tp := tups_of r2 hts hc.2
      have hlen := tp.len
      refine ⟨a, ys, ts, rfl, sq, tp, by omega, fun p ks hp hks hlt => ?_⟩
      have rl : RepL K H α ((sortT ts).map tupI) (ks.map fun i => ys.getD i .non) := by
        rw [← hks]
        have hus := toTI_eq hts
        have : ∀ ks : List Nat, (∀ k ∈ ks, k < ys.length) → RepL K H α ((ks.map fun i => ts.getD i []).map tupI) (ks.map fun i => ys.getD i .non) := by
          intro ks
          induction ks with
          | nil => intro _; exact .nil
          | cons k ks ih =>
            intro hk
            have hk0 := hk k (List.mem_cons_self ..)
            have hkt : k < ts.length := by omega
            refine .cons ?_ (ih fun x hx => hk x (List.mem_cons_of_mem _ hx))
            have eu : l[k]? = some (tupI (ts.getD k [])) := by
              rw [hus, List.getElem?_map, List.getD_eq_getElem?_getD, List.getElem?_eq_getElem hkt]; rfl
            obtain ⟨x, ex, rx⟩ := r2.get eu
            show RepU K H α (tupI (ts.getD k [])) (ys.getD k .non)
            rw [List.getD_eq_getElem?_getD (l := ys), ex]
            exact rx
        exact this ks hlt
      obtain ⟨g2, A2, r3⟩ := A.lst rl hp
      exact q _ _ _ g2 A2 r3
    · cases e
  · cases e
end MR
set_option Elab.async false
set_option linter.all false
set_option maxRecDepth 100000
set_option maxHeartbeats 4000000
namespace HT
open PySem PyProof.Rows
section
open PySem.SeqAt
open PySem.AutoSeq1 (wpAny_loadPart')
open PySem.MeetsSeq PySem.MeetsSeq2 PySem.MeetsSeq3
end
section
variable {prog : Program} {w : World} {A : Around} {E : Value → Shared → Prop} {s : Shared}
end
end HT
namespace MR
open PySem PyProof.Rows L2
end MR
set_option Elab.async false
set_option linter.all false
set_option maxRecDepth 100000
set_option maxHeartbeats 4000000
namespace MR
open PySem PySem.Spec PyProof.Rows PySem.Calls L2
theorem parts_len (x y : Str) : (Txt.split x y).length ≤ x.length + 2 := by
  unfold Txt.split
  split
  · simp
  · split
    · simp
    · have e1 := StrLaws.occ_length_le x y 0 x.length (x.length + 1)
      rw [length_partsBetween]; omega
theorem split_new {P : Program} {w : World} {A : Around} {E : Value → Shared → Prop} {s : Shared} {Q : Value → Shared → Prop} {x y : Str} {t u : Tok} (hy : (y.length == 0) = false) (hsz : x.length + 2 ≤ sizeLine)
    (h : ∀ (l : List (Str × Tok)) (k : Nat), l.map (·.1) = Txt.split x y → Q (.ref s.heap.objs.size) { s with heap := s.heap.push { cls := .type "list", data := .seq (strValues l).toArray }, toks := k }) :
    wpAny (model P w) A (call (.builtin "str.split") [.str x t, .str y u]) Q E s := by
  have hn := parts_len x y
  by_cases c1 : (decide (x.length < y.length) || decide (Builtin.Str.strKind x < Builtin.Str.strKind y)) = true
  · have e : Txt.split x y = [x] := by unfold Txt.split; rw [if_pos c1]
    exact call_meets PySem.F.slot_str_split (typeIs_str _ _ _) PySem.F.entry_str_split (PySem.F.args_str_split_2 _ _) (meets_str_split_cannot_occur x y t u c1) (h [(x, t)] s.toks (by rw [e]; rfl))
  have c1' : (decide (x.length < y.length) || decide (Builtin.Str.strKind x < Builtin.Str.strKind y)) = false := by simpa using c1
  by_cases c2 : (Builtin.Str.occurrences x y 0 x.length (x.length + 1)).isEmpty = true
  · have e : Txt.split x y = [x] := by unfold Txt.split; rw [if_neg c1, if_pos c2]
    exact call_meets PySem.F.slot_str_split (typeIs_str _ _ _) PySem.F.entry_str_split (PySem.F.args_str_split_2 _ _) (meets_str_split_not_found x y t u c1' hy c2) (h [(x, t)] s.toks (by rw [e]; rfl))
  have c2' : (Builtin.Str.occurrences x y 0 x.length (x.length + 1)).isEmpty = false := by simpa using c2
  have e : Txt.split x y = Builtin.Str.partsBetween x (Builtin.Str.occurrences x y 0 x.length (x.length + 1)) y.length := by unfold Txt.split; rw [if_neg c1, if_neg c2]
  rw [e] at hn
  refine call_meets PySem.F.slot_str_split (typeIs_str _ _ _) PySem.F.entry_str_split (PySem.F.args_str_split_2 _ _) (meets_str_split_sep x y t u c1' hy c2' (by omega) (by omega)) ?_
  show wants Q E _ _
  rw [strsFrom_eq]
  exact h (numbered s.toks _) _ ((numbered_texts _ _).trans e.symm)
theorem strVals_rel : ∀ (l : List (Str × Tok)), Vals ((l.map (·.1)).map V.str) (strValues l)
  | [] => .nil
  | p :: r => .cons ⟨p.2, rfl⟩ (strVals_rel r)
section
variable {X : Cx}
noncomputable def rSplit : V → List V → Hp → VK → Prop := fun x vs H Q => ∃ a b, x = .str a ∧ vs = [.str b] ∧ (b.length == 0) = false ∧ a.length + 2 ≤ sizeLine ∧ ∀ l, H l = none → Q (.ref l) (upd H l (.lst ((Txt.split a b).map V.str)))
theorem mt_split : MtR X "str.split" rSplit := by
  intro pins s σ H x vs v us Q I rx rv h
  obtain ⟨a, b, rfl, rfl, hb, hz, q⟩ := h
  obtain ⟨t, rfl⟩ := rx
  obtain ⟨u, rfl, ru⟩ := rv.one
  obtain ⟨t', rfl⟩ := ru
  refine split_new hb hz fun l k e => ?_
  have hlen := parts_len a b
  refine ⟨.ref s.heap.objs.size, _, I.laid (t' := k) (o := .lst ((Txt.split a b).map V.str)) (fun b o e => Heap.get?_push_of_some _ e) (Nat.le_refl _) ⟨by rw [List.length_map]; omega, strValues l, 0, by rw [← e]; exact strVals_rel l, Heap.get?_push_size _ rfl⟩, rfl, q _ (I.hok.fresh (Nat.le_refl _))⟩
noncomputable def rStarts : V → List V → Hp → VK → Prop := fun x vs H Q => ∃ a b, x = .str a ∧ vs = [.str b] ∧ Q (.bl (Txt.startswith a b)) H
theorem mt_starts : MtR X "str.startswith" rStarts := by
  intro pins s σ H x vs v us Q I rx rv h
  obtain ⟨a, b, rfl, rfl, q⟩ := h
  obtain ⟨t, rfl⟩ := rx
  obtain ⟨u, rfl, ru⟩ := rv.one
  obtain ⟨t', rfl⟩ := ru
  exact SC.startswith ⟨.bl (Txt.startswith a b), H, I, rfl, q⟩
theorem call_intT : CallR X (.type "int") (fun xs H Q => ∃ a n, xs = [.str a] ∧ PySem.intText? a = some n ∧ a.length ≤ 640 ∧ Q (.int n) H) := by
  intro pins s σ H xs us Q I r h
  obtain ⟨a, n, rfl, hn, hl, q⟩ := h
  obtain ⟨u, rfl, ru⟩ := r.one
  obtain ⟨t, rfl⟩ := ru
  exact PySem.W.KIN.call_text hn hl ⟨.int n, H, I.tok _, ⟨_, rfl⟩, q⟩
end
noncomputable def semSplit : SM := fun u us L => match u, us with
  | .str a, [.str b] => if (b.length == 0) = false ∧ a.length ≤ 1000000 then some (.ref L.length, L ++ [.lst ((Txt.split a b).map U.str)]) else none
  | _, _ => none
theorem strs_rep {K : PySem.W.Frag} {H : Hp} {α : List Addr} : ∀ l : List Str, RepL K H α (l.map U.str) (l.map V.str)
  | [] => .nil
  | a :: l => .cons (by unfold RepU; rfl) (strs_rep l)
theorem sem_split {K : PySem.W.Frag} : SemM K rSplit semSplit := by
  intro H α L u us x xs z L' Q A ru r e q
  unfold semSplit at e
  split at e
  · rename_i a b
    split at e
    · rename_i hc
      cases e
      unfold RepU at ru
      subst ru
      obtain ⟨v, rfl, rv⟩ := r.one
      unfold RepU at rv
      subst rv
      refine ⟨a, b, rfl, rfl, hc.1, by unfold sizeLine; omega, fun l hl => ?_⟩
      obtain ⟨g2, A2, r2⟩ := A.lst (strs_rep (K := K) (H := H) (α := α) (Txt.split a b)) hl
      exact q _ _ _ g2 A2 r2
    · cases e
  · cases e
noncomputable def semStarts : SM := fun u us L => match u, us with
  | .str a, [.str b] => some (.bl (Txt.startswith a b), L)
  | _, _ => none
theorem sem_starts {K : PySem.W.Frag} : SemM K rStarts semStarts := by
  intro H α L u us x xs z L' Q A ru r e q
  unfold semStarts at e
  split at e
  · cases e
    unfold RepU at ru
    subst ru
    obtain ⟨v, rfl, rv⟩ := r.one
    unfold RepU at rv
    subst rv
    exact ⟨_, _, rfl, rfl, q _ H α (.refl _ _) A rfl⟩
  · cases e
noncomputable def semIntT : SC := fun us L => match us with
  | [.str a] => if a.length ≤ 640 then (PySem.intText? a).map fun n => (.int n, L) else none
  | _ => none
theorem sem_intT {K : PySem.W.Frag} : SemC K (fun xs H Q => ∃ a n, xs = [.str a] ∧ PySem.intText? a = some n ∧ a.length ≤ 640 ∧ Q (.int n) H) semIntT := by
  intro H α L us xs z L' Q A r e q
  unfold semIntT at e
  split at e
  · split at e
    · rename_i hc
      obtain ⟨n, hn, e⟩ := Option.map_eq_some_iff.mp e
      cases e
      obtain ⟨x, rfl, rx⟩ := r.one
      unfold RepU at rx
      subst rx
      exact ⟨_, n, rfl, hn, hc, q _ H α (.refl _ _) A rfl⟩
    · cases e
  · cases e
end MR
namespace MR
open PySem PySem.Spec PyProof.Rows PySem.Calls L2
theorem pf_globS {X : Cx} {x : Str} {a : Str} {pos : Pos} (hg : Gl X x) (hm : ∃ t, X.mg x = some (.str a t)) (hd : (x == ("__debug__" : Str)) = false := by decide) : PEF X (.Name x pos) (fC (.str a)) :=
  let ⟨t, h⟩ := hm
  pf_c (pe_glob (v := .str a) hg h ⟨t, rfl⟩ hd) fun _ _ => by unfold RepU; rfl
theorem pf_globI {X : Cx} {x : Str} {i : Int} {pos : Pos} (hg : Gl X x) (hm : ∃ t, X.mg x = some (.int i t)) (hd : (x == ("__debug__" : Str)) = false := by decide) : PEF X (.Name x pos) (fC (.int i)) :=
  let ⟨t, h⟩ := hm
  pf_c (pe_glob (v := .int i) hg h ⟨t, rfl⟩ hd) fun _ _ => by unfold RepU; rfl
end MR
set_option Elab.async false
set_option linter.all false
set_option maxRecDepth 100000
set_option maxHeartbeats 4000000
namespace MR
open PySem PySem.Spec PyProof.Rows PySem.Calls L2
noncomputable def fmtOk (n : Int) : Bool := decide (-100000000000000000000 ≤ n) && decide (n ≤ 100000000000000000000)
theorem fmt_log {n : Int} (h : fmtOk n = true) : n.natAbs.log2 < 1920 := by
  unfold fmtOk at h
  simp only [Bool.and_eq_true, decide_eq_true_eq] at h
  have h1 : n.natAbs ≤ 100000000000000000000 := by omega
  by_cases h0 : n.natAbs = 0
  · rw [h0]; decide
  · rw [Nat.log2_lt h0]
    refine Nat.lt_of_le_of_lt h1 ?_
    have : (100000000000000000000 : Nat) < 2 ^ 100 := by decide
    exact Nat.lt_of_lt_of_le this (Nat.pow_le_pow_right (by decide) (by decide))
noncomputable def numT (n : Int) : Str := Str.ofString (toString n)
noncomputable def tFmt (t : TE) : TE := fun σ H Q => t σ H fun v H1 => (∃ x, v = .str x ∧ x.length ≤ sizeLine ∧ Q (.str x) H1) ∨ ∃ n, v = .int n ∧ fmtOk n = true ∧ Q (.str (numT n)) H1
section
variable {X : Cx}
theorem pe_fmt {e : Expr} {t : TE} {pos : Pos} (h : PE X e t) : PE X (.FormattedValue e (-1) none pos) (tFmt t) := by
  intro pins s σ H Q I q
  refine FormattedValue_plain (thn (h pins s σ H _ I q) fun v s1 ⟨x, H1, I1, r1, q1⟩ => ?_)
  rcases q1 with ⟨a, rfl, hl, q⟩ | ⟨n, rfl, hn, q⟩
  · obtain ⟨t', rfl⟩ := r1
    exact formatField_str (fun t'' tk => ⟨.str a, H1, I1.tok tk, ⟨_, rfl⟩, q⟩) hl
  · obtain ⟨t', rfl⟩ := r1
    exact formatField_int_small (fmt_log hn) ⟨.str (numT n), H1, I1.tok _, ⟨_, rfl⟩, q⟩
noncomputable def tJ : Str → List TE → L2.St → Hp → VK → Prop
  | out, [], _, H, Q => out.length ≤ sizeLine ∧ Q (.str out) H
  | out, t :: r, σ, H, Q => t σ H fun v H1 => ∃ x, v = .str x ∧ (out ++ x).length ≤ sizeLine ∧ tJ (out ++ x) r σ H1 Q
inductive PEs (X : Cx) : List Expr → List TE → Prop
  | nil : PEs X [] []
  | cons {e : Expr} {t : TE} {es : List Expr} {ts : List TE} (h : PE X e t) (r : PEs X es ts) : PEs X (e :: es) (t :: ts)
theorem join_walk {es : List Expr} {ts : List TE} (h : PEs X es ts) : ∀ (pins : List (Addr × Obj)) (s : Shared) (σ : L2.St) (H : Hp) (Q : VK) (out : Str), Inv X pins σ H s →
    tJ out ts σ H Q → wpAny (model X.prog X.w) X.A (joinParts out (evalEach es X.env)) (EP X pins σ Q) X.xe s := by
  induction h with
  | nil =>
    intro pins s σ H Q out I q
    obtain ⟨hl, q⟩ := q
    exact joinParts_nil ⟨.str out, H, I.tok _, ⟨_, rfl⟩, q⟩ hl
  | @cons e t es ts h r ih =>
    intro pins s σ H Q out I q
    show wpAny _ _ (joinParts out (eval e X.env :: evalEach es X.env)) _ _ _
    refine joinParts_cons (thn (h pins s σ H _ I q) fun v s1 ⟨x, H1, I1, r1, y, ey, hl, q1⟩ => ?_)
    subst ey
    obtain ⟨t', rfl⟩ := r1
    exact ⟨hl, ih pins s1 σ H1 Q (out ++ y) I1 q1⟩
theorem pe_joined {v1 v2 : Expr} {es : List Expr} {ts : List TE} {pos : Pos} (h : PEs X (v1 :: v2 :: es) ts) : PE X (.JoinedStr (v1 :: v2 :: es) pos) (tJ Str.empty ts) := fun pins s σ H Q I q =>
  JoinedStr_many (join_walk h pins s σ H Q Str.empty I q)
end
noncomputable def fFmt (f : FE) : FE := fun δ L => (f δ L).bind fun p => match p.1 with
  | .str x => if small x.length = true then some (.str x, p.2) else none
  | .int n => if fmtOk n = true then some (.str (numT n), p.2) else none
  | _ => none
theorem pf_fmt {X : Cx} {e : Expr} {f : FE} {pos : Pos} (h : PEF X e f) : PEF X (.FormattedValue e (-1) none pos) (fFmt f) := by
  refine PE.imp (pe_fmt h) ?_
  rintro σ H Q ⟨α, δ, L, A, S, z, L3, e, q⟩
  obtain ⟨⟨u, L1⟩, e1, e⟩ := Option.bind_eq_some_iff.mp e
  refine ⟨α, δ, L, A, S, u, L1, e1, fun x H1 α1 g1 A1 r1 => ?_⟩
  simp only at e
  split at e
  · split at e
    · rename_i hc
      cases e
      unfold RepU at r1
      subst r1
      exact .inl ⟨_, rfl, small_le hc, q _ _ _ g1 A1 (by unfold RepU; rfl)⟩
    · cases e
  · split at e
    · rename_i hc
      cases e
      unfold RepU at r1
      subst r1
      exact .inr ⟨_, rfl, hc, q _ _ _ g1 A1 (by unfold RepU; rfl)⟩
    · cases e
  · cases e
noncomputable def goJ : Str → List FE → UE → UH → Option (U × UH)
  | out, [], _, L => some (.str out, L)
  | out, f :: r, δ, L => (f δ L).bind fun p => match p.1 with
    | .str x => if small (out ++ x).length = true then goJ (out ++ x) r δ p.2 else none
    | _ => none
noncomputable def fJoined (fs : List FE) : FE := fun δ L => goJ Str.empty fs δ L
inductive PFs (X : Cx) : List Expr → List FE → Prop
  | nil : PFs X [] []
  | cons {e : Expr} {f : FE} {es : List Expr} {fs : List FE} (h : PEF X e f) (r : PFs X es fs) : PFs X (e :: es) (f :: fs)
theorem PFs.pes {X : Cx} {es : List Expr} {fs : List FE} (h : PFs X es fs) : PEs X es (fs.map (lE X.K)) := by
  induction h with
  | nil => exact .nil
  | cons h r ih => exact .cons h ih
theorem goJ_ok {K : PySem.W.Frag} : ∀ (fs : List FE) (out : Str) (σ : L2.St) (H : Hp) (Q : VK) (α : List Addr) (δ : UE) (L : UH) (z : U) (L3 : UH), Abs K H α L → RepS K H α δ σ → goJ out fs δ L = some (z, L3) → out.length ≤ sizeLine →
    (∀ v H' α', Gr H α H' α' → Abs K H' α' L3 → RepU K H' α' z v → Q v H') → tJ out (fs.map (lE K)) σ H Q
  | [], out, σ, H, Q, α, δ, L, z, L3, A, S, e, hl, q => by
    cases e
    exact ⟨hl, q _ H α (.refl _ _) A (by unfold RepU; rfl)⟩
  | f :: r, out, σ, H, Q, α, δ, L, z, L3, A, S, e, hl, q => by
    unfold goJ at e
    obtain ⟨⟨u, L1⟩, e1, e⟩ := Option.bind_eq_some_iff.mp e
    refine ⟨α, δ, L, A, S, u, L1, e1, fun x H1 α1 g1 A1 r1 => ?_⟩
    simp only at e
    split at e
    · split at e
      · rename_i x' hc
        unfold RepU at r1
        subst r1
        exact ⟨x', rfl, small_le hc, goJ_ok r (out ++ x') σ H1 Q α1 δ L1 z L3 A1 (S.mono g1) e (small_le hc) fun v H' α' g A' r' => q v H' α' (g1.trans g) A' r'⟩
      · cases e
    · cases e
theorem pf_joined {X : Cx} {v1 v2 : Expr} {es : List Expr} {fs : List FE} {pos : Pos} (h : PFs X (v1 :: v2 :: es) fs) : PEF X (.JoinedStr (v1 :: v2 :: es) pos) (fJoined fs) := by
  refine PE.imp (pe_joined h.pes) ?_
  rintro σ H Q ⟨α, δ, L, A, S, z, L3, e, q⟩
  exact goJ_ok fs Str.empty σ H Q α δ L z L3 A S e (Nat.zero_le _) q
end MR
set_option Elab.async false
set_option linter.all false
set_option maxRecDepth 100000
set_option maxHeartbeats 1000000
namespace MR
open PySem L2
@[simp] theorem fVar_eq (i : Nat) (δ : UE) (L : UH) : fVar i δ L = (δ[i]?).join.map fun u => (u, L) := rfl
@[simp] theorem fC_eq (u : U) (δ : UE) (L : UH) : fC u δ L = some (u, L) := rfl
@[simp] theorem f2_eq (s : S2) (a b : FE) (δ : UE) (L : UH) : f2 s a b δ L = (a δ L).bind fun p => (b δ p.2).bind fun q => s p.1 q.1 q.2 := rfl
@[simp] theorem fTest_eq (f : FE) (δ : UE) (L : UH) : fTest f δ L = (f δ L).bind fun p => match p.1 with | .bl k => some (k, p.2) | _ => none := rfl
@[simp] theorem fAnd_eq (f g : FT) (δ : UE) (L : UH) : fAnd f g δ L = (f δ L).bind fun p => if p.1 = true then g δ p.2 else some (false, p.2) := rfl
@[simp] theorem fOr_eq (f g : FT) (δ : UE) (L : UH) : fOr f g δ L = (f δ L).bind fun p => if p.1 = true then some (true, p.2) else g δ p.2 := rfl
@[simp] theorem fNot_eq (f : FT) (δ : UE) (L : UH) : fNot f δ L = (f δ L).map fun p => (!p.1, p.2) := rfl
@[simp] theorem fAndV_eq (f g : FE) (δ : UE) (L : UH) : fAndV f g δ L = (f δ L).bind fun p => match p.1 with | .bl k => if k = true then g δ p.2 else some (.bl false, p.2) | _ => none := rfl
@[simp] theorem fOrV_eq (f g : FE) (δ : UE) (L : UH) : fOrV f g δ L = (f δ L).bind fun p => match p.1 with | .bl k => if k = true then some (.bl true, p.2) else g δ p.2 | _ => none := rfl
@[simp] theorem fNotV_eq (f : FE) (δ : UE) (L : UH) : fNotV f δ L = (f δ L).bind fun p => match p.1 with | .bl k => some (.bl (!k), p.2) | _ => none := rfl
@[simp] theorem fIf_eq (c : FT) (f g : FE) (δ : UE) (L : UH) : fIf c f g δ L = (c δ L).bind fun p => if p.1 = true then f δ p.2 else g δ p.2 := rfl
@[simp] theorem fNil_eq (δ : UE) (L : UH) : fNil δ L = some ([], L) := rfl
@[simp] theorem fCons_eq (f : FE) (g : FA) (δ : UE) (L : UH) : fCons f g δ L = (f δ L).bind fun p => (g δ p.2).map fun q => (p.1 :: q.1, q.2) := rfl
@[simp] theorem fTup_eq (g : FA) (δ : UE) (L : UH) : fTup g δ L = (g δ L).bind fun p => if small p.1.length = true then some (.tup p.1, p.2) else none := rfl
@[simp] theorem fLst_eq (g : FA) (δ : UE) (L : UH) : fLst g δ L = (g δ L).bind fun p => if small p.1.length = true then some (.ref p.2.length, p.2 ++ [.lst p.1]) else none := rfl
@[simp] theorem fCall_eq (s : SC) (g : FA) (δ : UE) (L : UH) : fCall s g δ L = (g δ L).bind fun p => s p.1 p.2 := rfl
@[simp] theorem fOwn_eq (n : Nat) (F : FN) (g : FA) (δ : UE) (L : UH) : fOwn n F g δ L = (g δ L).bind fun p => if p.1.length = n then F p.1 p.2 else none := rfl
@[simp] theorem fMeth_eq (T : String) (s : SM) (f : FE) (g : FA) (δ : UE) (L : UH) : fMeth T s f g δ L = (f δ L).bind fun p => if tyU T p.1 p.2 = true then (g δ p.2).bind fun q => s p.1 q.1 q.2 else none := rfl
@[simp] theorem fPart_eq (f : FE) (δ : UE) (L : UH) : fPart f δ L = (f δ L).bind fun p => match p.1 with | .int i => some (some i, p.2) | _ => none := rfl
@[simp] theorem fNoPart_eq (δ : UE) (L : UH) : fNoPart δ L = some (none, L) := rfl
@[simp] theorem fSl_eq (s : SS) (f : FE) (l h : FO) (δ : UE) (L : UH) : fSl s f l h δ L = (f δ L).bind fun p => (l δ p.2).bind fun q => (h δ q.2).bind fun r => s p.1 q.1 r.1 r.2 := rfl
@[simp] theorem fNeg_eq (f : FE) (δ : UE) (L : UH) : fNeg f δ L = (f δ L).bind fun p => match p.1 with | .int i => some (.int (-i), p.2) | _ => none := rfl
@[simp] theorem fTru_eq (f : FE) (δ : UE) (L : UH) : fTru f δ L = (f δ L).bind fun p => (truU p.1 p.2).map fun k => (k, p.2) := rfl
@[simp] theorem fIsi_eq (c : String) (f : FE) (δ : UE) (L : UH) : fIsi c f δ L = (f δ L).bind fun p => (tyName p.1 p.2).map fun t => (.bl (isT t c), p.2) := rfl
@[simp] theorem fNext_eq (δ : UE) (L : UH) : fNext δ L = some (.nx δ, L) := rfl
@[simp] theorem fSeq_eq (f g : FS) (δ : UE) (L : UH) : fSeq f g δ L = (f δ L).bind fun p => match p.1 with | .nx δ' => g δ' p.2 | fl => some (fl, p.2) := rfl
@[simp] theorem fRet_eq (f : FE) (δ : UE) (L : UH) : fRet f δ L = (f δ L).map fun p => (.rt p.1, p.2) := rfl
@[simp] theorem fDrop_eq (f : FE) (δ : UE) (L : UH) : fDrop f δ L = (f δ L).map fun p => (.nx δ, p.2) := rfl
@[simp] theorem fRetN_eq (δ : UE) (L : UH) : fRetN δ L = some (.rt .non, L) := rfl
@[simp] theorem fIfS_eq (c : FT) (f g : FS) (δ : UE) (L : UH) : fIfS c f g δ L = (c δ L).bind fun p => if p.1 = true then f δ p.2 else g δ p.2 := rfl
@[simp] theorem gN_eq (i : Nat) (u : U) (δ : UE) (L : UH) : gN i u δ L = some (δ.set i (some u), L) := rfl
@[simp] theorem gNil_eq (δ : UE) (L : UH) : MR.gNil [] δ L = some (δ, L) := rfl
@[simp] theorem gCons_eq (f : FG) (g : FGs) (u : U) (r : List U) (δ : UE) (L : UH) : MR.gCons f g (u :: r) δ L = (f u δ L).bind fun p => g r p.1 p.2 := rfl
@[simp] theorem gTup_eq (n : Nat) (g : FGs) (us : List U) (δ : UE) (L : UH) : MR.gTup n g (.tup us) δ L = if us.length = n then g us δ L else none := rfl
@[simp] theorem gSub_eq (a b : FE) (v : U) (δ : UE) (L : UH) : MR.gSub a b v δ L = (a δ L).bind fun p => (b δ p.2).bind fun q => match p.1, q.1 with
  | .ref n, .int k => (lstAt q.2 n).bind fun l => (ixN l.length k).map fun j => (δ, q.2.set n (.lst (l.set j v)))
  | _, _ => none := rfl
@[simp] theorem fAsg_eq (f : FE) (g : FG) (δ : UE) (L : UH) : fAsg f g δ L = (f δ L).bind fun p => (g p.1 δ p.2).map fun q => (.nx q.1, q.2) := rfl
@[simp] theorem fFor_eq (fi : FI) (g : FG) (b : FS) (δ : UE) (L : UH) : fFor fi g b δ L = (fi δ L).bind fun p => loopU p.1 g b (p.1.size p.2 + 1) 0 δ p.2 := rfl
@[simp] theorem fSeqI_eq (f : FE) (δ : UE) (L : UH) : fSeqI f δ L = (f δ L).bind fun p => (iSeqU p.1 p.2).map fun i => (i, p.2) := rfl
@[simp] theorem fRng1_eq (g : FA) (δ : UE) (L : UH) : fRng1 g δ L = (g δ L).bind fun p => match p.1 with
  | [.int j] => if -(2 ^ 62) ≤ j ∧ j < 2 ^ 62 then some (.seq (rangeU 0 j.toNat), p.2) else none
  | _ => none := rfl
@[simp] theorem semAdd_int (i j : Int) (L : UH) : semAdd (.int i) (.int j) L = some (.int (i + j), L) := rfl
@[simp] theorem semSub_int (i j : Int) (L : UH) : semSub (.int i) (.int j) L = some (.int (i - j), L) := rfl
@[simp] theorem semMul_int (i j : Int) (L : UH) : semMul (.int i) (.int j) L = if mulOk i j = true then some (.int (i * j), L) else none := rfl
@[simp] theorem semDiv_int (i j : Int) (L : UH) : semDiv (.int i) (.int j) L = if divOk i j = true then some (.int (i / j), L) else none := rfl
@[simp] theorem semMod_int (i j : Int) (L : UH) : semMod (.int i) (.int j) L = if decide (0 < j) = true then some (.int (i % j), L) else none := rfl
@[simp] theorem semPow_int (i j : Int) (L : UH) : semPow (.int i) (.int j) L = if powOk i j = true then some (.int (i ^ j.toNat), L) else none := rfl
@[simp] theorem semLe_int (i j : Int) (L : UH) : semLe (.int i) (.int j) L = some (.bl (decide (i ≤ j)), L) := rfl
@[simp] theorem semLt_int (i j : Int) (L : UH) : semLt (.int i) (.int j) L = some (.bl (decide (i < j)), L) := rfl
@[simp] theorem semGt_int (i j : Int) (L : UH) : semGt (.int i) (.int j) L = some (.bl (decide (j < i)), L) := rfl
@[simp] theorem semGe_int (i j : Int) (L : UH) : semGe (.int i) (.int j) L = some (.bl (decide (j ≤ i)), L) := rfl
@[simp] theorem semEq_int (i j : Int) (L : UH) : semEq (.int i) (.int j) L = some (.bl (i == j), L) := rfl
@[simp] theorem semNe_int (i j : Int) (L : UH) : semNe (.int i) (.int j) L = some (.bl (!(i == j)), L) := rfl
@[simp] theorem semEq_bl (i j : Bool) (L : UH) : semEq (.bl i) (.bl j) L = some (.bl (i == j), L) := rfl
@[simp] theorem semNe_bl (i j : Bool) (L : UH) : semNe (.bl i) (.bl j) L = some (.bl (!(i == j)), L) := rfl
@[simp] theorem semIs_bl (i j : Bool) (L : UH) : semIs false (.bl i) (.bl j) L = some (.bl (i == j), L) := rfl
@[simp] theorem semIx_tup (l : List U) (i : Int) (L : UH) : semIx (.tup l) (.int i) L = (L2.atI l i).map fun z => (z, L) := rfl
@[simp] theorem semIx_ref (n : Nat) (i : Int) (L : UH) : semIx (.ref n) (.int i) L = (seqAt L n).bind fun l => (L2.atI l i).map fun z => (z, L) := rfl
@[simp] theorem truU_bl (b : Bool) (L : UH) : truU (.bl b) L = some b := rfl
theorem seqAt_lst {L : UH} {n : Nat} {us : List U} (h : L[n]? = some (.lst us)) : seqAt L n = some us := by unfold seqAt; rw [h]
theorem lstAt_lst {L : UH} {n : Nat} {us : List U} (h : L[n]? = some (.lst us)) : lstAt L n = some us := by unfold lstAt; rw [h]
theorem small_of {n : Nat} (h : n ≤ 16777216) : small n = true := by unfold small sizeLine; exact decide_eq_true (by omega)
theorem atI_of {β : Type} {l : List β} {i : Int} (h0 : 0 ≤ i) (h : i < l.length) : L2.atI l i = l[i.toNat]? := by
  unfold L2.atI ixN
  rw [if_pos h0, if_pos h]; rfl
theorem divOk_of {i j : Int} (h1 : 0 < j) (h2 : j < 1152921504606846976) : divOk i j = true := by
  unfold divOk; simp only [Bool.and_eq_true, decide_eq_true_eq]; exact ⟨h1, h2⟩
end MR
set_option Elab.async false
set_option linter.all false
set_option maxRecDepth 100000
set_option maxHeartbeats 1000000
namespace MR
open PySem L2
noncomputable def GoesOn (g : FG) (body : FS) (u : U) (δ : UE) (L : UH) (R : UE → UH → Prop) : Prop := ∃ δ1 L1, g u δ L = some (δ1, L1) ∧ ∃ δ2 L2, (body δ1 L1 = some (.nx δ2, L2) ∨ body δ1 L1 = some (.ct δ2, L2)) ∧ R δ2 L2
theorem loop_any {it : IU} {g : FG} {body : FS} {us : List U} (P : Nat → UE → UH → Prop) (hat : ∀ k δ L, k ≤ us.length → P k δ L → it.at k L = some us[k]?)
    (step : ∀ k u δ L, us[k]? = some u → P k δ L → GoesOn g body u δ L (P (k + 1))) :
    ∀ (m k : Nat) (δ : UE) (L : UH), us.length < m + k → k ≤ us.length → P k δ L → ∃ δ' L', loopU it g body m k δ L = some (.nx δ', L') ∧ P us.length δ' L'
  | 0, k, δ, L, h1, h2, _ => by omega
  | m + 1, k, δ, L, h1, h2, hP => by
    have hk := hat k δ L h2 hP
    unfold loopU
    rw [hk]
    cases hu : us[k]? with
    | none =>
      have : k = us.length := by have := List.getElem?_eq_none_iff.mp hu; omega
      subst this
      exact ⟨δ, L, rfl, hP⟩
    | some u =>
      have hlt : k < us.length := (List.getElem?_eq_some_iff.mp hu).1
      obtain ⟨δ1, L1, e1, δ2, L2, e2, hP2⟩ := step k u δ L hu hP
      obtain ⟨δ', L', e3, hP3⟩ := loop_any P hat step m (k + 1) δ2 L2 (by omega) (by omega) hP2
      refine ⟨δ', L', ?_, hP3⟩
      rcases e2 with e2 | e2
      · simp only [e1, Option.bind_some, e2, e3]
      · simp only [e1, Option.bind_some, e2, e3]
theorem for_seq {fi : FI} {g : FG} {body : FS} {us : List U} {δ : UE} {L L0 : UH} (P : Nat → UE → UH → Prop) (hi : fi δ L = some (.seq us, L0)) (h0 : P 0 δ L0) (step : ∀ k u δ L, us[k]? = some u → P k δ L → GoesOn g body u δ L (P (k + 1))) :
    ∃ δ' L', fFor fi g body δ L = some (.nx δ', L') ∧ P us.length δ' L' := by
  obtain ⟨δ', L', e, h⟩ := loop_any (it := .seq us) (g := g) (body := body) (us := us) P (fun _ _ _ _ _ => rfl) step (us.length + 1) 0 δ L0 (by omega) (by omega) h0
  exact ⟨δ', L', by rw [fFor_eq, hi]; exact e, h⟩
theorem for_ref {fi : FI} {g : FG} {body : FS} {us : List U} {n : Nat} {δ : UE} {L L0 : UH} (P : Nat → UE → UH → Prop) (hi : fi δ L = some (.ref n, L0)) (h0 : P 0 δ L0) (hl : ∀ k δ L, P k δ L → seqAt L n = some us) (step : ∀ k u δ L, us[k]? = some u → P k δ L → GoesOn g body u δ L (P (k + 1))) :
    ∃ δ' L', fFor fi g body δ L = some (.nx δ', L') ∧ P us.length δ' L' := by
  have hat : ∀ k δ L, k ≤ us.length → P k δ L → (IU.ref n).at k L = some us[k]? := fun k δ L _ hp => by
    have := hl k δ L hp
    unfold seqAt at this
    unfold IU.at
    simp only
    split at this
    · rename_i e; cases this; first | rw [e] | rfl
    · rename_i e; cases this; first | rw [e] | rfl
    · cases this
  have hsz : (IU.ref n).size L0 = us.length := by
    have := hl 0 δ L0 h0
    unfold seqAt at this
    unfold IU.size
    simp only
    split at this
    · rename_i e; cases this; first | rw [e] | rfl
    · rename_i e; cases this; first | rw [e] | rfl
    · cases this
  obtain ⟨δ', L', e, h⟩ := loop_any (it := .ref n) (g := g) (body := body) (us := us) P hat step (us.length + 1) 0 δ L0 (by omega) (by omega) h0
  exact ⟨δ', L', by rw [fFor_eq, hi]; simp only [Option.bind_some, hsz]; exact e, h⟩
theorem iSeqU_ref {L : UH} {n : Nat} {us : List U} (h : seqAt L n = some us) : iSeqU (.ref n) L = some (.ref n) := by
  unfold seqAt at h
  unfold iSeqU
  simp only
  split at h
  · rename_i e; first | rw [e] | rfl
  · rename_i e; first | rw [e] | rfl
  · cases h
end MR
set_option Elab.async false
set_option linter.all false
set_option maxRecDepth 100000
set_option maxHeartbeats 1000000
namespace MR
open PySem L2
@[simp] theorem fEnum_eq (g : FA) (δ : UE) (L : UH) : fEnum g δ L = (g δ L).bind fun p => match p.1 with
  | [.ref n] => (seqAt p.2 n).map fun _ => (.enm n, p.2)
  | _ => none := rfl
@[simp] theorem fZip_eq (g : FA) (δ : UE) (L : UH) : fZip g δ L = (g δ L).bind fun p => match p.1 with
  | [.ref n, .ref m] => (seqAt p.2 n).bind fun _ => (seqAt p.2 m).map fun _ => (.zip2 n m, p.2)
  | _ => none := rfl
@[simp] theorem fRev_eq (f : FE) (δ : UE) (L : UH) : fRev f δ L = (f δ L).bind fun p => match p.1 with | .ref n => (seqAt p.2 n).map fun l => (.ref p.2.length, p.2 ++ [.lst l.reverse]) | .tup l => some (.tup l.reverse, p.2) | _ => none := rfl
@[simp] theorem fRng2_eq (g : FA) (δ : UE) (L : UH) : fRng2 g δ L = (g δ L).bind fun p => match p.1 with
  | [.int i, .int j] => if (-(2 ^ 62) ≤ i ∧ i < 2 ^ 62) ∧ (-(2 ^ 62) ≤ j ∧ j < 2 ^ 62) then some (.seq (rangeU i (j - i).toNat), p.2) else none
  | _ => none := by first | rfl | (unfold fRng2; rfl)
theorem comp_any {it : IU} {g : FG} {tt : Option FT} {fe : FE} {us : List U} (P : Nat → List U → UE → UH → Prop) (hat : ∀ k acc δ L, k ≤ us.length → P k acc δ L → it.at k L = some us[k]?)
    (step : ∀ k u acc δ L, us[k]? = some u → P k acc δ L → ∃ δ1 L1, g u δ L = some (δ1, L1) ∧ ∃ b L2, testU tt δ1 L1 = some (b, L2) ∧ (b = true → ∃ r L3, fe δ1 L2 = some (r, L3) ∧ acc.length < 16777216 ∧ P (k + 1) (acc ++ [r]) δ1 L3) ∧ (b = false → P (k + 1) acc δ1 L2)) :
    ∀ (m k : Nat) (acc : List U) (δ : UE) (L : UH), us.length < m + k → k ≤ us.length → P k acc δ L → ∃ ys δ' L', compU it g tt fe m k acc δ L = some (ys, L') ∧ P us.length ys δ' L'
  | 0, k, acc, δ, L, h1, h2, _ => by omega
  | m + 1, k, acc, δ, L, h1, h2, hP => by
    have hk := hat k acc δ L h2 hP
    unfold compU
    rw [hk]
    cases hu : us[k]? with
    | none =>
      have : k = us.length := by have := List.getElem?_eq_none_iff.mp hu; omega
      subst this
      exact ⟨acc, δ, L, rfl, hP⟩
    | some u =>
      have hlt : k < us.length := (List.getElem?_eq_some_iff.mp hu).1
      obtain ⟨δ1, L1, e1, b, L2, e2, h3, h4⟩ := step k u acc δ L hu hP
      cases b with
      | true =>
        obtain ⟨r, L3, e3, hl, hP2⟩ := h3 rfl
        obtain ⟨ys, δ', L', e4, hP3⟩ := comp_any P hat step m (k + 1) (acc ++ [r]) δ1 L3 (by omega) (by omega) hP2
        refine ⟨ys, δ', L', ?_, hP3⟩
        have hz : decide (acc.length < sizeLine) = true := decide_eq_true (by unfold sizeLine; omega)
        simp only [e1, Option.bind_some, e2, e3, if_true, hz, e4]
      | false =>
        obtain ⟨ys, δ', L', e4, hP3⟩ := comp_any P hat step m (k + 1) acc δ1 L2 (by omega) (by omega) (h4 rfl)
        refine ⟨ys, δ', L', ?_, hP3⟩
        simp only [e1, Option.bind_some, e2, e4, Bool.false_eq_true, if_false]
theorem fcomp {ix : List (Option Nat)} {fi : FI} {it : IU} {g : FG} {tt : Option FT} {fe : FE} {us : List U} {δ : UE} {L L0 : UH} (P : Nat → List U → UE → UH → Prop) (hi : fi δ L = some (it, L0)) (hsz : us.length ≤ it.size L0) (h0 : P 0 [] (innerU ix δ) L0)
    (hat : ∀ k acc δ L, k ≤ us.length → P k acc δ L → it.at k L = some us[k]?)
    (step : ∀ k u acc δ L, us[k]? = some u → P k acc δ L → ∃ δ1 L1, g u δ L = some (δ1, L1) ∧ ∃ b L2, testU tt δ1 L1 = some (b, L2) ∧ (b = true → ∃ r L3, fe δ1 L2 = some (r, L3) ∧ acc.length < 16777216 ∧ P (k + 1) (acc ++ [r]) δ1 L3) ∧ (b = false → P (k + 1) acc δ1 L2)) :
    ∃ ys δ' L', fComp ix fi g tt fe δ L = some (.ref L'.length, L' ++ [.lst ys]) ∧ P us.length ys δ' L' := by
  obtain ⟨ys, δ', L', e, h⟩ := comp_any P hat step (it.size L0 + 1) 0 [] (innerU ix δ) L0 (by omega) (by omega) h0
  refine ⟨ys, δ', L', ?_, h⟩
  unfold fComp
  simp only [hi, Option.bind_some, e, Option.map_some]
theorem at_ref {n k : Nat} {L : UH} {us : List U} (h : seqAt L n = some us) : (IU.ref n).at k L = some us[k]? := by
  unfold seqAt at h
  unfold IU.at
  simp only
  split at h
  · rename_i e; cases h; first | rw [e] | rfl
  · rename_i e; cases h; first | rw [e] | rfl
  · cases h
theorem size_ref {n : Nat} {L : UH} {us : List U} (h : seqAt L n = some us) : (IU.ref n).size L = us.length := by
  unfold seqAt at h
  unfold IU.size
  simp only
  split at h
  · rename_i e; cases h; first | rw [e] | rfl
  · rename_i e; cases h; first | rw [e] | rfl
  · cases h
noncomputable def enU (us : List U) : List U := us.mapIdx fun k u => .tup [.int k, u]
theorem at_enm {n k : Nat} {L : UH} {us : List U} (h : seqAt L n = some us) : (IU.enm n).at k L = some (enU us)[k]? := by
  show (seqAt L n).map _ = _
  rw [h]
  simp [enU]
theorem size_enm {n : Nat} {L : UH} {us : List U} (h : seqAt L n = some us) : (IU.enm n).size L = (enU us).length := by
  show (match seqAt L n with | some us => us.length | none => 0) = _
  rw [h]; simp [enU]
theorem comp_grow {β : Type} {ix : List (Option Nat)} {fi : FI} {it : IU} {g : FG} {tt : Option FT} {fe : FE} {δ : UE} {L L0 : UH} (as : List β) (rep : β → U) (f : β → Bool) (e : β → U) (E : UE → Prop) (hi : fi δ L = some (it, L0)) (hsz : as.length ≤ it.size L0) (hl : as.length < 16777216) (h0 : E (innerU ix δ))
    (hat : ∀ k x, it.at k (L0 ++ x) = some (as.map rep)[k]?)
    (step : ∀ (a : β) δ x, a ∈ as → E δ → ∃ δ1, g (rep a) δ (L0 ++ x) = some (δ1, L0 ++ x) ∧ E δ1 ∧ ∃ y, testU tt δ1 (L0 ++ x) = some (f a, L0 ++ x ++ y) ∧ (f a = true → ∃ z, fe δ1 (L0 ++ x ++ y) = some (e a, L0 ++ x ++ y ++ z))) :
    ∃ x, fComp ix fi g tt fe δ L = some (.ref (L0 ++ x).length, L0 ++ x ++ [.lst ((as.filter f).map e)]) := by
  obtain ⟨ys, δ', L', e1, ⟨h1, h2, x, rfl⟩, h3⟩ := fcomp (us := as.map rep) (ix := ix) (tt := tt) (g := g) (fe := fe) (δ := δ) (fun k acc δ L => (acc = ((as.take k).filter f).map e ∧ E δ ∧ ∃ x, L = L0 ++ x) ∧ acc.length ≤ k) hi (by simpa using hsz) ⟨⟨rfl, h0, [], by simp⟩, by simp⟩
    (fun k acc δ L _ ⟨⟨_, _, x, hx⟩, _⟩ => by rw [hx]; exact hat k x)
    (fun k u acc δ L hu ⟨⟨ha, hE, x, hx⟩, hlen⟩ => by
      subst hx
      rw [List.getElem?_map] at hu
      obtain ⟨a, hk, rfl⟩ := Option.map_eq_some_iff.mp hu
      have hk' := (List.getElem?_eq_some_iff.mp hk).1
      obtain ⟨δ1, g1, E1, y, t1, r1⟩ := step a δ x (List.mem_of_getElem? hk) hE
      have ht : as.take (k + 1) = as.take k ++ [a] := by
        rw [List.take_add_one, hk]; rfl
      refine ⟨δ1, _, g1, f a, _, t1, fun hf => ?_, fun hf => ?_⟩
      · obtain ⟨z, q⟩ := r1 hf
        refine ⟨_, _, q, by omega, ⟨?_, E1, x ++ y ++ z, by simp⟩, by simp; omega⟩
        rw [ha, ht]; simp [hf]
      · refine ⟨⟨?_, E1, x ++ y, by simp⟩, by omega⟩
        rw [ha, ht]; simp [hf])
  refine ⟨x, ?_⟩
  rw [e1, h1]
  simp
theorem seqAt_app {L x : UH} {n : Nat} {us : List U} (h : seqAt L n = some us) : seqAt (L ++ x) n = some us := by
  unfold seqAt at h ⊢
  cases hn : L[n]? with
  | none => rw [hn] at h; cases h
  | some o => rw [List.getElem?_append_left (List.getElem?_eq_some_iff.mp hn).1, hn]; rw [hn] at h; exact h
end MR
set_option Elab.async false
set_option linter.all false
set_option maxRecDepth 100000
set_option maxHeartbeats 1000000
namespace MR
open PySem L2
noncomputable def Pl : Nat → U → Prop
  | _, .non => True
  | _, .int _ => True
  | _, .str x => PyData.strOk x = true
  | n + 1, .tup l => ∀ u ∈ l, Pl n u
  | _, _ => False
mutual
noncomputable def pd : U → PyData
  | .non => .none
  | .bl b => .bool b
  | .int i => .int i
  | .str x => .str x
  | .tup l => .tuple (pds l)
  | .ref _ => .none
noncomputable def pds : List U → List PyData
  | [] => []
  | u :: r => pd u :: pds r
end
theorem pl_tup {n : Nat} {l : List U} : Pl (n + 1) (.tup l) ↔ ∀ u ∈ l, Pl n u := by rw [Pl]
theorem toP_pls {L : UH} {n m : Nat} (ih : ∀ u, Pl n u → toP L m u = some (pd u)) : ∀ l : List U, (∀ u ∈ l, Pl n u) → mapO (toP L m) l = some (pds l)
  | [], _ => rfl
  | u :: r, h => by
    simp only [mapO, ih u (h u (List.mem_cons_self ..)), toP_pls ih r (fun x hx => h x (List.mem_cons_of_mem _ hx)), Option.bind_some, Option.map_some, pds]
theorem toP_pl (L : UH) : ∀ (n m : Nat) (u : U), n < m → Pl n u → toP L m u = some (pd u)
  | n, 0, u, h, _ => by omega
  | n, m + 1, .non, _, _ => rfl
  | n, m + 1, .int _, _, _ => rfl
  | n, m + 1, .str _, _, _ => rfl
  | n, m + 1, .bl _, _, h => by cases n <;> exact absurd h (by simp [Pl])
  | n, m + 1, .ref _, _, h => by cases n <;> exact absurd h (by simp [Pl])
  | 0, m + 1, .tup l, _, h => absurd h (by simp [Pl])
  | n + 1, m + 1, .tup l, hm, h => by
    have := toP_pls (L := L) (n := n) (m := m) (fun u hu => toP_pl L n m u (by omega) hu) l (pl_tup.mp h)
    show (mapO (toP L m) l).map PyData.tuple = _
    rw [this]
    rfl
theorem pds_lay {n : Nat} (ih : ∀ u, Pl n u → PyData.canLay0 (pd u) = true ∧ PyData.depth (pd u) ≤ n) : ∀ l : List U, (∀ u ∈ l, Pl n u) → PyData.canLayAll0 (pds l) = true ∧ PyData.depthAll (pds l) ≤ n
  | [], _ => ⟨rfl, Nat.zero_le _⟩
  | u :: r, h => by
    obtain ⟨a1, a2⟩ := ih u (h u (List.mem_cons_self ..))
    obtain ⟨b1, b2⟩ := pds_lay ih r (fun x hx => h x (List.mem_cons_of_mem _ hx))
    refine ⟨by simp [pds, PyData.canLayAll0, a1, b1], ?_⟩
    simp only [pds, PyData.depthAll]
    omega
theorem pd_lay : ∀ (n : Nat) (u : U), Pl n u → PyData.canLay0 (pd u) = true ∧ PyData.depth (pd u) ≤ n
  | n, .non, _ => by simp [pd, PyData.canLay0, PyData.depth]
  | n, .int _, _ => by simp [pd, PyData.canLay0, PyData.depth]
  | n, .str x, h => by
    have h' : PyData.strOk x = true := by cases n <;> simpa [Pl] using h
    simp [pd, PyData.canLay0, PyData.depth, h']
  | n, .bl _, h => by cases n <;> exact absurd h (by simp [Pl])
  | n, .ref _, h => by cases n <;> exact absurd h (by simp [Pl])
  | 0, .tup l, h => absurd h (by simp [Pl])
  | n + 1, .tup l, h => by
    obtain ⟨a, b⟩ := pds_lay (fun u hu => pd_lay n u hu) l (pl_tup.mp h)
    simp only [pd, PyData.canLay0, PyData.depth]
    exact ⟨a, by omega⟩
theorem eqvAll_iff {n : Nat} (ih : ∀ u w, Pl n u → Pl n w → (PyData.eqv (pd u) (pd w) = true ↔ u = w)) : ∀ l m : List U, (∀ u ∈ l, Pl n u) → (∀ u ∈ m, Pl n u) → (PyData.eqvAll (pds l) (pds m) = true ↔ l = m)
  | [], [], _, _ => by simp [pds, PyData.eqvAll]
  | [], _ :: _, _, _ => by simp [pds, PyData.eqvAll]
  | _ :: _, [], _, _ => by simp [pds, PyData.eqvAll]
  | u :: l, w :: m, h1, h2 => by
    simp only [pds, PyData.eqvAll, Bool.and_eq_true, ih u w (h1 u (List.mem_cons_self ..)) (h2 w (List.mem_cons_self ..)), eqvAll_iff ih l m (fun x hx => h1 x (List.mem_cons_of_mem _ hx)) (fun x hx => h2 x (List.mem_cons_of_mem _ hx)), List.cons.injEq]
theorem eqv_iff : ∀ (n : Nat) (u w : U), Pl n u → Pl n w → (PyData.eqv (pd u) (pd w) = true ↔ u = w)
  | n, .bl _, _, h, _ => by cases n <;> exact absurd h (by simp [Pl])
  | n, .ref _, _, h, _ => by cases n <;> exact absurd h (by simp [Pl])
  | n, _, .bl _, _, h => by cases n <;> exact absurd h (by simp [Pl])
  | n, _, .ref _, _, h => by cases n <;> exact absurd h (by simp [Pl])
  | 0, .tup _, _, h, _ => absurd h (by simp [Pl])
  | 0, _, .tup _, _, h => absurd h (by simp [Pl])
  | n + 1, .tup l, .tup m, h1, h2 => by
    simp only [pd, PyData.eqv, U.tup.injEq]
    exact eqvAll_iff (fun u w => eqv_iff n u w) l m (pl_tup.mp h1) (pl_tup.mp h2)
  | n, .non, .non, _, _ => by simp [pd, PyData.eqv]
  | n, .non, .int _, _, _ => by simp [pd, PyData.eqv]
  | n, .non, .str _, _, _ => by simp [pd, PyData.eqv]
  | n + 1, .non, .tup _, _, _ => by simp [pd, PyData.eqv]
  | n, .int _, .non, _, _ => by simp [pd, PyData.eqv]
  | n, .int _, .int _, _, _ => by simp [pd, PyData.eqv]
  | n, .int _, .str _, _, _ => by simp [pd, PyData.eqv]
  | n + 1, .int _, .tup _, _, _ => by simp [pd, PyData.eqv]
  | n, .str _, .non, _, _ => by simp [pd, PyData.eqv]
  | n, .str _, .int _, _, _ => by simp [pd, PyData.eqv]
  | n, .str _, .str _, _, _ => by simp [pd, PyData.eqv]
  | n + 1, .str _, .tup _, _, _ => by simp [pd, PyData.eqv]
  | n + 1, .tup _, .non, _, _ => by simp [pd, PyData.eqv]
  | n + 1, .tup _, .int _, _, _ => by simp [pd, PyData.eqv]
  | n + 1, .tup _, .str _, _, _ => by simp [pd, PyData.eqv]
noncomputable def eqB (u w : U) : Bool := PyData.eqv (pd u) (pd w)
theorem eqB_iff {u w : U} (h1 : Pl 6 u) (h2 : Pl 6 w) : eqB u w = true ↔ u = w := eqv_iff 6 u w h1 h2
theorem eqB_self {u : U} (h1 : Pl 6 u) : eqB u u = true := (eqB_iff h1 h1).mpr rfl
theorem eqP_pl {u w : U} (L : UH) (h1 : Pl 6 u) (h2 : Pl 6 w) : eqP u w L = some (eqB u w) := by
  obtain ⟨a1, a2⟩ := pd_lay 6 u h1
  obtain ⟨b1, b2⟩ := pd_lay 6 w h2
  have s1 : SeqAt.shaped (pd u) = true := by unfold SeqAt.shaped; rw [a1]; simp; omega
  have s2 : SeqAt.shaped (pd w) = true := by unfold SeqAt.shaped; rw [b1]; simp; omega
  unfold eqP
  simp only [toP_pl L 6 8 u (by decide) h1, toP_pl L 6 8 w (by decide) h2, Option.bind_some, s1, s2, and_self, if_true, eqB]
theorem semEq_pl {u w : U} (L : UH) (h1 : Pl 6 u) (h2 : Pl 6 w) : semEq u w L = some (.bl (eqB u w), L) := by unfold semEq; rw [eqP_pl L h1 h2]; rfl
theorem semNe_pl {u w : U} (L : UH) (h1 : Pl 6 u) (h2 : Pl 6 w) : semNe u w L = some (.bl (!eqB u w), L) := by unfold semNe; rw [eqP_pl L h1 h2]; rfl
theorem Pl.int (n : Nat) (i : Int) : Pl n (.int i) := by cases n <;> exact trivial
theorem rng1_ok {g : FA} {δ : UE} {L L' : UH} {j : Int} (hg : g δ L = some ([.int j], L')) (h0 : 0 ≤ j) (h1 : j < 1000000) : fRng1 g δ L = some (.seq (rangeU 0 j.toNat), L') := by
  rw [fRng1_eq, hg]
  simp only [Option.bind_some]
  rw [if_pos ⟨by omega, by omega⟩]
theorem rng1_nat {g : FA} {δ : UE} {L L' : UH} {n : Nat} (hg : g δ L = some ([.int n], L')) (h1 : n < 1000000) : fRng1 g δ L = some (.seq (rangeU 0 n), L') := by
  have := rng1_ok hg (by omega) (by omega)
  rwa [Int.toNat_natCast] at this
end MR
set_option Elab.async false
set_option linter.all false
set_option maxRecDepth 100000
set_option maxHeartbeats 1000000
namespace Lw
open PySem L2 MR
end Lw
set_option Elab.async false
set_option linter.all false
set_option maxRecDepth 100000
set_option maxHeartbeats 1000000
namespace MR
open PySem PyProof.Rows L2
end MR
set_option Elab.async false
set_option linter.all false
set_option maxRecDepth 100000
set_option maxHeartbeats 1000000
namespace Lw
open PySem L2 MR
theorem str_ext {a b : Str} (h : a.cps.toList = b.cps.toList) : a = b := by
  cases a; cases b
  simp only [Str.mk.injEq]
  exact Array.toList_inj.mp h
theorem app_cps (a b : Str) : (a ++ b).cps.toList = a.cps.toList ++ b.cps.toList := by
  show (a.cps ++ b.cps).toList = _
  simp
theorem join_cons (c : Nat) (a b : Str) (r : List Str) : (Str.join ⟨#[c]⟩ (a :: b :: r)).cps.toList = a.cps.toList ++ c :: (Str.join ⟨#[c]⟩ (b :: r)).cps.toList := by
  show (a ++ ⟨#[c]⟩ ++ Str.join ⟨#[c]⟩ (b :: r)).cps.toList = _
  rw [app_cps, app_cps]
  simp
theorem cut_at {c : Nat} : ∀ {a a' r r' : List Nat}, c ∉ a → c ∉ a' → a ++ c :: r = a' ++ c :: r' → a = a' ∧ r = r'
  | [], [], r, r', _, _, h => by simp at h; exact ⟨rfl, h⟩
  | [], x :: a', r, r', _, h2, h => by
    simp at h
    exact absurd (by rw [← h.1]; exact List.mem_cons_self ..) h2
  | x :: a, [], r, r', h1, _, h => by
    simp at h
    exact absurd (by rw [h.1]; exact List.mem_cons_self ..) h1
  | x :: a, y :: a', r, r', h1, h2, h => by
    simp only [List.cons_append, List.cons.injEq] at h
    obtain ⟨e1, e2⟩ := cut_at (fun q => h1 (List.mem_cons_of_mem _ q)) (fun q => h2 (List.mem_cons_of_mem _ q)) h.2
    exact ⟨by rw [h.1, e1], e2⟩
theorem join_inj (c : Nat) : ∀ (l l' : List Str), l ≠ [] → l' ≠ [] → (∀ p ∈ l, c ∉ p.cps.toList) → (∀ p ∈ l', c ∉ p.cps.toList) → (Str.join ⟨#[c]⟩ l).cps.toList = (Str.join ⟨#[c]⟩ l').cps.toList → l = l'
  | [], _, h, _, _, _, _ => absurd rfl h
  | _, [], _, h, _, _, _ => absurd rfl h
  | [a], [b], _, _, _, _, h => by
    have : a = b := str_ext h
    rw [this]
  | [a], b :: b' :: r, _, _, h1, _, h => by
    rw [join_cons] at h
    have h' : a.cps.toList = b.cps.toList ++ c :: (Str.join ⟨#[c]⟩ (b' :: r)).cps.toList := h
    exact absurd (by rw [h']; simp) (h1 a (List.mem_cons_self ..))
  | a :: a' :: r, [b], _, _, _, h2, h => by
    rw [join_cons] at h
    have h' : a.cps.toList ++ c :: (Str.join ⟨#[c]⟩ (a' :: r)).cps.toList = b.cps.toList := h
    exact absurd (by rw [← h']; simp) (h2 b (List.mem_cons_self ..))
  | a :: a' :: r, b :: b' :: r', _, _, h1, h2, h => by
    rw [join_cons, join_cons] at h
    obtain ⟨e1, e2⟩ := cut_at (h1 a (List.mem_cons_self ..)) (h2 b (List.mem_cons_self ..)) h
    have ih := join_inj c (a' :: r) (b' :: r') (by simp) (by simp) (fun p hp => h1 p (List.mem_cons_of_mem _ hp)) (fun p hp => h2 p (List.mem_cons_of_mem _ hp)) e2
    rw [str_ext e1, ih]
theorem split_ne (x y : Str) : Txt.split x y ≠ [] := by
  unfold Txt.split
  split
  · simp
  · split
    · simp
    · rw [StrLaws.partsBetween_eq]
      obtain ⟨p, r, e⟩ := StrLaws.partsFrom_ne x y.length 0 (Builtin.Str.occurrences x y 0 x.length (x.length + 1))
      rw [e]; simp
theorem split_join {c : Nat} {l : List Str} (hne : l ≠ []) (hf : ∀ p ∈ l, c ∉ p.cps.toList) : Txt.split (Str.join ⟨#[c]⟩ l) ⟨#[c]⟩ = l :=
  join_inj c _ l (split_ne _ _) hne (fun p hp => StrLaws.split_free _ c p hp) hf (by rw [StrLaws.join_split])
noncomputable def dig (n : Nat) : List Nat := if h : n < 10 then [48 + n] else dig (n / 10) ++ [48 + n % 10]
termination_by n
decreasing_by omega
theorem dig_lt {n : Nat} (h : n < 10) : dig n = [48 + n] := by rw [dig, dif_pos h]
theorem dig_ge {n : Nat} (h : ¬ n < 10) : dig n = dig (n / 10) ++ [48 + n % 10] := by rw [dig, dif_neg h]
theorem dig_facts : ∀ n : Nat, NumText.AllDigits (dig n) ∧ dig n ≠ [] ∧ NumText.digitsVal (dig n) = n ∧ (n ≠ 0 → ∃ c r, dig n = c :: r ∧ c ≠ 48) := by
  intro n
  induction n using Nat.strongRecOn with
  | _ n ih =>
    by_cases h : n < 10
    · rw [dig_lt h]
      refine ⟨fun c hc => ?_, by simp, ?_, fun h0 => ⟨48 + n, [], rfl, by omega⟩⟩
      · have : c = 48 + n := by simpa using hc
        omega
      · show 0 * 10 + (48 + n - 48) = n
        omega
    · obtain ⟨h1, h2, h3, h4⟩ := ih (n / 10) (by omega)
      rw [dig_ge h]
      refine ⟨fun c hc => ?_, by simp, ?_, fun _ => ?_⟩
      · rcases List.mem_append.mp hc with q | q
        · exact h1 c q
        · have : c = 48 + n % 10 := by simpa using q
          omega
      · rw [NumText.digitsVal_snoc, h3]; omega
      · obtain ⟨c, r, e, hc⟩ := h4 (by omega)
        exact ⟨c, r ++ [48 + n % 10], by rw [e]; rfl, hc⟩
theorem dig_len : ∀ (k n : Nat), n < 10 ^ (k + 1) → (dig n).length ≤ k + 1
  | 0, n, h => by rw [dig_lt (by simpa using h)]; simp
  | k + 1, n, h => by
    by_cases hn : n < 10
    · rw [dig_lt hn]; simp
    · rw [dig_ge hn, List.length_append]
      have := dig_len k (n / 10) (by
        rw [Nat.pow_succ] at h
        exact Nat.div_lt_of_lt_mul (by rw [Nat.mul_comm]; exact h))
      simp; omega
noncomputable def fig (n : Int) : Str := ⟨((if n < 0 then [45] else []) ++ dig n.natAbs).toArray⟩
theorem fig_cps (n : Int) : (fig n).cps.toList = (if n < 0 then [45] else []) ++ dig n.natAbs := by unfold fig; simp
theorem fig_len {n : Int} (h : -9999999999 ≤ n ∧ n ≤ 9999999999) : (fig n).length ≤ 11 := by
  have e : (fig n).length = (fig n).cps.toList.length := by simp [Str.length]
  rw [e, fig_cps, List.length_append]
  have := dig_len 9 n.natAbs (by omega)
  split <;> simp <;> omega
theorem fig_int {n : Int} (h : -9999999999 ≤ n ∧ n ≤ 9999999999) : PySem.intText? (fig n) = some n := by
  have hl := fig_len h
  have en : n < 0 → -((n.natAbs : Nat) : Int) = n := fun q => by omega
  have ep : ¬ n < 0 → ((n.natAbs : Nat) : Int) = n := fun q => by omega
  obtain ⟨h1, h2, h3, _⟩ := dig_facts n.natAbs
  by_cases h0 : n < 0
  · have hx : (fig n).cps.toList = 45 :: dig n.natAbs := by rw [fig_cps, if_pos h0]; rfl
    rw [PySem.intText_neg hx h1 h2 (by omega), h3, en h0]
  · have hx : (fig n).cps.toList = dig n.natAbs := by rw [fig_cps, if_neg h0]; rfl
    rw [PySem.intText_digits (by rw [hx]; exact h1) (by rw [hx]; exact h2) (by omega), hx, h3, ep h0]
theorem fig_free {n : Int} {c : Nat} (hc : c < 45) : c ∉ (fig n).cps.toList := fun h => by
  rw [fig_cps] at h
  rcases List.mem_append.mp h with q | q
  · split at q
    · have : c = 45 := by simpa using q
      omega
    · simp at q
  · have := (dig_facts n.natAbs).1 c q
    omega
end Lw
set_option Elab.async false
set_option linter.all false
set_option maxRecDepth 100000
set_option maxHeartbeats 1000000
namespace Lw
open PySem L2 MR
noncomputable def b_l_deck : FS := (fRet (fLst (fCons (fSl semSl (fVar 0) fNoPart (fPart (fC (.int 63)))) (fCons (fC (.int 0)) (fCons (fC (.int 0)) (fCons (fC (.int 0)) (fCons (fCall semSum (fCons (fSl semSl (fVar 0) fNoPart (fPart (fC (.int 63)))) fNil)) fNil)))))))
noncomputable def m_l_deck : FN := fnU 1 1 b_l_deck
structure Ex (d : Nat) (L L' : UH) : Prop where
  le : L.length ≤ L'.length
  at_ : ∀ i, i < L.length → i ≠ d → L'[i]? = L[i]?
theorem Ex.refl (d : Nat) (L : UH) : Ex d L L := ⟨Nat.le_refl _, fun _ _ _ => rfl⟩
theorem Ex.trans {d : Nat} {L L1 L2 : UH} (a : Ex d L L1) (b : Ex d L1 L2) : Ex d L L2 :=
  ⟨Nat.le_trans a.le b.le, fun i h1 h2 => by rw [b.at_ i (Nat.lt_of_lt_of_le h1 a.le) h2, a.at_ i h1 h2]⟩
theorem Ex.new (d : Nat) (L : UH) (x : List HU) : Ex d L (L ++ x) := ⟨by simp, fun i h _ => by rw [List.getElem?_append_left h]⟩
theorem Ex.put (d : Nat) (L : UH) (o : HU) : Ex d L (L.set d o) := ⟨by simp, fun i _ h => by rw [List.getElem?_set_ne (Ne.symm h)]⟩
structure Deck (L : UH) (d : Nat) (B : Int) : Prop where
  ex : ∃ (sn : Nat) (cells : List Int) (a b c e : Int), L[d]? = some (.lst [.ref sn, .int a, .int b, .int c, .int e]) ∧ L[sn]? = some (.lst (cells.map U.int)) ∧ sn < d ∧ cells.length ≤ 63 ∧ 0 ≤ a ∧ a ≤ cells.length ∧ 0 ≤ b ∧ 0 ≤ c ∧ c ≤ B
theorem Deck.lt {L : UH} {d : Nat} {B : Int} (h : Deck L d B) : d < L.length := by
  obtain ⟨sn, cells, a, b, c, e, h1, _⟩ := h.ex
  exact (List.getElem?_eq_some_iff.mp h1).1
theorem Deck.mono {L : UH} {d : Nat} {B B' : Int} (h : Deck L d B) (hb : B ≤ B') : Deck L d B' := by
  obtain ⟨sn, cells, a, b, c, e, h1, h2, h3, h4, h5, h6, h7, h8, h9⟩ := h.ex
  exact ⟨sn, cells, a, b, c, e, h1, h2, h3, h4, h5, h6, h7, h8, by omega⟩
theorem Deck.new {L : UH} {d : Nat} {B : Int} (h : Deck L d B) (x : List HU) : Deck (L ++ x) d B := by
  obtain ⟨sn, cells, a, b, c, e, h1, h2, h3⟩ := h.ex
  exact ⟨sn, cells, a, b, c, e, by rw [List.getElem?_append_left (List.getElem?_eq_some_iff.mp h1).1]; exact h1, by rw [List.getElem?_append_left (List.getElem?_eq_some_iff.mp h2).1]; exact h2, h3⟩
theorem Deck.set {L : UH} {d : Nat} {B : Int} (h : Deck L d B) {n : Nat} (hn : d < n) (o : HU) : Deck (L.set n o) d B := by
  obtain ⟨sn, cells, a, b, c, e, h1, h2, h3, h4⟩ := h.ex
  exact ⟨sn, cells, a, b, c, e, by rw [List.getElem?_set_ne (by omega)]; exact h1, by rw [List.getElem?_set_ne (by omega)]; exact h2, h3, h4⟩
theorem Ex.set {d : Nat} {L L' : UH} (h : Ex d L L') {n : Nat} (hn : L.length ≤ n) (o : HU) : Ex d L (L'.set n o) :=
  ⟨by rw [List.length_set]; exact h.le, fun i h1 h2 => by rw [List.getElem?_set_ne (by omega)]; exact h.at_ i h1 h2⟩
theorem Ex.get {d : Nat} {L L' : UH} {i : Nat} {o : HU} (h : Ex d L L') (e : L[i]? = some o) (hi : i ≠ d) : L'[i]? = some o := by
  rw [h.at_ i (List.getElem?_eq_some_iff.mp e).1 hi]; exact e
theorem Deck.start (ns : List Int) (L : UH) (n : Nat) (hn : L[n]? = some (.ro (ns.map U.int))) (hl : ns.length ≤ 63) : ∃ d L', m_l_deck [.ref n] L = some (.ref d, L') ∧ Deck L' d 0 ∧ L.length ≤ d ∧ (∀ i, i < L.length → L'[i]? = L[i]?) := by
  have hq : seqAt L n = some (ns.map U.int) := by unfold seqAt; rw [hn]
  have hcut : cutU (ns.map U.int) none (some 63) = ns.map U.int := by
    unfold cutU HT.sIx
    simp only [List.length_map, List.drop_zero]
    rw [if_neg (by decide)]
    exact List.take_of_length_le (by simp; omega)
  have hI : ∀ l : List Int, mapO toI (l.map U.int) = some l := by
    intro l
    induction l with
    | nil => rfl
    | cons a r ih => simp [mapO, toI, ih]
  have hlt : n < L.length := (List.getElem?_eq_some_iff.mp hn).1
  refine ⟨L.length + 2, L ++ [.lst (ns.map U.int)] ++ [.lst (ns.map U.int)] ++ [.lst [.ref L.length, .int 0, .int 0, .int 0, .int ns.sum]], ?_, ⟨L.length, ns, 0, 0, 0, ns.sum, by simp, by simp [List.getElem?_append], by omega, hl, by omega, by omega, by omega, by omega, by omega⟩, by omega, fun i hi => by rw [List.append_assoc, List.append_assoc, List.getElem?_append_left hi]⟩
  have hq2 : seqAt (L ++ [HU.lst (ns.map U.int)]) n = some (ns.map U.int) := by unfold seqAt; rw [List.getElem?_append_left hlt, hn]
  have hq3 : seqAt (L ++ [HU.lst (ns.map U.int), HU.lst (ns.map U.int)]) (L.length + 1) = some (ns.map U.int) := by unfold seqAt; rw [List.getElem?_append_right (by omega)]; simp
  simp [m_l_deck, fnU, b_l_deck, semSl, hq, hcut, hq2, semSum, hq3, hI, small_of]
end Lw
set_option Elab.async false
set_option linter.all false
set_option maxRecDepth 100000
set_option maxHeartbeats 1000000
namespace Lw
open PySem L2 MR
end Lw
set_option Elab.async false
set_option linter.all false
set_option maxRecDepth 100000
set_option maxHeartbeats 1000000
namespace Lw
open PySem L2 MR
theorem semIx_str (x : Str) (i : Int) (L : UH) : semIx (.str x) (.int i) L = if small x.length = true then (L2.atI x.cps.toList i).map fun c => (.str ⟨#[c]⟩, L) else none := rfl
noncomputable def Low (s : Str) : Prop := ∀ c ∈ s.cps.toList, 97 ≤ c ∧ c ≤ 122
theorem Low.one {c : Nat} (h : 97 ≤ c ∧ c ≤ 122) : Low ⟨#[c]⟩ := by
  intro x hx
  have : x = c := by simpa using hx
  subst this; exact h
theorem Low.mul {c : Nat} (h : 97 ≤ c ∧ c ≤ 122) (j : Int) (h0 : 0 ≤ j) (h1 : j < 6) : Low (Txt.mul ⟨#[c]⟩ j) := by
  intro x hx
  have : j = 0 ∨ j = 1 ∨ j = 2 ∨ j = 3 ∨ j = 4 ∨ j = 5 := by omega
  have : x = c := by rcases this with rfl | rfl | rfl | rfl | rfl | rfl <;> simp [Txt.mul, Str.length, Str.empty, List.replicate] at hx <;> omega
  subst this; exact h
noncomputable def Nm (s : Str) : Prop := 1 ≤ s.length ∧ s.length ≤ 8 ∧ Low s
theorem append_ok {L : UH} {n : Nat} {l : List U} (u : U) (h : L[n]? = some (.lst l)) (hl : l.length < 16777216) : semAppend (.ref n) [u] L = some (.non, L.set n (.lst (l ++ [u]))) := by
  show (lstAt L n).bind _ = _
  rw [lstAt_lst h]
  simp only [Option.bind_some]
  rw [if_pos (decide_eq_true (by unfold sizeLine; omega))]
theorem tyU_lst {L : UH} {n : Nat} {l : List U} (h : L[n]? = some (.lst l)) : tyU "list" (.ref n) L = true := by simp [tyU, h]
end Lw
set_option Elab.async false
set_option linter.all false
set_option maxRecDepth 100000
set_option maxHeartbeats 1000000
namespace Lw
open PySem L2 MR
theorem pop_ok {L : UH} {n : Nat} {l : List U} {i : Int} (h : L[n]? = some (.lst l)) (h0 : 0 ≤ i) (h1 : i < l.length) (hs : l.length < 1000000) : semPop (.ref n) [.int i] L = some (l[i.toNat]'(by omega), L.set n (.lst (l.eraseIdx i.toNat))) := by
  have hk : seqIndex? i l.length = some i.toNat := by unfold seqIndex?; simp; omega
  have hg : l[i.toNat]? = some (l[i.toNat]'(by omega)) := List.getElem?_eq_getElem (by omega)
  simp only [semPop, lstAt_lst h, Option.bind_some, hk, hg, Option.map_some]
  rw [if_pos ⟨by omega, by omega⟩]
theorem len_lst {L : UH} {n : Nat} {l : List U} (h : L[n]? = some (.lst l)) : semLen [.ref n] L = some (.int l.length, L) := by simp [semLen, lenU, seqAt_lst h]
end Lw
set_option Elab.async false
set_option linter.all false
set_option maxRecDepth 100000
set_option maxHeartbeats 1000000
namespace Lw
open PySem L2 MR
noncomputable def pr (p : Int × Int) : U := .tup [.int p.1, .int p.2]
noncomputable def Pb (p : Int × Int) : Prop := (-9999999999 ≤ p.1 ∧ p.1 ≤ 9999999999) ∧ (-9999999999 ≤ p.2 ∧ p.2 ≤ 9999999999)
end Lw
set_option Elab.async false
set_option linter.all false
set_option maxRecDepth 100000
set_option maxHeartbeats 1000000
namespace Lw
open PySem L2 MR
end Lw
set_option Elab.async false
set_option linter.all false
set_option maxRecDepth 100000
set_option maxHeartbeats 1000000
namespace Lw
open PySem L2 MR
noncomputable def ptU (p : Str × (Int × Int)) : U := .tup [.str p.1, .int p.2.1, .int p.2.2]
structure Pts (ps : List (Str × (Int × Int))) : Prop where
  nm : ∀ p ∈ ps, Nm p.1
  nd : (ps.map (·.1)).Nodup
  pb : ∀ p ∈ ps, Pb p.2
  len : ps.length ≤ 60
end Lw
set_option Elab.async false
set_option linter.all false
set_option maxRecDepth 100000
set_option maxHeartbeats 1000000
namespace Lw
open PySem L2 MR
noncomputable def b_lies_below_1e : FE := (f2 semLe (fVar 0) (fVar 1))
noncomputable def b_lies_below : FS := (fRet (fAndV (f2 semNe (fVar 0) (fVar 1)) (fCall semAll (fCons (fComp [none, none] (fZipT (fCons (fVar 0) (fCons (fVar 1) fNil))) (MR.gTup 2 (MR.gCons (gN 0) (MR.gCons (gN 1) MR.gNil))) none b_lies_below_1e) fNil))))
noncomputable def m_lies_below : FN := fnU 2 2 b_lies_below
noncomputable def b_many_above_1e : FE := (fVar 0)
noncomputable def b_many_above_1t : FT := (fTru (fOwn 2 m_lies_below (fCons (fVar 1) (fCons (fVar 0) fNil))))
noncomputable def b_many_above : FS := (fRet (fCall semLen (fCons (fComp [none, some 1] (fSeqI (fVar 0)) (gN 0) (some b_many_above_1t) b_many_above_1e) fNil)))
noncomputable def m_many_above : FN := fnU 2 2 b_many_above
noncomputable def b_place_of : FS := (fRet (fTup (fCons (f2 semIx (fVar 0) (fC (.int 1))) (fCons (f2 semIx (fVar 0) (fC (.int 2))) fNil))))
noncomputable def m_place_of : FN := fnU 1 1 b_place_of
noncomputable def b_above_each_1e : FE := (fOwn 2 m_many_above (fCons (fVar 1) (fCons (fVar 0) fNil)))
noncomputable def b_above_each_2e : FE := (fOwn 1 m_place_of (fCons (fVar 0) fNil))
noncomputable def b_above_each : FS := (fSeq (fAsg (fComp [none] (fSeqI (fVar 0)) (gN 0) none b_above_each_2e) (gN 1)) (fRet (fCall semTuple (fCons (fComp [none, some 1] (fSeqI (fVar 1)) (gN 0) none b_above_each_1e) fNil))))
noncomputable def m_above_each : FN := fnU 2 1 b_above_each
noncomputable def b_many_below_1e : FE := (fVar 0)
noncomputable def b_many_below_1t : FT := (fTru (fOwn 2 m_lies_below (fCons (fVar 0) (fCons (fVar 1) fNil))))
noncomputable def b_many_below : FS := (fRet (fCall semLen (fCons (fComp [none, some 1] (fSeqI (fVar 0)) (gN 0) (some b_many_below_1t) b_many_below_1e) fNil)))
noncomputable def m_many_below : FN := fnU 2 2 b_many_below
noncomputable def b_below_each_1e : FE := (fOwn 2 m_many_below (fCons (fVar 1) (fCons (fVar 0) fNil)))
noncomputable def b_below_each_2e : FE := (fOwn 1 m_place_of (fCons (fVar 0) fNil))
noncomputable def b_below_each : FS := (fSeq (fAsg (fComp [none] (fSeqI (fVar 0)) (gN 0) none b_below_each_2e) (gN 1)) (fRet (fCall semTuple (fCons (fComp [none, some 1] (fSeqI (fVar 1)) (gN 0) none b_below_each_1e) fNil))))
noncomputable def m_below_each : FN := fnU 2 1 b_below_each
noncomputable def b_crossings_of_1e : FE := (fOwn 2 m_many_below (fCons (fVar 1) (fCons (fVar 0) fNil)))
noncomputable def b_crossings_of : FS := (fRet (fCall semSum (fCons (fComp [none, some 0] (fSeqI (fVar 1)) (gN 0) none b_crossings_of_1e) fNil)))
noncomputable def m_crossings_of : FN := fnU 2 2 b_crossings_of
noncomputable def b_halves_between (R : FN) : FS := (fSeq (fAsg (f2 semSub (fVar 2) (fVar 1)) (gN 3)) (fSeq (fIfS (fTest (f2 semLt (fVar 3) (fC (.int 2)))) (fRet (fLst fNil)) fNext) (fSeq (fAsg (f2 semAdd (fVar 1) (f2 semDiv (fVar 3) (fC (.int 2)))) (gN 4)) (fSeq (fAsg (fTup (fCons (fVar 1) (fCons (fVar 2) (fCons (fOwn 2 m_crossings_of (fCons (fSl semSl (fVar 0) (fPart (fVar 1)) (fPart (fVar 4))) (fCons (fSl semSl (fVar 0) (fPart (fVar 4)) (fPart (fVar 2))) fNil))) fNil)))) (gN 5)) (fRet (f2 semAdd (f2 semAdd (fLst (fCons (fVar 5) fNil)) (fOwn 3 R (fCons (fVar 0) (fCons (fVar 1) (fCons (fVar 4) fNil))))) (fOwn 3 R (fCons (fVar 0) (fCons (fVar 4) (fCons (fVar 2) fNil))))))))))
noncomputable def m_halves_betweenR : Nat → FN
  | 0 => fun _ _ => none
  | k + 1 => fnU 6 3 (b_halves_between (m_halves_betweenR k))
noncomputable def m_halves_between : FN := m_halves_betweenR 7
noncomputable def b_halves_of_1e : FE := (fOwn 1 m_place_of (fCons (fVar 0) fNil))
noncomputable def b_halves_of : FS := (fSeq (fAsg (fCall semSortT (fCons (fComp [none] (fSeqI (fVar 0)) (gN 0) none b_halves_of_1e) fNil)) (gN 1)) (fRet (fCall semTuple (fCons (fOwn 3 m_halves_between (fCons (fVar 1) (fCons (fC (.int 0)) (fCons (fCall semLen (fCons (fVar 1) fNil)) fNil)))) fNil))))
noncomputable def m_halves_of : FN := fnU 2 1 b_halves_of
noncomputable def b_halves_shown : FS := (fRet (f2 semEq (fVar 1) (fOwn 1 m_halves_of (fCons (fVar 0) fNil))))
noncomputable def m_halves_shown : FN := fnU 2 2 b_halves_shown
noncomputable def b_pairs_in_all : FS := (fRet (fCall semSum (fCons (fOwn 1 m_below_each (fCons (fVar 0) fNil)) fNil)))
noncomputable def m_pairs_in_all : FN := fnU 1 1 b_pairs_in_all
noncomputable def b_l_pairs_right : FS := (fSeq (fIfS (fOr (fTest (f2 semNe (fOwn 1 m_below_each (fCons (fVar 0) fNil)) (fOwn 1 m_below_each (fCons (fVar 0) fNil)))) (fTest (f2 semNe (fOwn 1 m_above_each (fCons (fVar 0) fNil)) (fOwn 1 m_above_each (fCons (fVar 0) fNil))))) (fRet (fC (.bl false))) fNext) (fSeq (fIfS (fOr (fTest (f2 semNe (fOwn 1 m_pairs_in_all (fCons (fVar 0) fNil)) (fOwn 1 m_pairs_in_all (fCons (fVar 0) fNil)))) (fTest (f2 semNe (fOwn 1 m_halves_of (fCons (fVar 0) fNil)) (fOwn 1 m_halves_of (fCons (fVar 0) fNil))))) (fRet (fC (.bl false))) fNext) (fRet (f2 (semIs false) (fOwn 2 m_halves_shown (fCons (fVar 0) (fCons (fOwn 1 m_halves_of (fCons (fVar 0) fNil)) fNil))) (fC (.bl true))))))
noncomputable def m_l_pairs_right : FN := fnU 1 1 b_l_pairs_right
noncomputable def b_many_greater_1e : FE := (fVar 0)
noncomputable def b_many_greater_1t : FT := (fTest (f2 semGt (fVar 0) (fVar 1)))
noncomputable def b_many_greater : FS := (fRet (fCall semLen (fCons (fComp [none, some 1] (fSeqI (fVar 0)) (gN 0) (some b_many_greater_1t) b_many_greater_1e) fNil)))
noncomputable def m_many_greater : FN := fnU 2 2 b_many_greater
noncomputable def b_counts_of_1e : FE := (fOwn 2 m_many_greater (fCons (fSl semSl (fVar 2) fNoPart (fPart (fVar 0))) (fCons (fVar 1) fNil)))
noncomputable def b_counts_of : FS := (fRet (fCall semTuple (fCons (fComp [none, none, some 0] (fEnumA (fCons (fVar 0) fNil)) (MR.gTup 2 (MR.gCons (gN 0) (MR.gCons (gN 1) MR.gNil))) none b_counts_of_1e) fNil)))
noncomputable def m_counts_of : FN := fnU 1 1 b_counts_of
noncomputable def b_count_of : FS := (fRet (fCall semSum (fCons (fOwn 1 m_counts_of (fCons (fVar 0) fNil)) fNil)))
noncomputable def m_count_of : FN := fnU 1 1 b_count_of
noncomputable def b_need_counts_1 : FS := (fIfS (fOr (fTest (f2 semLt (fVar 2) (fC (.int 0)))) (fTest (f2 semGt (fVar 2) (fVar 1)))) fNever fNext)
noncomputable def b_need_counts : FS := (fFor (fEnumA (fCons (fVar 0) fNil)) (MR.gTup 2 (MR.gCons (gN 1) (MR.gCons (gN 2) MR.gNil))) b_need_counts_1)
noncomputable def m_need_counts : FN := fnU 3 1 b_need_counts
noncomputable def b_row_of_1 : FS := (fDrop (fMeth "list" semAppend (fVar 2) (fCons (fMeth "list" semPop (fVar 1) (fCons (f2 semSub (fVar 3) (f2 semIx (fVar 0) (fVar 3))) fNil)) fNil)))
noncomputable def b_row_of : FS := (fSeq (fDrop (fOwn 1 m_need_counts (fCons (fVar 0) fNil))) (fSeq (fAsg (fLRng2 (fCons (fC (.int 1)) (fCons (f2 semAdd (fCall semLen (fCons (fVar 0) fNil)) (fC (.int 1))) fNil))) (gN 1)) (fSeq (fAsg (fLst fNil) (gN 2)) (fSeq (fFor (fRngD (fCons (f2 semSub (fCall semLen (fCons (fVar 0) fNil)) (fC (.int 1))) (fCons (fNeg (fC (.int 1))) (fCons (fNeg (fC (.int 1))) fNil)))) (gN 3) b_row_of_1) (fRet (fTRev (fCons (fVar 2) fNil)))))))
noncomputable def m_row_of : FN := fnU 4 1 b_row_of
noncomputable def b_ways_with_one_more_1e : FE := (fCall semSum (fCons (fSl semSl (fVar 1) (fPart (fCall semMax (fCons (fC (.int 0)) (fCons (f2 semSub (fVar 0) (fVar 2)) fNil)))) (fPart (f2 semAdd (fVar 0) (fC (.int 1))))) fNil))
noncomputable def b_ways_with_one_more : FS := (fRet (fComp [none, some 0, some 1] (fRng1 (fCons (f2 semAdd (fCall semLen (fCons (fVar 0) fNil)) (fVar 1)) fNil)) (gN 0) none b_ways_with_one_more_1e))
noncomputable def m_ways_with_one_more : FN := fnU 2 2 b_ways_with_one_more
noncomputable def b_ways_from_each_1 : FS := (fDrop (fMeth "list" semAppend (fVar 1) (fCons (fOwn 2 m_ways_with_one_more (fCons (f2 semIx (fVar 1) (fNeg (fC (.int 1)))) (fCons (fVar 2) fNil))) fNil)))
noncomputable def b_ways_from_each : FS := (fSeq (fAsg (fLst (fCons (fLst (fCons (fC (.int 1)) fNil)) fNil)) (gN 1)) (fSeq (fFor (fRngD (fCons (f2 semSub (fVar 0) (fC (.int 1))) (fCons (fNeg (fC (.int 1))) (fCons (fNeg (fC (.int 1))) fNil)))) (gN 2) b_ways_from_each_1) (fRet (fLRev (fCons (fVar 1) fNil)))))
noncomputable def m_ways_from_each : FN := fnU 3 1 b_ways_from_each
noncomputable def b_ways_to : FS := (fRet (fIf (fTest (fChain semLe semLt (fC (.int 0)) (fVar 1) (fCall semLen (fCons (fVar 0) fNil)))) (f2 semIx (fVar 0) (fVar 1)) (fC (.int 0))))
noncomputable def m_ways_to : FN := fnU 2 2 b_ways_to
noncomputable def b_nth_row_2c : FT := (fTest (f2 semGe (fVar 6) (fOwn 2 m_ways_to (fCons (f2 semIx (fVar 3) (f2 semAdd (fVar 7) (fC (.int 1)))) (fCons (f2 semSub (fVar 5) (fVar 8)) fNil)))))
noncomputable def b_nth_row_2 : FS := (fSeq (fAsg (f2 semSub (fVar 6) (fOwn 2 m_ways_to (fCons (f2 semIx (fVar 3) (f2 semAdd (fVar 7) (fC (.int 1)))) (fCons (f2 semSub (fVar 5) (fVar 8)) fNil)))) (gN 6)) (fAsg (f2 semAdd (fVar 8) (fC (.int 1))) (gN 8)))
noncomputable def b_nth_row_1 : FS := (fSeq (fAsg (fC (.int 0)) (gN 8)) (fSeq (whileU b_nth_row_2c b_nth_row_2 100000) (fSeq (fDrop (fMeth "list" semAppend (fVar 4) (fCons (fVar 8) fNil))) (fAsg (f2 semSub (fVar 5) (fVar 8)) (gN 5)))))
noncomputable def b_nth_row : FS := (fSeq (fAsg (fOwn 1 m_ways_from_each (fCons (fVar 0) fNil)) (gN 3)) (fSeq (fIfS (fOr (fTest (f2 semLt (fVar 2) (fC (.int 0)))) (fTest (f2 semGe (fVar 2) (fOwn 2 m_ways_to (fCons (f2 semIx (fVar 3) (fC (.int 0))) (fCons (fVar 1) fNil)))))) fNever fNext) (fSeq (fAsg (fLst fNil) (gN 4)) (fSeq (fAsg (fVar 1) (gN 5)) (fSeq (fAsg (fVar 2) (gN 6)) (fSeq (fFor (fRng1 (fCons (fVar 0) fNil)) (gN 7) b_nth_row_1) (fRet (fOwn 1 m_row_of (fCons (fVar 4) fNil)))))))))
noncomputable def m_nth_row : FN := fnU 9 3 b_nth_row
noncomputable def b_place_of_row_2e : FE := (fOwn 2 m_ways_to (fCons (f2 semIx (fVar 1) (f2 semAdd (fVar 2) (fC (.int 1)))) (fCons (f2 semSub (fVar 3) (fVar 0)) fNil)))
noncomputable def b_place_of_row_1 : FS := (fSeq (fAsg (f2 semAdd (fVar 4) (fCall semSum (fCons (fComp [none, some 1, some 5, some 3] (fRng1 (fCons (fVar 6) fNil)) (gN 0) none b_place_of_row_2e) fNil))) (gN 4)) (fAsg (f2 semSub (fVar 3) (fVar 6)) (gN 3)))
noncomputable def b_place_of_row : FS := (fSeq (fAsg (fOwn 1 m_ways_from_each (fCons (fCall semLen (fCons (fVar 0) fNil)) fNil)) (gN 1)) (fSeq (fAsg (fOwn 1 m_counts_of (fCons (fVar 0) fNil)) (gN 2)) (fSeq (fAsg (fCall semSum (fCons (fVar 2) fNil)) (gN 3)) (fSeq (fAsg (fC (.int 0)) (gN 4)) (fSeq (fFor (fEnumA (fCons (fVar 2) fNil)) (MR.gTup 2 (MR.gCons (gN 5) (MR.gCons (gN 6) MR.gNil))) b_place_of_row_1) (fRet (fVar 4)))))))
noncomputable def m_place_of_row : FN := fnU 7 1 b_place_of_row
noncomputable def b_rows_with : FS := (fRet (fCall semTuple (fCons (f2 semIx (fOwn 1 m_ways_from_each (fCons (fVar 0) fNil)) (fC (.int 0))) fNil)))
noncomputable def m_rows_with : FN := fnU 1 1 b_rows_with
noncomputable def b_l_rows_right : FS := (fSeq (fAsg (fOwn 1 m_counts_of (fCons (fVar 0) fNil)) (gN 1)) (fSeq (fIfS (fOr (fTest (f2 semNe (fOwn 1 m_counts_of (fCons (fVar 0) fNil)) (fVar 1))) (fTest (f2 semNe (fOwn 1 m_count_of (fCons (fVar 0) fNil)) (fOwn 1 m_count_of (fCons (fVar 0) fNil))))) (fRet (fC (.bl false))) fNext) (fSeq (fIfS (fOr (fTest (f2 semNe (fOwn 1 m_row_of (fCons (fVar 1) fNil)) (fOwn 1 m_row_of (fCons (fVar 1) fNil)))) (fTest (f2 semNe (fOwn 1 m_rows_with (fCons (fC (.int 2)) fNil)) (fOwn 1 m_rows_with (fCons (fC (.int 2)) fNil))))) (fRet (fC (.bl false))) fNext) (fSeq (fAsg (fOwn 1 m_row_of (fCons (fVar 1) fNil)) (gN 2)) (fSeq (fAsg (fOwn 1 m_place_of_row (fCons (fVar 2) fNil)) (gN 3)) (fRet (fAndV (f2 semEq (fOwn 1 m_place_of_row (fCons (fVar 2) fNil)) (fVar 3)) (f2 semEq (fOwn 3 m_nth_row (fCons (fC (.int 2)) (fCons (fOwn 1 m_count_of (fCons (fVar 2) fNil)) (fCons (fVar 3) fNil)))) (fVar 2)))))))))
noncomputable def m_l_rows_right : FN := fnU 4 1 b_l_rows_right
noncomputable def b_l_spots_1e : FE := (f2 semSub (f2 semMod (f2 semDiv (fVar 1) (f2 semIx (fLst (fCons (fC (.int 1)) (fCons (fC (.int 7)) (fCons (fC (.int 49)) (fCons (fC (.int 343)) fNil))))) (fVar 0))) (fC (.int 7))) (fC (.int 3)))
noncomputable def b_l_spots : FS := (fSeq (fAsg (fComp [none, some 0] (fRng1 (fCons (fC (.int 4)) fNil)) (gN 0) none b_l_spots_1e) (gN 1)) (fRet (fTup (fCons (fTup (fCons (fC (.str "ab")) (fCons (f2 semIx (fVar 1) (fC (.int 0))) (fCons (f2 semIx (fVar 1) (fC (.int 1))) fNil)))) (fCons (fTup (fCons (fC (.str "b")) (fCons (f2 semIx (fVar 1) (fC (.int 2))) (fCons (f2 semIx (fVar 1) (fC (.int 3))) fNil)))) fNil)))))
noncomputable def m_l_spots : FN := fnU 2 1 b_l_spots
noncomputable def b_points_shown_1e : FE := (fJoined [(fFmt (fVar 0)), (fC (.str " ")), (fFmt (fVar 1)), (fC (.str " ")), (fFmt (fVar 2))])
noncomputable def b_points_shown : FS := (fRet (fMeth "str" semJoin (fC (.str "\n")) (fCons (fComp [none, none, none] (fSeqI (fVar 0)) (MR.gTup 3 (MR.gCons (gN 0) (MR.gCons (gN 1) (MR.gCons (gN 2) MR.gNil)))) none b_points_shown_1e) fNil)))
noncomputable def m_points_shown : FN := fnU 1 1 b_points_shown
noncomputable def b_holds_only_1e : FE := (f2 (semIn false) (fVar 0) (fVar 1))
noncomputable def b_holds_only : FS := (fRet (fCall semAll (fCons (fComp [none, some 1] (fStrI (fVar 0)) (gN 0) none b_holds_only_1e) fNil)))
noncomputable def m_holds_only : FN := fnU 2 2 b_holds_only
noncomputable def b_is_name : FS := (fRet (fAndV (fChain semLe semLe (fC (.int 1)) (fCall semLen (fCons (fVar 0) fNil)) (fC (.int 8))) (fOwn 2 m_holds_only (fCons (fVar 0) (fCons (fC (.str "abcdefghijklmnopqrstuvwxyz")) fNil)))))
noncomputable def m_is_name : FN := fnU 1 1 b_is_name
noncomputable def b_is_number : FS := (fSeq (fAsg (fIf (fTru (fMeth "str" semStarts (fVar 0) (fCons (fC (.str "-")) fNil))) (fSl semSlZ (fVar 0) (fPart (fC (.int 1))) fNoPart) (fVar 0)) (gN 1)) (fSeq (fIfS (fOr (fTest (f2 semEq (fVar 1) (fC (.str "")))) (fNot (fTru (fOwn 2 m_holds_only (fCons (fVar 1) (fCons (fC (.str "0123456789")) fNil)))))) (fRet (fC (.bl false))) fNext) (fRet (fOrV (f2 semNe (f2 semIx (fVar 1) (fC (.int 0))) (fC (.str "0"))) (f2 semEq (fVar 0) (fC (.str "0")))))))
noncomputable def m_is_number : FN := fnU 2 1 b_is_number
noncomputable def b_point_in : FS := (fSeq (fAsg (fMeth "str" semSplit (fVar 0) (fCons (fC (.str " ")) fNil)) (gN 1)) (fSeq (fIfS (fOr (fTest (f2 semNe (fCall semLen (fCons (fVar 1) fNil)) (fC (.int 3)))) (fNot (fTru (fOwn 1 m_is_name (fCons (f2 semIx (fVar 1) (fC (.int 0))) fNil))))) (fRet (fC .non)) fNext) (fSeq (fIfS (fOr (fNot (fTru (fOwn 1 m_is_number (fCons (f2 semIx (fVar 1) (fC (.int 1))) fNil)))) (fNot (fTru (fOwn 1 m_is_number (fCons (f2 semIx (fVar 1) (fC (.int 2))) fNil))))) (fRet (fC .non)) fNext) (fRet (fTup (fCons (f2 semIx (fVar 1) (fC (.int 0))) (fCons (fCall semIntT (fCons (f2 semIx (fVar 1) (fC (.int 1))) fNil)) (fCons (fCall semIntT (fCons (f2 semIx (fVar 1) (fC (.int 2))) fNil)) fNil))))))))
noncomputable def m_point_in : FN := fnU 2 1 b_point_in
noncomputable def b_read_points_1 : FS := (fSeq (fAsg (fOwn 1 m_point_in (fCons (fVar 4) fNil)) (gN 5)) (fSeq (fIfS (fOr (fTest (f2 (semIs false) (fVar 5) (fC .non))) (fTest (f2 semDIn (f2 semIx (fVar 5) (fC (.int 0))) (fVar 2)))) fNever fNext) (fSeq (fDPut (fVar 2) (f2 semIx (fVar 5) (fC (.int 0))) (fC (.bl true))) (fDrop (fMeth "list" semAppend (fVar 1) (fCons (fVar 5) fNil))))))
noncomputable def b_read_points : FS := (fSeq (fIfS (fTest (f2 semEq (fVar 0) (fC (.str "")))) (fRet (fTup fNil)) fNext) (fSeq (fAsg (fLst fNil) (gN 1)) (fSeq (fAsg fDNew (gN 2)) (fSeq (fFor (fEnumA (fCons (fMeth "str" semSplit (fVar 0) (fCons (fC (.str "\n")) fNil)) fNil)) (MR.gTup 2 (MR.gCons (gN 3) (MR.gCons (gN 4) MR.gNil))) b_read_points_1) (fRet (fCall semTuple (fCons (fVar 1) fNil)))))))
noncomputable def m_read_points : FN := fnU 6 1 b_read_points
noncomputable def b_l_texts_right : FS := (fSeq (fAsg (fOwn 1 m_points_shown (fCons (fVar 0) fNil)) (gN 1)) (fSeq (fIfS (fOr (fTest (f2 semNe (fOwn 1 m_points_shown (fCons (fVar 0) fNil)) (fVar 1))) (fTest (f2 semNe (fOwn 1 m_read_points (fCons (fVar 1) fNil)) (fOwn 1 m_read_points (fCons (fVar 1) fNil))))) (fRet (fC (.bl false))) fNext) (fSeq (fAsg (fSl semSl (f2 semIx (fVar 0) (fC (.int 0))) (fPart (fC (.int 1))) fNoPart) (gN 2)) (fSeq (fAsg (fSl semSl (f2 semIx (fVar 0) (fC (.int 1))) (fPart (fC (.int 1))) fNoPart) (gN 3)) (fRet (f2 semEq (fOwn 2 m_lies_below (fCons (fVar 2) (fCons (fVar 3) fNil))) (fOwn 2 m_lies_below (fCons (fVar 2) (fCons (fVar 3) fNil)))))))))
noncomputable def m_l_texts_right : FN := fnU 4 1 b_l_texts_right
noncomputable def b_law_1 : FS := (fSeq (fAsg (fOwn 1 m_l_spots (fCons (fVar 1) fNil)) (gN 2)) (fSeq (fIfS (fOr (fNot (fTru (fOwn 1 m_l_texts_right (fCons (fVar 2) fNil)))) (fNot (fTru (fOwn 1 m_l_pairs_right (fCons (fVar 2) fNil))))) (fRet (fC (.bl false))) fNext) (fSeq (fAsg (f2 semMod (fVar 1) (fC (.int 999983))) (gN 3)) (fIfS (fNot (fTru (fOwn 1 m_l_rows_right (fCons (fTup (fCons (fVar 3) (fCons (f2 semAdd (fVar 3) (f2 semIx (fLst (fCons (fC (.int 1)) (fCons (fNeg (fC (.int 1))) fNil))) (f2 semMod (f2 semDiv (fVar 1) (fC (.int 7))) (fC (.int 2))))) fNil))) fNil)))) (fRet (fC (.bl false))) fNext))))
noncomputable def b_law : FS := (fSeq (fFor (fSeqI (f2 semAdd (fSl semSl (fVar 0) fNoPart (fPart (fC (.int 8)))) (fLst (fCons (fCall semLen (fCons (fVar 0) fNil)) fNil)))) (gN 1) b_law_1) (fRet (fC (.bl true))))
noncomputable def m_law : FN := fnU 4 1 b_law
theorem fSeq_nx {f g : FS} {δ δ' : UE} {L L' : UH} (h : f δ L = some (.nx δ', L')) : fSeq f g δ L = g δ' L' := by rw [fSeq_eq, h]; rfl
theorem setN {fe : FE} {v : U} {i : Nat} {δ : UE} {L L' : UH} (e : fe δ L = some (v, L')) : (fAsg fe (gN i)) δ L = some (.nx (δ.set i (some v)), L') := by
  rw [fAsg_eq, e]
  simp only [Option.bind_some, gN_eq, Option.map_some]
theorem own1 {f : FN} {i : Nat} {u v : U} {δ : UE} {L L' : UH} (h : fVar i δ L = some (u, L)) (e : f [u] L = some (v, L')) : (fOwn 1 f (fCons (fVar i) fNil)) δ L = some (v, L') := by
  rw [fOwn_eq, fCons_eq, h]
  simp only [Option.bind_some, fNil_eq, Option.map_some, List.length_cons, List.length_nil, if_true, e]
theorem own1e {f : FN} {fe : FE} {u v : U} {δ : UE} {L L1 L' : UH} (h : fe δ L = some (u, L1)) (e : f [u] L1 = some (v, L')) : (fOwn 1 f (fCons fe fNil)) δ L = some (v, L') := by
  rw [fOwn_eq, fCons_eq, h]
  simp only [Option.bind_some, fNil_eq, Option.map_some, List.length_cons, List.length_nil, if_true, e]
theorem own2 {f : FN} {fa fb : FE} {u w v : U} {δ : UE} {L L1 L2 L' : UH} (h : fa δ L = some (u, L1)) (h2 : fb δ L1 = some (w, L2)) (e : f [u, w] L2 = some (v, L')) : (fOwn 2 f (fCons fa (fCons fb fNil))) δ L = some (v, L') := by
  rw [fOwn_eq, fCons_eq, h, Option.bind_some, fCons_eq, h2]
  simp only [Option.bind_some, fNil_eq, Option.map_some, List.length_cons, List.length_nil, if_true, e]
theorem fn1 {n : Nat} {b : FS} {u v : U} {L L' : UH} (h : b (some u :: List.replicate n none) L = some (.rt v, L')) : fnU (n + 1) 1 b [u] L = some (v, L') := by
  unfold fnU
  simp only [List.length_cons, List.length_nil, if_true, List.map_cons, List.map_nil, List.cons_append, List.nil_append, Nat.add_sub_cancel, h]
  rfl
theorem ret_ok {fe : FE} {v : U} {δ : UE} {L L' : UH} (e : fe δ L = some (v, L')) : fRet fe δ L = some (.rt v, L') := by
  rw [fRet_eq, e]; rfl
noncomputable def Gw (L L' : UH) : Prop := ∃ x, L' = L ++ x
theorem Gw.refl (L : UH) : Gw L L := ⟨[], by simp⟩
theorem Gw.trans {L L1 M : UH} (a : Gw L L1) (b : Gw L1 M) : Gw L M := by obtain ⟨x, rfl⟩ := a; obtain ⟨y, rfl⟩ := b; exact ⟨x ++ y, by simp⟩
theorem Gw.new (L x : UH) : Gw L (L ++ x) := ⟨x, rfl⟩
theorem Gw.set {L L' : UH} (h : Gw L L') {n : Nat} (hn : L.length ≤ n) (o : HU) : Gw L (L'.set n o) := by
  obtain ⟨x, rfl⟩ := h
  exact ⟨x.set (n - L.length) o, by rw [List.set_append_right _ _ hn]⟩
theorem Gw.le {L L' : UH} (h : Gw L L') : L.length ≤ L'.length := by obtain ⟨x, rfl⟩ := h; simp
theorem Gw.get {L L' : UH} (h : Gw L L') {n : Nat} {o : HU} (e : L[n]? = some o) : L'[n]? = some o := by
  obtain ⟨x, rfl⟩ := h
  rw [List.getElem?_append_left (List.getElem?_eq_some_iff.mp e).1]; exact e
theorem toBs_map {β : Type} (as : List β) (f : β → Bool) : mapO toB (as.map fun a => U.bl (f a)) = some (as.map f) := by
  induction as with
  | nil => rfl
  | cons a as ih => simp [mapO, toB, ih]
theorem all_lst {β : Type} {L : UH} {n : Nat} (as : List β) (f : β → Bool) (h : seqAt L n = some (as.map fun a => U.bl (f a))) : semAll [.ref n] L = some (.bl (as.all f), L) := by
  simp [semAll, h, toBs_map]
noncomputable def asc (w : Str) : Prop := w.cps.all (· < 128) = true
theorem len_cps (w : Str) : w.length = w.cps.toList.length := by simp [Str.length]
theorem holds_ok (w signs : Str) (ha : asc w) (hl : w.length ≤ 1000) (L : UH) : ∃ L', m_holds_only [.str w, .str signs] L = some (.bl (w.cps.toList.all fun c => decide (c ∈ signs.cps.toList)), L') ∧ Gw L L' := by
  have hlc := len_cps w
  have hi : fStrI (fVar 0) [some (.str w), some (.str signs)] L = some (.seq (w.cps.toList.map fun c => .str ⟨#[c]⟩), L) := by
    unfold fStrI
    simp only [fVar_eq, List.getElem?_cons_zero, Option.join_some, Option.map_some, Option.bind_some]
    rw [if_pos (show (w.cps.all (· < 128)) = true from ha)]; rfl
  obtain ⟨x, e⟩ := comp_grow (ix := [none, some 1]) (fi := fStrI (fVar 0)) (it := .seq (w.cps.toList.map fun c => U.str ⟨#[c]⟩)) (g := gN 0) (tt := none) (fe := b_holds_only_1e) (δ := [some (.str w), some (.str signs)]) (L := L) (L0 := L)
    w.cps.toList (fun c => U.str ⟨#[c]⟩) (fun _ => true) (fun c => .bl (decide (c ∈ signs.cps.toList))) (fun δ => ∃ a, δ = [a, some (.str signs)]) hi (by simp [IU.size]) (by omega) ⟨none, rfl⟩
    (fun k x => rfl)
    (fun c δ x _ ⟨y, hδ⟩ => by
      subst hδ
      refine ⟨[some (.str ⟨#[c]⟩), some (.str signs)], rfl, ⟨_, rfl⟩, [], by simp [testU], fun _ => ⟨[], ?_⟩⟩
      have hfo := StrLaws.found_one signs c
      show some (U.bl (!(Builtin.Str.occurrences signs ⟨#[c]⟩ 0 signs.length 1).isEmpty), L ++ x ++ []) = _
      rw [hfo]; simp)
  have hff : List.filter (fun _ => true) w.cps.toList = w.cps.toList := List.filter_eq_self.mpr (fun _ _ => rfl)
  rw [hff] at e
  have q1 : seqAt (L ++ x ++ [HU.lst (w.cps.toList.map fun c => .bl (decide (c ∈ signs.cps.toList)))]) (L ++ x).length = some (w.cps.toList.map fun c => U.bl (decide (c ∈ signs.cps.toList))) := seqAt_lst (by simp)
  have ha := all_lst _ _ q1
  refine ⟨L ++ x ++ [HU.lst (w.cps.toList.map fun c => .bl (decide (c ∈ signs.cps.toList)))], ?_, ⟨x ++ [HU.lst (w.cps.toList.map fun c => .bl (decide (c ∈ signs.cps.toList)))], by rw [List.append_assoc]⟩⟩
  unfold m_holds_only fnU b_holds_only
  simp only [List.length_cons, List.length_nil, if_true, List.map_cons, List.map_nil, Nat.sub_self, List.replicate_zero, List.append_nil, fRet_eq, fCall_eq, fCons_eq, fNil_eq, Option.map_some, Option.bind_some, e, ha]
theorem abc_cps : (Str.cps "abcdefghijklmnopqrstuvwxyz").toList = (List.range 26).map (97 + ·) := by decide +kernel
theorem fig_signs : (Str.cps "0123456789").toList = (List.range 10).map (48 + ·) := by decide +kernel
theorem mem_abc {c : Nat} (h : 97 ≤ c ∧ c ≤ 122) : c ∈ (Str.cps "abcdefghijklmnopqrstuvwxyz").toList := by
  rw [abc_cps]
  exact List.mem_map.mpr ⟨c - 97, List.mem_range.mpr (by omega), by omega⟩
theorem mem_figs {c : Nat} (h : 48 ≤ c ∧ c ≤ 57) : c ∈ (Str.cps "0123456789").toList := by
  rw [fig_signs]
  exact List.mem_map.mpr ⟨c - 48, List.mem_range.mpr (by omega), by omega⟩
theorem asc_of {w : Str} (h : ∀ c ∈ w.cps.toList, c < 128) : asc w := by
  unfold asc
  rw [← Array.all_toList, List.all_eq_true]
  intro c hc
  exact decide_eq_true (h c hc)
theorem chain_le {fa fb fc : FE} {δ : UE} {L : UH} {a b c : Int} (ha : fa δ L = some (.int a, L)) (hb : fb δ L = some (.int b, L)) (hc : fc δ L = some (.int c, L)) : fChain semLe semLe fa fb fc δ L = some (.bl (decide (a ≤ b) && decide (b ≤ c)), L) := by
  unfold fChain
  rw [ha, Option.bind_some, hb]
  cases h : decide (a ≤ b) <;> simp [h, hc]
theorem len_str {w : Str} (h : w.length ≤ 1000) (L : UH) : semLen [.str w] L = some (.int w.length, L) := by
  unfold semLen lenU
  simp only [small_of (show w.length ≤ 16777216 by omega), if_true, Option.map_some]
theorem is_name_ok {w : Str} (h : Nm w) (L : UH) : ∃ L', m_is_name [.str w] L = some (.bl true, L') ∧ Gw L L' := by
  obtain ⟨h1, h2, h3⟩ := h
  obtain ⟨L', e, g⟩ := holds_ok w "abcdefghijklmnopqrstuvwxyz" (asc_of fun c hc => by have := h3 c hc; omega) (by omega) L
  have ht : (w.cps.toList.all fun c => decide (c ∈ (Str.cps "abcdefghijklmnopqrstuvwxyz").toList)) = true := List.all_eq_true.mpr fun c hc => decide_eq_true (mem_abc (h3 c hc))
  rw [ht] at e
  refine ⟨L', fn1 (n := 0) ?_, g⟩
  have c1 : fChain semLe semLe (fC (.int 1)) (fCall semLen (fCons (fVar 0) fNil)) (fC (.int 8)) [some (.str w)] L = some (.bl true, L) := by
    have hb : (fCall semLen (fCons (fVar 0) fNil)) [some (.str w)] L = some (.int w.length, L) := by
      simp only [fCall_eq, fCons_eq, fNil_eq, fVar_eq, List.getElem?_cons_zero, Option.join_some, Option.map_some, Option.bind_some, len_str (show w.length ≤ 1000 by omega)]
    rw [chain_le (a := 1) (b := w.length) (c := 8) rfl hb rfl, decide_eq_true (show (1 : Int) ≤ w.length by omega), decide_eq_true (show (w.length : Int) ≤ 8 by omega)]
    rfl
  show fRet _ [some (.str w)] L = _
  refine ret_ok ?_
  rw [fAndV_eq, c1]
  simp only [Option.bind_some, if_true]
  exact own2 (u := .str w) rfl rfl e
theorem zero_cps : (Str.cps "0").toList = [48] := by decide +kernel
theorem minus_cps : (Str.cps "-").toList = [45] := by decide +kernel
theorem empty_cps : (Str.cps "").toList = [] := by decide +kernel
theorem str_ne {a b : Str} (h : a.cps.toList ≠ b.cps.toList) : a ≠ b := fun q => h (by rw [q])
theorem ok_asc {w : Str} (h : asc w) : Pl 6 (.str w) := by
  show PyData.strOk w = true
  unfold PyData.strOk
  unfold asc at h
  rw [← Array.all_toList, List.all_eq_true] at h ⊢
  intro c hc
  have := of_decide_eq_true (h c hc)
  exact decide_eq_true (by omega)
theorem eqB_str {a b : Str} (ha : asc a) (hb : asc b) : eqB (.str a) (.str b) = decide (a = b) := by
  rw [Bool.eq_iff_iff, eqB_iff (ok_asc ha) (ok_asc hb), decide_eq_true_eq]
  exact ⟨fun q => by injection q, fun q => by rw [q]⟩
theorem semEq_str {a b : Str} (ha : asc a) (hb : asc b) (L : UH) : semEq (.str a) (.str b) L = some (.bl (decide (a = b)), L) := by
  rw [semEq_pl L (ok_asc ha) (ok_asc hb), eqB_str ha hb]
theorem semNe_str {a b : Str} (ha : asc a) (hb : asc b) (L : UH) : semNe (.str a) (.str b) L = some (.bl (!decide (a = b)), L) := by
  rw [semNe_pl L (ok_asc ha) (ok_asc hb), eqB_str ha hb]
theorem asc_zero : asc "0" := by unfold asc; decide +kernel
theorem asc_empty : asc "" := by unfold asc; decide +kernel
theorem asc_one {c : Nat} (h : c < 128) : asc ⟨#[c]⟩ := asc_of fun x hx => by
  have : x = c := by simpa using hx
  omega
theorem fig_asc (n : Int) : asc (fig n) := asc_of fun c hc => by
  rw [fig_cps] at hc
  rcases List.mem_append.mp hc with q | q
  · split at q
    · have : c = 45 := by simpa using q
      omega
    · simp at q
  · have := (dig_facts n.natAbs).1 c q
    omega
noncomputable def figA (n : Int) : Str := ⟨(dig n.natAbs).toArray⟩
theorem figA_cps (n : Int) : (figA n).cps.toList = dig n.natAbs := by unfold figA; simp
theorem dig_head (n : Nat) : ∃ c r, dig n = c :: r ∧ 48 ≤ c ∧ c ≤ 57 := by
  obtain ⟨h1, h2, _, _⟩ := dig_facts n
  cases e : dig n with
  | nil => exact absurd e h2
  | cons c r => exact ⟨c, r, rfl, h1 c (by rw [e]; exact List.mem_cons_self ..)⟩
theorem starts_minus (n : Int) : Txt.startswith (fig n) "-" = decide (n < 0) := by
  unfold Txt.startswith
  rw [StrLaws.subAt_eq, minus_cps, fig_cps]
  have hm : Str.length "-" = 1 := by rw [len_cps, minus_cps]; rfl
  have hl : (fig n).length = (fig n).cps.toList.length := len_cps _
  rw [hm, hl, fig_cps]
  obtain ⟨c, r, e, h1, h2⟩ := dig_head n.natAbs
  rw [e]
  by_cases h : n < 0
  · rw [if_pos h, decide_eq_true h]
    simp
  · rw [if_neg h, decide_eq_false h]
    have : (c == 45) = false := by simp; omega
    simp [this]
theorem idx_none (a len : Nat) : Builtin.Str.strSliceIndices (some (a : Int)) none 1 len = Builtin.Str.strSliceIndices (some (a : Int)) (some (len : Int)) 1 len := by
  unfold Builtin.Str.strSliceIndices
  have h2 : ¬ ((len : Int) < 0) := by omega
  have e2 : max (0 : Int) (min (len : Int) (len : Int)) = len := by omega
  simp only [h2, if_false, e2, show ((1 : Int) > 0) = True from by simp, if_true]
theorem slice_one {x : Str} (h : 1 ≤ x.length) : (Txt.slice x (some 1) none).cps.toList = x.cps.toList.drop 1 := by
  have e := idx_none 1 x.length
  have p := StrLaws.strSliceIndices_plain (a := 1) (b := x.length) (len := x.length) h (Nat.le_refl _)
  have q := StrLaws.sliced_plain x (a := 1) (b := x.length) h (Nat.le_refl _)
  have i1 : ((1 : Nat) : Int) = 1 := rfl
  rw [i1] at e p q
  unfold Txt.slice
  rw [e]
  have hl : (Builtin.Str.strSliceIndices (some 1) (some (x.length : Int)) 1 x.length).length = x.length - 1 := by rw [p]; simp
  rw [if_neg (by rw [hl]; simp; omega), q]
  have : x.length = x.cps.toList.length := len_cps x
  simp only [List.take_of_length_le (by rw [List.length_drop]; omega : (x.cps.toList.drop 1).length ≤ x.length - 1)]
theorem figA_asc (n : Int) : asc (figA n) := asc_of fun c hc => by
  rw [figA_cps] at hc
  have := (dig_facts n.natAbs).1 c hc
  omega
theorem is_number_ok {n : Int} (h : -9999999999 ≤ n ∧ n ≤ 9999999999) (L : UH) : ∃ L', m_is_number [.str (fig n)] L = some (.bl true, L') ∧ Gw L L' := by
  have hlf := fig_len h
  have hst := starts_minus n
  have hlA : (figA n).length ≤ 11 := by
    rw [len_cps, figA_cps]
    have h1 : (fig n).length = (fig n).cps.toList.length := len_cps _
    rw [fig_cps, List.length_append] at h1
    omega
  obtain ⟨L', e, g⟩ := holds_ok (figA n) "0123456789" (figA_asc n) (by omega) L
  have hd := dig_facts n.natAbs
  have ht : ((figA n).cps.toList.all fun c => decide (c ∈ (Str.cps "0123456789").toList)) = true := List.all_eq_true.mpr fun c hc => decide_eq_true (mem_figs (hd.1 c (by rw [figA_cps] at hc; exact hc)))
  rw [ht] at e
  have ty : ∀ L, tyU "str" (.str (fig n)) L = true := fun _ => rfl
  have c0 : (fTru (fMeth "str" semStarts (fVar 0) (fCons (fC (.str "-")) fNil))) [some (.str (fig n)), none] L = some (decide (n < 0), L) := by
    rw [fTru_eq, fMeth_eq]
    simp only [fVar_eq, fCons_eq, fC_eq, fNil_eq, List.getElem?_cons_zero, Option.join_some, Option.map_some, Option.bind_some, ty, if_true, semStarts, hst, truU_bl]
  have s1 : (fAsg (fIf (fTru (fMeth "str" semStarts (fVar 0) (fCons (fC (.str "-")) fNil))) (fSl semSlZ (fVar 0) (fPart (fC (.int 1))) fNoPart) (fVar 0)) (gN 1)) [some (.str (fig n)), none] L = some (.nx [some (.str (fig n)), some (.str (figA n))], L) := by
    refine setN ?_
    rw [fIf_eq, c0, Option.bind_some]
    by_cases h0 : n < 0
    · have hx : (fig n).cps.toList = 45 :: dig n.natAbs := by rw [fig_cps, if_pos h0]; rfl
      have hs : Txt.slice (fig n) (some 1) none = figA n := by
        apply str_ext
        rw [slice_one (by rw [len_cps, hx]; simp), hx, figA_cps]
        rfl
      simp only [decide_eq_true h0, if_true, fSl_eq, fVar_eq, fPart_eq, fNoPart_eq, fC_eq, List.getElem?_cons_zero, Option.join_some, Option.map_some, Option.bind_some, semSlZ]
      rw [if_pos (small_of (by omega)), hs]
    · have hx : fig n = figA n := str_ext (by rw [fig_cps, if_neg h0, figA_cps]; rfl)
      simp only [decide_eq_false h0, Bool.false_eq_true, if_false, fVar_eq, List.getElem?_cons_zero, Option.join_some, Option.map_some]
      rw [← hx]
  have hne : (decide (figA n = "")) = false := decide_eq_false (str_ne (by rw [figA_cps, empty_cps]; exact hd.2.1))
  have s2 : (fIfS (fOr (fTest (f2 semEq (fVar 1) (fC (.str "")))) (fNot (fTru (fOwn 2 m_holds_only (fCons (fVar 1) (fCons (fC (.str "0123456789")) fNil)))))) (fRet (fC (.bl false))) fNext) [some (.str (fig n)), some (.str (figA n))] L = some (.nx [some (.str (fig n)), some (.str (figA n))], L') := by
    have t1 : (fTest (f2 semEq (fVar 1) (fC (.str "")))) [some (.str (fig n)), some (.str (figA n))] L = some (false, L) := by
      rw [fTest_eq, f2_eq]
      simp only [fVar_eq, fC_eq, List.getElem?_cons_zero, List.getElem?_cons_succ, Option.join_some, Option.map_some, Option.bind_some, semEq_str (figA_asc n) asc_empty, hne]
    have t2 : (fOwn 2 m_holds_only (fCons (fVar 1) (fCons (fC (.str "0123456789")) fNil))) [some (.str (fig n)), some (.str (figA n))] L = some (.bl true, L') := own2 (u := .str (figA n)) rfl rfl e
    rw [fIfS_eq, fOr_eq, t1]
    simp only [Option.bind_some, Bool.false_eq_true, if_false, fNot_eq, fTru_eq, t2, truU_bl, Option.map_some, Bool.not_true, fNext_eq]
  refine ⟨L', fn1 (n := 1) ?_, g⟩
  obtain ⟨c, r, ec, h1, h2⟩ := dig_head n.natAbs
  have hix : ∀ L, semIx (.str (figA n)) (.int 0) L = some (.str ⟨#[c]⟩, L) := fun L => by
    rw [semIx_str, if_pos (small_of (by omega)), figA_cps, ec, atI_of (by omega) (by simp)]
    rfl
  have hc0 : (decide ((⟨#[c]⟩ : Str) = "0")) = decide (c = 48) := by
    rw [Bool.eq_iff_iff, decide_eq_true_eq, decide_eq_true_eq]
    constructor
    · intro q
      have : ([c] : List Nat) = (Str.cps "0").toList := by rw [← q]
      rw [zero_cps] at this
      simpa using this
    · intro q
      apply str_ext
      rw [zero_cps, q]
  have s3 : (fOrV (f2 semNe (f2 semIx (fVar 1) (fC (.int 0))) (fC (.str "0"))) (f2 semEq (fVar 0) (fC (.str "0")))) [some (.str (fig n)), some (.str (figA n))] L' = some (.bl true, L') := by
    have t1 : (f2 semNe (f2 semIx (fVar 1) (fC (.int 0))) (fC (.str "0"))) [some (.str (fig n)), some (.str (figA n))] L' = some (.bl (!decide (c = 48)), L') := by
      rw [f2_eq, f2_eq]
      simp only [fVar_eq, fC_eq, List.getElem?_cons_zero, List.getElem?_cons_succ, Option.join_some, Option.map_some, Option.bind_some, hix, semNe_str (asc_one (show c < 128 by omega)) asc_zero, hc0]
    rw [fOrV_eq, t1]
    by_cases q : c = 48
    · have hz : n.natAbs = 0 := by
        by_cases z : n.natAbs = 0
        · exact z
        · obtain ⟨c', r', e', hc'⟩ := hd.2.2.2 z
          rw [ec] at e'
          injection e' with a b
          exact absurd (a.symm.trans q) hc'
      have hn0 : n = 0 := by omega
      have hf0 : fig n = "0" := by
        apply str_ext
        rw [fig_cps, zero_cps, hn0, if_neg (by decide)]
        show [] ++ dig 0 = [48]
        rw [dig_lt (by decide)]; rfl
      have t2 : (f2 semEq (fVar 0) (fC (.str "0"))) [some (.str (fig n)), some (.str (figA n))] L' = some (.bl true, L') := by
        rw [f2_eq]
        simp only [fVar_eq, fC_eq, List.getElem?_cons_zero, Option.join_some, Option.map_some, Option.bind_some, semEq_str (fig_asc n) asc_zero, decide_eq_true hf0]
      rw [decide_eq_true q]
      simp only [Option.bind_some, Bool.not_true, Bool.false_eq_true, if_false, t2]
    · rw [decide_eq_false q]
      simp only [Option.bind_some, Bool.not_false, if_true]
  unfold b_is_number
  show fSeq _ _ [some (.str (fig n)), none] L = _
  rw [fSeq_nx s1, fSeq_nx s2]
  exact ret_ok s3
end Lw
set_option Elab.async false
set_option linter.all false
set_option maxRecDepth 100000
set_option maxHeartbeats 1000000
namespace Lw
open PySem L2 MR
theorem sp_cps : (Str.cps " ").toList = [32] := by decide +kernel
theorem nl_cps : (Str.cps "\n").toList = [10] := by decide +kernel
theorem sp_eq : (" " : Str) = ⟨#[32]⟩ := str_ext (by rw [sp_cps])
theorem nl_eq : ("\n" : Str) = ⟨#[10]⟩ := str_ext (by rw [nl_cps])
noncomputable def line (p : Str × (Int × Int)) : Str := p.1 ++ " " ++ fig p.2.1 ++ " " ++ fig p.2.2
theorem line_join (p : Str × (Int × Int)) : line p = Str.join ⟨#[32]⟩ [p.1, fig p.2.1, fig p.2.2] := by
  apply str_ext
  rw [join_cons, join_cons]
  unfold line
  rw [app_cps, app_cps, app_cps, app_cps, sp_cps]
  show _ = p.1.cps.toList ++ 32 :: ((fig p.2.1).cps.toList ++ 32 :: (fig p.2.2).cps.toList)
  simp
theorem Nm.free {w : Str} (h : Nm w) {c : Nat} (hc : c < 97) : c ∉ w.cps.toList := fun q => by
  have := h.2.2 c q
  omega
theorem line_split {p : Str × (Int × Int)} (h : Nm p.1) : Txt.split (line p) " " = [p.1, fig p.2.1, fig p.2.2] := by
  rw [line_join, sp_eq]
  refine split_join (by simp) fun q hq => ?_
  rcases List.mem_cons.mp hq with e | hq
  · rw [e]; exact h.free (by decide)
  · rcases List.mem_cons.mp hq with e | hq
    · rw [e]; exact fig_free (by decide)
    · have e : q = fig p.2.2 := by simpa using hq
      rw [e]; exact fig_free (by decide)
theorem line_cps (p : Str × (Int × Int)) : (line p).cps.toList = p.1.cps.toList ++ 32 :: ((fig p.2.1).cps.toList ++ 32 :: (fig p.2.2).cps.toList) := by
  rw [line_join, join_cons, join_cons]; rfl
theorem line_len {p : Str × (Int × Int)} (h : Nm p.1) (hb : Pb p.2) : (line p).length ≤ 40 := by
  have h1 := fig_len (n := p.2.1) (by have := hb; unfold Pb at this; omega)
  have h2 := fig_len (n := p.2.2) (by have := hb; unfold Pb at this; omega)
  have h3 := h.2.1
  rw [len_cps] at h1 h2 h3
  rw [len_cps, line_cps]
  simp only [List.length_append, List.length_cons]
  omega
theorem point_in_ok {p : Str × (Int × Int)} (h : Nm p.1) (hb : Pb p.2) (L : UH) : ∃ L', m_point_in [.str (line p)] L = some (ptU p, L') ∧ Gw L L' := by
  have hb' : (-9999999999 ≤ p.2.1 ∧ p.2.1 ≤ 9999999999) ∧ (-9999999999 ≤ p.2.2 ∧ p.2.2 ≤ 9999999999) := by unfold Pb at hb; omega
  have hll := line_len h hb
  have ty : ∀ L, tyU "str" (.str (line p)) L = true := fun _ => rfl
  have hsp : (Str.length " " == 0) = false := by decide +kernel
  have s1 : (fAsg (fMeth "str" semSplit (fVar 0) (fCons (fC (.str " ")) fNil)) (gN 1)) [some (.str (line p)), none] L = some (.nx [some (.str (line p)), some (.ref L.length)], L ++ [.lst [.str p.1, .str (fig p.2.1), .str (fig p.2.2)]]) := by
    refine setN ?_
    rw [fMeth_eq]
    simp only [fVar_eq, fCons_eq, fC_eq, fNil_eq, List.getElem?_cons_zero, Option.join_some, Option.map_some, Option.bind_some, ty, if_true, semSplit]
    rw [if_pos ⟨hsp, by omega⟩, line_split h]
    rfl
  generalize hM : L ++ [HU.lst [.str p.1, .str (fig p.2.1), .str (fig p.2.2)]] = M at s1
  have hat : M[L.length]? = some (.lst [.str p.1, .str (fig p.2.1), .str (fig p.2.2)]) := by rw [← hM]; simp
  have gM : Gw L M := by rw [← hM]; exact Gw.new _ _
  obtain ⟨L1, e1, g1⟩ := is_name_ok h M
  obtain ⟨J2, e2, g2⟩ := is_number_ok hb'.1 L1
  obtain ⟨L3, e3, g3⟩ := is_number_ok hb'.2 J2
  have ix : ∀ (N : UH), Gw M N → ∀ (k : Nat) (w : Str), [U.str p.1, .str (fig p.2.1), .str (fig p.2.2)][k]? = some (.str w) → ∀ δ : UE, fVar 1 δ N = some (.ref L.length, N) → (f2 semIx (fVar 1) (fC (.int (k : Int)))) δ N = some (.str w, N) := by
    intro N gN k w hk δ hv
    have hs := seqAt_lst (gN.get hat)
    have hix : L2.atI [U.str p.1, .str (fig p.2.1), .str (fig p.2.2)] (k : Int) = some (.str w) := by
      rw [atI_of (by omega) (by have := (List.getElem?_eq_some_iff.mp hk).1; omega), Int.toNat_natCast]; exact hk
    rw [f2_eq, hv]
    simp only [Option.bind_some, fC_eq, semIx_ref, hs, hix, Option.map_some]
  have hlen : semLen [.ref L.length] M = some (.int 3, M) := by
    have := len_lst hat
    exact this
  have s2 : (fIfS (fOr (fTest (f2 semNe (fCall semLen (fCons (fVar 1) fNil)) (fC (.int 3)))) (fNot (fTru (fOwn 1 m_is_name (fCons (f2 semIx (fVar 1) (fC (.int 0))) fNil))))) (fRet (fC .non)) fNext) [some (.str (line p)), some (.ref L.length)] M = some (.nx [some (.str (line p)), some (.ref L.length)], L1) := by
    have t1 : (fTest (f2 semNe (fCall semLen (fCons (fVar 1) fNil)) (fC (.int 3)))) [some (.str (line p)), some (.ref L.length)] M = some (false, M) := by
      rw [fTest_eq, f2_eq]
      simp only [fCall_eq, fCons_eq, fNil_eq, fVar_eq, fC_eq, List.getElem?_cons_zero, List.getElem?_cons_succ, Option.join_some, Option.map_some, Option.bind_some, hlen, semNe_int, beq_self_eq_true, Bool.not_true]
    have t2 : (fOwn 1 m_is_name (fCons (f2 semIx (fVar 1) (fC (.int 0))) fNil)) [some (.str (line p)), some (.ref L.length)] M = some (.bl true, L1) := own1e (ix M (.refl _) 0 p.1 rfl _ rfl) e1
    rw [fIfS_eq, fOr_eq, t1]
    simp only [Option.bind_some, Bool.false_eq_true, if_false, fNot_eq, fTru_eq, t2, truU_bl, Option.map_some, Bool.not_true, fNext_eq]
  have s3 : (fIfS (fOr (fNot (fTru (fOwn 1 m_is_number (fCons (f2 semIx (fVar 1) (fC (.int 1))) fNil)))) (fNot (fTru (fOwn 1 m_is_number (fCons (f2 semIx (fVar 1) (fC (.int 2))) fNil))))) (fRet (fC .non)) fNext) [some (.str (line p)), some (.ref L.length)] L1 = some (.nx [some (.str (line p)), some (.ref L.length)], L3) := by
    have t1 : (fOwn 1 m_is_number (fCons (f2 semIx (fVar 1) (fC (.int 1))) fNil)) [some (.str (line p)), some (.ref L.length)] L1 = some (.bl true, J2) := own1e (ix L1 g1 1 (fig p.2.1) rfl _ rfl) e2
    have t2 : (fOwn 1 m_is_number (fCons (f2 semIx (fVar 1) (fC (.int 2))) fNil)) [some (.str (line p)), some (.ref L.length)] J2 = some (.bl true, L3) := own1e (ix J2 (g1.trans g2) 2 (fig p.2.2) rfl _ rfl) e3
    rw [fIfS_eq, fOr_eq, fNot_eq, fTru_eq, t1]
    simp only [Option.bind_some, truU_bl, Option.map_some, Bool.not_true, Bool.false_eq_true, if_false, fNot_eq, fTru_eq, t2, fNext_eq]
  have g13 := g1.trans (g2.trans g3)
  have it : ∀ {n : Int}, (-9999999999 ≤ n ∧ n ≤ 9999999999) → ∀ N : UH, semIntT [.str (fig n)] N = some (.int n, N) := fun hn N => by
    unfold semIntT
    have := fig_len hn
    simp only
    rw [if_pos (by omega), fig_int hn]
    rfl
  have sm3 : ∀ x y z : U, small [x, y, z].length = true := fun _ _ _ => small_of (by show 3 ≤ 16777216; decide)
  have s4 : (fTup (fCons (f2 semIx (fVar 1) (fC (.int 0))) (fCons (fCall semIntT (fCons (f2 semIx (fVar 1) (fC (.int 1))) fNil)) (fCons (fCall semIntT (fCons (f2 semIx (fVar 1) (fC (.int 2))) fNil)) fNil)))) [some (.str (line p)), some (.ref L.length)] L3 = some (ptU p, L3) := by
    have c0 := ix L3 g13 0 p.1 rfl [some (.str (line p)), some (.ref L.length)] rfl
    have c1 := ix L3 g13 1 (fig p.2.1) rfl [some (.str (line p)), some (.ref L.length)] rfl
    have c2 := ix L3 g13 2 (fig p.2.2) rfl [some (.str (line p)), some (.ref L.length)] rfl
    have d1 : (fCall semIntT (fCons (f2 semIx (fVar 1) (fC (.int 1))) fNil)) [some (.str (line p)), some (.ref L.length)] L3 = some (.int p.2.1, L3) := by
      rw [fCall_eq, fCons_eq]
      erw [c1]
      simp only [Option.bind_some, fNil_eq, Option.map_some, it hb'.1]
    have d2 : (fCall semIntT (fCons (f2 semIx (fVar 1) (fC (.int 2))) fNil)) [some (.str (line p)), some (.ref L.length)] L3 = some (.int p.2.2, L3) := by
      rw [fCall_eq, fCons_eq]
      erw [c2]
      simp only [Option.bind_some, fNil_eq, Option.map_some, it hb'.2]
    rw [fTup_eq, fCons_eq]
    erw [c0]
    rw [Option.bind_some, fCons_eq, d1, Option.bind_some, fCons_eq, d2]
    simp only [Option.bind_some, fNil_eq, Option.map_some]
    rw [if_pos (sm3 _ _ _)]
    rfl
  refine ⟨L3, fn1 (n := 1) ?_, gM.trans g13⟩
  unfold b_point_in
  show fSeq _ _ [some (.str (line p)), none] L = _
  rw [fSeq_nx s1]
  show fSeq _ _ [some (.str (line p)), some (.ref L.length)] M = _
  rw [fSeq_nx s2, fSeq_nx s3]
  exact ret_ok s4
end Lw
set_option Elab.async false
set_option linter.all false
set_option maxRecDepth 100000
set_option maxHeartbeats 1000000
namespace Lw
open PySem L2 MR
noncomputable def txt (ps : List (Str × (Int × Int))) : Str := Str.join ⟨#[10]⟩ (ps.map line)
theorem toS_strs : ∀ l : List Str, mapO toS (l.map U.str) = some l
  | [] => rfl
  | a :: l => by simp only [List.map_cons, mapO, toS, toS_strs l, Option.bind_some, Option.map_some]
theorem sum_le {β : Type} (f : β → Nat) (b : Nat) : ∀ l : List β, (∀ x ∈ l, f x ≤ b) → (l.map f).sum ≤ b * l.length
  | [], _ => by simp
  | x :: l, h => by
    have h1 := h x (List.mem_cons_self ..)
    have h2 := sum_le f b l fun y hy => h y (List.mem_cons_of_mem _ hy)
    rw [List.map_cons, List.sum_cons, List.length_cons, Nat.mul_succ]
    omega
theorem for_enm {fe : FE} {g : FG} {body : FS} {us : List U} {n : Nat} {δ : UE} {L L0 : UH} (P : Nat → UE → UH → Prop) (hfe : fe δ L = some (.ref n, L0)) (h0 : P 0 δ L0) (hl : ∀ k δ L, P k δ L → seqAt L n = some us) (step : ∀ (k : Nat) (u : U) δ L, us[k]? = some u → P k δ L → GoesOn g body (.tup [.int (k : Int), u]) δ L (P (k + 1))) :
    ∃ δ' L', fFor (fEnumA (fCons fe fNil)) g body δ L = some (.nx δ', L') ∧ P us.length δ' L' := by
  have hen : (enU us).length = us.length := by simp [enU]
  obtain ⟨δ', L', e, h⟩ := loop_any (it := .enm n) (g := g) (body := body) (us := enU us) P (fun k δ L _ hp => at_enm (hl k δ L hp))
    (fun k u δ L hu hp => by
      have : (enU us)[k]? = (us[k]?).map fun u => U.tup [.int (k : Int), u] := by simp [enU]
      rw [this] at hu
      obtain ⟨w, hw, rfl⟩ := Option.map_eq_some_iff.mp hu
      exact step k w δ L hw hp) (us.length + 1) 0 δ L0 (by omega) (by omega) h0
  rw [hen] at h
  refine ⟨δ', L', ?_, h⟩
  have hs := hl 0 δ L0 h0
  have hi : fEnumA (fCons fe fNil) δ L = some (.enm n, L0) := by
    unfold fEnumA
    simp only [fCons_eq, hfe, Option.bind_some, fNil_eq, Option.map_some, hs]
  rw [fFor_eq, hi]
  simp only [Option.bind_some, size_enm hs, hen]
  exact e
theorem join_mem (c : Nat) : ∀ (l : List Str) (x : Nat), x ∈ (Str.join ⟨#[c]⟩ l).cps.toList → x = c ∨ ∃ p ∈ l, x ∈ p.cps.toList
  | [], x, h => by
    have : (Str.join ⟨#[c]⟩ []).cps.toList = [] := rfl
    rw [this] at h; simp at h
  | [a], x, h => .inr ⟨a, List.mem_cons_self .., h⟩
  | a :: b :: r, x, h => by
    rw [join_cons] at h
    rcases List.mem_append.mp h with q | q
    · exact .inr ⟨a, List.mem_cons_self .., q⟩
    · rcases List.mem_cons.mp q with q | q
      · exact .inl q
      · rcases join_mem c (b :: r) x q with e | ⟨p, hp, hx⟩
        · exact .inl e
        · exact .inr ⟨p, List.mem_cons_of_mem _ hp, hx⟩
theorem line_chr {p : Str × (Int × Int)} (h : Nm p.1) {c : Nat} (hc : c ∈ (line p).cps.toList) : c < 128 ∧ c ≠ 10 := by
  rw [line_cps] at hc
  have hf : ∀ n : Int, c ∈ (fig n).cps.toList → c < 128 ∧ c ≠ 10 := fun n q => by
    refine ⟨?_, fun z => fig_free (n := n) (c := 10) (by decide) (z ▸ q)⟩
    have := fig_asc n
    unfold asc at this
    rw [← Array.all_toList, List.all_eq_true] at this
    exact of_decide_eq_true (this c q)
  rcases List.mem_append.mp hc with q | q
  · have := h.2.2 c q
    omega
  · rcases List.mem_cons.mp q with q | q
    · omega
    · rcases List.mem_append.mp q with q | q
      · exact hf _ q
      · rcases List.mem_cons.mp q with q | q
        · omega
        · exact hf _ q
theorem txt_asc {ps : List (Str × (Int × Int))} (h : ∀ p ∈ ps, Nm p.1) : asc (txt ps) := asc_of fun c hc => by
  rcases join_mem 10 _ c hc with q | ⟨l, hl, q⟩
  · omega
  · obtain ⟨p, hp, rfl⟩ := List.mem_map.mp hl
    exact (line_chr (h p hp) q).1
theorem txt_len {ps : List (Str × (Int × Int))} (P : Pts ps) : (txt ps).length ≤ 3000 := by
  have h := StrLaws.join_length_le ⟨#[10]⟩ (ps.map line)
  have hsum : (((ps.map line).map (·.length)).sum) ≤ 40 * ps.length := by
    rw [List.map_map]
    exact sum_le _ 40 ps fun p hp => line_len (P.nm p hp) (P.pb p hp)
  have h1 : Str.length (⟨#[10]⟩ : Str) = 1 := rfl
  have hlen := P.len
  rw [h1, List.length_map] at h
  unfold txt
  omega
theorem txt_split {ps : List (Str × (Int × Int))} (h : ∀ p ∈ ps, Nm p.1) (hne : ps ≠ []) : Txt.split (txt ps) "\n" = ps.map line := by
  rw [nl_eq]
  refine split_join (by simpa using hne) fun l hl => ?_
  obtain ⟨p, hp, rfl⟩ := List.mem_map.mp hl
  exact fun q => (line_chr (h p hp) q).2 rfl
theorem txt_ne {ps : List (Str × (Int × Int))} (h : ∀ p ∈ ps, Nm p.1) (hne : ps ≠ []) : txt ps ≠ "" := fun q => by
  have h1 : (txt ps).cps.toList = [] := by rw [q, empty_cps]
  cases ps with
  | nil => exact hne rfl
  | cons p r =>
    have hl : (line p).cps.toList ≠ [] := by rw [line_cps]; simp
    cases r with
    | nil => exact hl h1
    | cons p' r' =>
      have : (txt (p :: p' :: r')).cps.toList = (line p).cps.toList ++ 10 :: (Str.join ⟨#[10]⟩ ((p' :: r').map line)).cps.toList := join_cons 10 _ _ _
      rw [this] at h1
      simp at h1
noncomputable def kn (ps : List (Str × (Int × Int))) : List (L2.Key × U) := ps.map fun p => (.inr p.1, .bl true)
theorem kn_val : ∀ (ps : List (Str × (Int × Int))) (w : Str), w ∉ ps.map (·.1) → valU (kn ps) (.inr w) = none
  | [], w, _ => rfl
  | p :: ps, w, h => by
    have h1 : p.1 ≠ w := fun q => h (by rw [← q]; simp)
    have h2 := kn_val ps w fun q => h (by rw [List.map_cons]; exact List.mem_cons_of_mem _ q)
    rw [← h2]
    show valU ((.inr p.1, .bl true) :: kn ps) (.inr w) = _
    unfold valU
    rw [List.find?_cons]
    have : (decide ((Sum.inr p.1 : L2.Key) = Sum.inr w)) = false := decide_eq_false fun q => h1 (by injection q)
    rw [this]
theorem kn_put {ps : List (Str × (Int × Int))} {p : Str × (Int × Int)} (h : p.1 ∉ ps.map (·.1)) : putD (kn ps) (.inr p.1) (.bl true) = kn (ps ++ [p]) := by
  have hv := kn_val ps p.1 h
  have ha : ((kn ps).any fun kv => decide (kv.1 = (.inr p.1 : L2.Key))) = false := by
    rw [← find_any]
    unfold valU at hv
    cases q : (kn ps).find? (fun kv => decide (kv.1 = (.inr p.1 : L2.Key))) with
    | none => rfl
    | some z => rw [q] at hv; cases hv
  unfold putD
  rw [if_neg (by rw [ha]; simp)]
  simp [kn]
theorem read_turn {M : UH} {ps : List (Str × (Int × Int))} {p : Str × (Int × Int)} {k ℓ d : Nat} (h : Nm p.1) (hb : Pb p.2) (hnew : p.1 ∉ ps.map (·.1)) (hl : M[ℓ]? = some (.lst (ps.map ptU))) (hd : M[d]? = some (.dic (kn ps))) (hne : ℓ ≠ d) (hlen : ps.length ≤ 1000) (x0 x5 : Option U) :
    ∃ (M1 : UH), Gw M M1 ∧ b_read_points_1 [x0, some (.ref ℓ), some (.ref d), some (.int (k : Int)), some (.str (line p)), x5] M = some (.nx [x0, some (.ref ℓ), some (.ref d), some (.int (k : Int)), some (.str (line p)), some (ptU p)], (M1.set d (.dic (kn (ps ++ [p])))).set ℓ (.lst ((ps ++ [p]).map ptU))) := by
  obtain ⟨M1, e1, g1⟩ := point_in_ok h hb M
  refine ⟨M1, g1, ?_⟩
  have s1 : (fAsg (fOwn 1 m_point_in (fCons (fVar 4) fNil)) (gN 5)) [x0, some (.ref ℓ), some (.ref d), some (.int (k : Int)), some (.str (line p)), x5] M = some (.nx [x0, some (.ref ℓ), some (.ref d), some (.int (k : Int)), some (.str (line p)), some (ptU p)], M1) := setN (own1 rfl e1)
  have hd1 := g1.get hd
  have hl1 := g1.get hl
  have hix : ∀ N, (f2 semIx (fVar 5) (fC (.int 0))) [x0, some (.ref ℓ), some (.ref d), some (.int (k : Int)), some (.str (line p)), some (ptU p)] N = some (.str p.1, N) := fun _ => rfl
  have hdic : dicAt M1 d = some (kn ps) := by unfold dicAt; rw [hd1]
  have s2 : (fIfS (fOr (fTest (f2 (semIs false) (fVar 5) (fC .non))) (fTest (f2 semDIn (f2 semIx (fVar 5) (fC (.int 0))) (fVar 2)))) fNever fNext) [x0, some (.ref ℓ), some (.ref d), some (.int (k : Int)), some (.str (line p)), some (ptU p)] M1 = some (.nx [x0, some (.ref ℓ), some (.ref d), some (.int (k : Int)), some (.str (line p)), some (ptU p)], M1) := by
    have t1 : (fTest (f2 (semIs false) (fVar 5) (fC .non))) [x0, some (.ref ℓ), some (.ref d), some (.int (k : Int)), some (.str (line p)), some (ptU p)] M1 = some (false, M1) := rfl
    have t2 : (fTest (f2 semDIn (f2 semIx (fVar 5) (fC (.int 0))) (fVar 2))) [x0, some (.ref ℓ), some (.ref d), some (.int (k : Int)), some (.str (line p)), some (ptU p)] M1 = some (false, M1) := by
      rw [fTest_eq, f2_eq, hix]
      simp only [Option.bind_some, fVar_eq, List.getElem?_cons_zero, List.getElem?_cons_succ, Option.join_some, Option.map_some, semDIn, toK, hdic, kn_val ps p.1 hnew, Option.isSome_none]
    rw [fIfS_eq, fOr_eq, t1]
    simp only [Option.bind_some, Bool.false_eq_true, if_false, t2, fNext_eq]
  have hkl : (kn ps).length < 1000000 := by unfold kn; rw [List.length_map]; omega
  have s3 : (fDPut (fVar 2) (f2 semIx (fVar 5) (fC (.int 0))) (fC (.bl true))) [x0, some (.ref ℓ), some (.ref d), some (.int (k : Int)), some (.str (line p)), some (ptU p)] M1 = some (.nx [x0, some (.ref ℓ), some (.ref d), some (.int (k : Int)), some (.str (line p)), some (ptU p)], M1.set d (.dic (kn (ps ++ [p])))) := by
    unfold fDPut
    simp only [fC_eq, Option.bind_some, fVar_eq, List.getElem?_cons_zero, List.getElem?_cons_succ, Option.join_some, Option.map_some, hix, toK, hdic, kn_put hnew]
    rw [if_pos hkl]
  have hl2 : (M1.set d (.dic (kn (ps ++ [p]))))[ℓ]? = some (.lst (ps.map ptU)) := by rw [List.getElem?_set_ne (Ne.symm hne)]; exact hl1
  have ap := append_ok (ptU p) hl2 (by rw [List.length_map]; omega)
  have hx : ps.map ptU ++ [ptU p] = (ps ++ [p]).map ptU := by simp
  rw [hx] at ap
  have ty := tyU_lst hl2
  have s4 : (fDrop (fMeth "list" semAppend (fVar 1) (fCons (fVar 5) fNil))) [x0, some (.ref ℓ), some (.ref d), some (.int (k : Int)), some (.str (line p)), some (ptU p)] (M1.set d (.dic (kn (ps ++ [p])))) = some (.nx [x0, some (.ref ℓ), some (.ref d), some (.int (k : Int)), some (.str (line p)), some (ptU p)], (M1.set d (.dic (kn (ps ++ [p])))).set ℓ (.lst ((ps ++ [p]).map ptU))) := by
    simp only [fDrop_eq, fMeth_eq, fVar_eq, fCons_eq, fNil_eq, List.getElem?_cons_succ, List.getElem?_cons_zero, Option.join_some, Option.map_some, Option.bind_some, ty, if_true, ap]
  unfold b_read_points_1
  rw [fSeq_nx s1, fSeq_nx s2, fSeq_nx s3, s4]
theorem read_ok {ps : List (Str × (Int × Int))} (P : Pts ps) (L : UH) : ∃ L', m_read_points [.str (txt ps)] L = some (.tup (ps.map ptU), L') ∧ Gw L L' := by
  have hlen := P.len
  by_cases hne : ps = []
  · subst hne
    refine ⟨L, fn1 (n := 5) ?_, .refl _⟩
    have he : txt [] = "" := str_ext (by rw [empty_cps]; rfl)
    have sm0 : small ([] : List U).length = true := small_of (by show 0 ≤ 16777216; decide)
    have s1 : (fIfS (fTest (f2 semEq (fVar 0) (fC (.str "")))) (fRet (fTup fNil)) fNext) [some (.str (txt [])), none, none, none, none, none] L = some (.rt (.tup []), L) := by
      rw [he, fIfS_eq, fTest_eq, f2_eq]
      simp only [fVar_eq, fC_eq, List.getElem?_cons_zero, Option.join_some, Option.map_some, Option.bind_some, semEq_str asc_empty asc_empty, decide_true, if_true]
      refine ret_ok ?_
      rw [fTup_eq, fNil_eq, Option.bind_some, if_pos sm0]
    unfold b_read_points
    show fSeq _ _ [some (.str (txt [])), none, none, none, none, none] L = _
    rw [fSeq_eq, s1]
    rfl
  have ha := txt_asc P.nm
  have hl := txt_len P
  have s1 : (fIfS (fTest (f2 semEq (fVar 0) (fC (.str "")))) (fRet (fTup fNil)) fNext) [some (.str (txt ps)), none, none, none, none, none] L = some (.nx [some (.str (txt ps)), none, none, none, none, none], L) := by
    rw [fIfS_eq, fTest_eq, f2_eq]
    simp only [fVar_eq, fC_eq, List.getElem?_cons_zero, Option.join_some, Option.map_some, Option.bind_some, semEq_str ha asc_empty, decide_eq_false (txt_ne P.nm hne), Bool.false_eq_true, if_false, fNext_eq]
  have sm0 : small ([] : List U).length = true := small_of (by show 0 ≤ 16777216; decide)
  have s2 : (fAsg (fLst fNil) (gN 1)) [some (.str (txt ps)), none, none, none, none, none] L = some (.nx [some (.str (txt ps)), some (.ref L.length), none, none, none, none], L ++ [.lst []]) := by
    refine setN ?_
    rw [fLst_eq, fNil_eq, Option.bind_some, if_pos sm0]
  have hl1 : (L ++ [HU.lst []]).length = L.length + 1 := by simp
  have s3 : (fAsg fDNew (gN 2)) [some (.str (txt ps)), some (.ref L.length), none, none, none, none] (L ++ [.lst []]) = some (.nx [some (.str (txt ps)), some (.ref L.length), some (.ref (L.length + 1)), none, none, none], L ++ [.lst []] ++ [.dic []]) := by
    refine setN ?_
    unfold fDNew
    rw [hl1]
  generalize hM : L ++ [HU.lst []] ++ [HU.dic []] = M at s3
  have gM : Gw L M := by rw [← hM, List.append_assoc]; exact Gw.new _ _
  have hML : M.length = L.length + 2 := by rw [← hM]; simp
  have hm0 : M[L.length]? = some (.lst []) := by rw [← hM]; simp
  have hm1 : M[L.length + 1]? = some (.dic []) := by rw [← hM, ← hl1]; simp
  have hsp : (Str.length "\n" == 0) = false := by decide +kernel
  have ty : ∀ L, tyU "str" (.str (txt ps)) L = true := fun _ => rfl
  have hfe : (fMeth "str" semSplit (fVar 0) (fCons (fC (.str "\n")) fNil)) [some (.str (txt ps)), some (.ref L.length), some (.ref (L.length + 1)), none, none, none] M = some (.ref M.length, M ++ [.lst ((ps.map line).map U.str)]) := by
    rw [fMeth_eq]
    simp only [fVar_eq, fCons_eq, fC_eq, fNil_eq, List.getElem?_cons_zero, Option.join_some, Option.map_some, Option.bind_some, ty, if_true, semSplit]
    rw [if_pos ⟨hsp, by omega⟩, txt_split P.nm hne]
  obtain ⟨δ', L', e, Q⟩ := for_enm (us := (ps.map line).map U.str) (g := (MR.gTup 2 (MR.gCons (gN 3) (MR.gCons (gN 4) MR.gNil)))) (body := b_read_points_1)
    (fun k δ' L' => ∃ y3 y4 y5, δ' = [some (.str (txt ps)), some (.ref L.length), some (.ref (L.length + 1)), y3, y4, y5] ∧ L'[L.length]? = some (.lst ((ps.take k).map ptU)) ∧ L'[L.length + 1]? = some (.dic (kn (ps.take k))) ∧ L'[M.length]? = some (.lst ((ps.map line).map U.str)) ∧ Gw L L')
    hfe ⟨none, none, none, rfl, by rw [List.getElem?_append_left (by omega)]; exact hm0, by rw [List.getElem?_append_left (by omega)]; exact hm1, by simp, gM.trans (Gw.new _ _)⟩
    (fun k δ L'' ⟨_, _, _, _, _, _, h, _⟩ => seqAt_lst h)
    (fun k u δ N hu ⟨y3, y4, y5, hδ, h1, h2, h3, g⟩ => by
      subst hδ
      rw [List.map_map, List.getElem?_map] at hu
      obtain ⟨p, hp, rfl⟩ := Option.map_eq_some_iff.mp hu
      have hmem := List.mem_of_getElem? hp
      have hk : k < ps.length := (List.getElem?_eq_some_iff.mp hp).1
      have htk : ps.take (k + 1) = ps.take k ++ [p] := by rw [List.take_add_one, hp]; rfl
      have hnew : p.1 ∉ (ps.take k).map (·.1) := by
        have hn : ((ps.take (k + 1)).map (·.1)).Nodup := by
          rw [List.map_take]; exact P.nd.sublist (List.take_sublist _ _)
        rw [htk, List.map_append, List.nodup_append] at hn
        exact fun q => hn.2.2 _ q _ (by simp) rfl
      obtain ⟨M1, g1, et⟩ := read_turn (M := N) (ps := ps.take k) (p := p) (k := k) (ℓ := L.length) (d := L.length + 1) (P.nm p hmem) (P.pb p hmem) hnew h1 h2 (by omega) (by rw [List.length_take]; omega) (some (.str (txt ps))) y5
      rw [← htk] at et
      have l1 := (List.getElem?_eq_some_iff.mp (g1.get h1)).1
      have l2 := (List.getElem?_eq_some_iff.mp (g1.get h2)).1
      refine ⟨[some (.str (txt ps)), some (.ref L.length), some (.ref (L.length + 1)), some (.int (k : Int)), some (.str (line p)), y5], N, rfl, _, _, .inl et, _, _, _, rfl, ?_, ?_, ?_, ?_⟩
      · rw [List.getElem?_set_self (by simp; omega)]
      · rw [List.getElem?_set_ne (by omega), List.getElem?_set_self l2]
      · rw [List.getElem?_set_ne (by omega), List.getElem?_set_ne (by omega)]; exact g1.get h3
      · exact ((g.trans g1).set (by omega) _).set (by omega) _)
  obtain ⟨y3, y4, y5, hδ, h1, h2, h3, g⟩ := Q
  rw [List.length_map, List.length_map, List.take_of_length_le (Nat.le_refl _)] at h1
  rw [hδ] at e
  refine ⟨L', fn1 (n := 5) ?_, g⟩
  unfold b_read_points
  show fSeq _ _ [some (.str (txt ps)), none, none, none, none, none] L = _
  rw [fSeq_nx s1, fSeq_nx s2, fSeq_nx s3, fSeq_nx e]
  refine ret_ok ?_
  simp only [fCall_eq, fCons_eq, fNil_eq, fVar_eq, List.getElem?_cons_succ, List.getElem?_cons_zero, Option.join_some, Option.map_some, Option.bind_some, semTuple, seqAt_lst h1]
end Lw
set_option Elab.async false
set_option linter.all false
set_option maxRecDepth 100000
set_option maxHeartbeats 1000000
namespace Lw
open PySem L2 MR
theorem digc : ∀ d : Nat, d < 10 → (Nat.digitChar d).toNat = 48 + d := by decide
theorem dig_to (m : Nat) : dig m = (Nat.toDigits 10 m).map Char.toNat := by
  induction m using Nat.strongRecOn with
  | _ m ih =>
    by_cases h : m < 10
    · rw [Nat.toDigits_of_lt_base h, dig_lt h, List.map_cons, List.map_nil, digc m h]
    · have hm : m % 10 < 10 := Nat.mod_lt m (by decide)
      have t : Nat.toDigits 10 (m / 10) ++ Nat.toDigits 10 (m % 10) = Nat.toDigits 10 (10 * (m / 10) + m % 10) := Nat.toDigits_append_toDigits (by decide) (by omega) hm
      rw [Nat.div_add_mod] at t
      rw [← t, List.map_append, Nat.toDigits_of_lt_base hm, dig_ge h, ih (m / 10) (by omega), List.map_cons, List.map_nil, digc _ hm]
theorem str_of (s : String) : (Str.ofString s).cps.toList = s.toList.map Char.toNat := by rw [Str.ofString_eq_toList, List.toList_toArray]
theorem num_fig (n : Int) : numT n = fig n := by
  apply str_ext
  unfold numT
  rw [str_of, fig_cps, dig_to]
  cases n with
  | ofNat m =>
    rw [if_neg (by show ¬ ((m : Nat) : Int) < 0; omega)]
    show (Nat.repr m).toList.map Char.toNat = [] ++ _
    rw [Nat.toList_repr]; rfl
  | negSucc m =>
    rw [if_pos (by show Int.negSucc m < 0; omega)]
    show ("-" ++ Nat.repr (m + 1)).toList.map Char.toNat = _
    rw [String.toList_append, List.map_append, Nat.toList_repr]
    rfl
theorem fmt_fig {n : Int} (h : -9999999999 ≤ n ∧ n ≤ 9999999999) : fmtOk n = true := by
  unfold fmtOk
  simp only [Bool.and_eq_true, decide_eq_true_eq]
  omega
theorem lapp (a b : Str) : (a ++ b).length = a.length + b.length := by rw [len_cps, app_cps, List.length_append, ← len_cps, ← len_cps]
theorem shown_e {p : Str × (Int × Int)} (h : Nm p.1) (hb : Pb p.2) (L : UH) : b_points_shown_1e [some (.str p.1), some (.int p.2.1), some (.int p.2.2)] L = some (.str (line p), L) := by
  have hb' : (-9999999999 ≤ p.2.1 ∧ p.2.1 ≤ 9999999999) ∧ (-9999999999 ≤ p.2.2 ∧ p.2.2 ≤ 9999999999) := hb
  have f1 := fig_len hb'.1
  have f2' := fig_len hb'.2
  have h3 := h.2.1
  have hs : Str.length " " = 1 := by rw [len_cps, sp_cps]; rfl
  have c0 : (fFmt (fVar 0)) [some (.str p.1), some (.int p.2.1), some (.int p.2.2)] L = some (.str p.1, L) := by
    unfold fFmt
    simp only [fVar_eq, List.getElem?_cons_zero, Option.join_some, Option.map_some, Option.bind_some]
    rw [if_pos (small_of (by omega))]
  have c1 : (fFmt (fVar 1)) [some (.str p.1), some (.int p.2.1), some (.int p.2.2)] L = some (.str (fig p.2.1), L) := by
    unfold fFmt
    simp only [fVar_eq, List.getElem?_cons_zero, List.getElem?_cons_succ, Option.join_some, Option.map_some, Option.bind_some]
    rw [if_pos (fmt_fig hb'.1), num_fig]
  have c2 : (fFmt (fVar 2)) [some (.str p.1), some (.int p.2.1), some (.int p.2.2)] L = some (.str (fig p.2.2), L) := by
    unfold fFmt
    simp only [fVar_eq, List.getElem?_cons_zero, List.getElem?_cons_succ, Option.join_some, Option.map_some, Option.bind_some]
    rw [if_pos (fmt_fig hb'.2), num_fig]
  have he : Str.empty ++ p.1 = p.1 := str_ext (by rw [app_cps]; rfl)
  unfold b_points_shown_1e fJoined
  simp only [goJ, c0, c1, c2, fC_eq, Option.bind_some, he]
  rw [if_pos (small_of (by omega)), if_pos (small_of (by rw [lapp]; omega)), if_pos (small_of (by rw [lapp, lapp]; omega)), if_pos (small_of (by rw [lapp, lapp, lapp]; omega)), if_pos (small_of (by rw [lapp, lapp, lapp, lapp]; omega))]
  rfl
structure Ptl (ps : List (Str × (Int × Int))) : Prop where
  nm : ∀ p ∈ ps, Nm p.1
  pb : ∀ p ∈ ps, Pb p.2
  len : ps.length ≤ 60
theorem Pts.ptl {ps : List (Str × (Int × Int))} (P : Pts ps) : Ptl ps := ⟨P.nm, P.pb, P.len⟩
theorem Ptl.take {ps : List (Str × (Int × Int))} (P : Ptl ps) (k : Nat) : Ptl (ps.take k) := ⟨fun p hp => P.nm p (List.mem_of_mem_take hp), fun p hp => P.pb p (List.mem_of_mem_take hp), by have := P.len; rw [List.length_take]; omega⟩
theorem Ptl.drop {ps : List (Str × (Int × Int))} (P : Ptl ps) (k : Nat) : Ptl (ps.drop k) := ⟨fun p hp => P.nm p (List.mem_of_mem_drop hp), fun p hp => P.pb p (List.mem_of_mem_drop hp), by have := P.len; rw [List.length_drop]; omega⟩
theorem shown_ok {ps : List (Str × (Int × Int))} (P : Ptl ps) (L : UH) : ∃ L', m_points_shown [.tup (ps.map ptU)] L = some (.str (txt ps), L') ∧ Gw L L' := by
  obtain ⟨x, e⟩ := comp_grow (ix := [none, none, none]) (fi := fSeqI (fVar 0)) (it := .seq (ps.map ptU)) (g := (MR.gTup 3 (MR.gCons (gN 0) (MR.gCons (gN 1) (MR.gCons (gN 2) MR.gNil))))) (tt := none) (fe := b_points_shown_1e) (δ := [some (.tup (ps.map ptU))]) (L := L) (L0 := L)
    ps ptU (fun _ => true) (fun p => .str (line p)) (fun δ => ∃ a b c, δ = [a, b, c]) (by simp [iSeqU]) (by simp [IU.size]) (by have := P.len; omega) ⟨none, none, none, rfl⟩
    (fun k x => rfl)
    (fun p δ x hp ⟨a, b, c, hδ⟩ => by
      subst hδ
      refine ⟨[some (.str p.1), some (.int p.2.1), some (.int p.2.2)], rfl, ⟨_, _, _, rfl⟩, [], by simp [testU], fun _ => ⟨[], ?_⟩⟩
      rw [List.append_nil, List.append_nil]; exact shown_e (P.nm p hp) (P.pb p hp) (L ++ x))
  have hff : List.filter (fun _ => true) ps = ps := List.filter_eq_self.mpr (fun _ _ => rfl)
  have hmm : ps.map (fun p => U.str (line p)) = (ps.map line).map U.str := by simp
  rw [hff, hmm] at e
  have hat : (L ++ x ++ [HU.lst ((ps.map line).map U.str)])[(L ++ x).length]? = some (.lst ((ps.map line).map U.str)) := by simp
  have hnl : Str.length "\n" = 1 := by rw [len_cps, nl_cps]; rfl
  have hsum : (((ps.map line).map (·.length)).sum) ≤ 40 * ps.length := by
    rw [List.map_map]
    exact sum_le _ 40 ps fun p hp => line_len (P.nm p hp) (P.pb p hp)
  have hlen := P.len
  have hj : semJoin (.str "\n") [.ref (L ++ x).length] (L ++ x ++ [HU.lst ((ps.map line).map U.str)]) = some (.str (txt ps), L ++ x ++ [HU.lst ((ps.map line).map U.str)]) := by
    unfold semJoin
    simp only [lstAt_lst hat, Option.bind_some, toS_strs]
    rw [if_pos ⟨by omega, by rw [List.length_map]; omega⟩]
    have : Txt.join "\n" (ps.map line) = txt ps := by
      show Builtin.Str.glued "\n" (ps.map line) = _
      rw [StrLaws.glued_eq_join, nl_eq]; rfl
    rw [this]
  have ty : ∀ L, tyU "str" (.str "\n") L = true := fun _ => rfl
  refine ⟨L ++ x ++ [HU.lst ((ps.map line).map U.str)], fn1 (n := 0) ?_, ⟨x ++ [HU.lst ((ps.map line).map U.str)], by rw [List.append_assoc]⟩⟩
  unfold b_points_shown
  show fRet _ [some (.tup (ps.map ptU))] L = _
  refine ret_ok ?_
  rw [fMeth_eq, fC_eq, Option.bind_some]
  simp only [ty, if_true]
  rw [fCons_eq, e]
  simp only [Option.bind_some, fNil_eq, Option.map_some, hj]
end Lw
set_option Elab.async false
set_option linter.all false
set_option maxRecDepth 100000
set_option maxHeartbeats 1000000
namespace Lw
open PySem L2 MR
noncomputable def below (p q : Int × Int) : Bool := decide (p.1 ≤ q.1) && (decide (p.2 ≤ q.2) && !(p.1 == q.1 && (p.2 == q.2 && true)))
theorem ne_pr (p q : Int × Int) (L : UH) : semNe (pr p) (pr q) L = some (.bl (!(p.1 == q.1 && (p.2 == q.2 && true))), L) := rfl
theorem lies_ok (p q : Int × Int) (L : UH) : ∃ x, m_lies_below [pr p, pr q] L = some (.bl (below p q), L ++ x) := by
  have hz : (fZipT (fCons (fVar 0) (fCons (fVar 1) fNil))) [some (pr p), some (pr q)] L = some (.seq ([(p.1, q.1), (p.2, q.2)].map fun a => .tup [.int a.1, .int a.2]), L) := rfl
  obtain ⟨x, e⟩ := comp_grow (ix := [none, none]) (fi := fZipT (fCons (fVar 0) (fCons (fVar 1) fNil))) (it := .seq ([(p.1, q.1), (p.2, q.2)].map fun a => .tup [.int a.1, .int a.2])) (g := (MR.gTup 2 (MR.gCons (gN 0) (MR.gCons (gN 1) MR.gNil)))) (tt := none) (fe := b_lies_below_1e) (δ := [some (pr p), some (pr q)]) (L := L) (L0 := L)
    [(p.1, q.1), (p.2, q.2)] (fun a => .tup [.int a.1, .int a.2]) (fun _ => true) (fun a => .bl (decide (a.1 ≤ a.2))) (fun δ => ∃ a b, δ = [a, b]) hz (by simp [IU.size]) (by simp) ⟨none, none, rfl⟩
    (fun k x => rfl)
    (fun a δ x _ ⟨y, z, hδ⟩ => by
      subst hδ
      refine ⟨_, rfl, ⟨_, _, rfl⟩, [], by simp [testU], fun _ => ⟨[], ?_⟩⟩
      simp [b_lies_below_1e])
  have hf : List.filter (fun _ : Int × Int => true) [(p.1, q.1), (p.2, q.2)] = [(p.1, q.1), (p.2, q.2)] := by simp
  rw [hf] at e
  have q1 : seqAt (L ++ x ++ [HU.lst ([(p.1, q.1), (p.2, q.2)].map fun a => .bl (decide (a.1 ≤ a.2)))]) (L ++ x).length = some ([(p.1, q.1), (p.2, q.2)].map fun a => U.bl (decide (a.1 ≤ a.2))) := seqAt_lst (by simp)
  have ha := all_lst _ _ q1
  by_cases h : (!(p.1 == q.1 && (p.2 == q.2 && true))) = true
  · refine ⟨x ++ [HU.lst ([(p.1, q.1), (p.2, q.2)].map fun a => .bl (decide (a.1 ≤ a.2)))], ?_⟩
    have hb : below p q = List.all [(p.1, q.1), (p.2, q.2)] fun a => decide (a.1 ≤ a.2) := by
      simp only [below, h, List.all_cons, List.all_nil]
    have hn := ne_pr p q L
    rw [h] at hn
    unfold m_lies_below fnU b_lies_below
    simp only [List.length_cons, List.length_nil, if_true, List.map_cons, List.map_nil, Nat.sub_self, List.replicate_zero, List.append_nil, fRet_eq, fAndV_eq, f2_eq, fVar_eq, List.getElem?_cons_zero, List.getElem?_cons_succ, Option.join_some, Option.map_some, Option.bind_some, hn, fCall_eq, fCons_eq, fNil_eq]
    simp only [List.map_cons, List.map_nil] at e ha
    rw [hb, ← List.append_assoc]
    simp only [e, ha, Option.map_some, Option.bind_some]
  · have h' : (!(p.1 == q.1 && (p.2 == q.2 && true))) = false := by simpa using h
    refine ⟨[], ?_⟩
    have hb : below p q = false := by simp only [below, h', Bool.and_false]
    have hn := ne_pr p q L
    rw [h'] at hn
    unfold m_lies_below fnU b_lies_below
    simp only [List.length_cons, List.length_nil, if_true, List.map_cons, List.map_nil, Nat.sub_self, List.replicate_zero, List.append_nil, fRet_eq, fAndV_eq, f2_eq, fVar_eq, List.getElem?_cons_zero, List.getElem?_cons_succ, Option.join_some, Option.map_some, Option.bind_some, hn, hb]
    simp
theorem Gw.seq {L L' : UH} (h : Gw L L') {n : Nat} {us : List U} (e : seqAt L n = some us) : seqAt L' n = some us := by
  obtain ⟨x, rfl⟩ := h; exact seqAt_app e
theorem place_of_ok (p : Str × (Int × Int)) (L : UH) : m_place_of [ptU p] L = some (pr p.2, L) := by
  have h1 : L2.atI [U.str p.1, .int p.2.1, .int p.2.2] 1 = some (.int p.2.1) := rfl
  have h2 : L2.atI [U.str p.1, .int p.2.1, .int p.2.2] 2 = some (.int p.2.2) := rfl
  simp [m_place_of, fnU, b_place_of, ptU, h1, h2, small_of, pr]
theorem own2v {f : FN} {i j : Nat} {u w v : U} {δ : UE} {L L' : UH} (h : fVar i δ L = some (u, L)) (h2 : fVar j δ L = some (w, L)) (e : f [u, w] L = some (v, L')) : (fOwn 2 f (fCons (fVar i) (fCons (fVar j) fNil))) δ L = some (v, L') := by
  rw [fOwn_eq, fCons_eq, h, Option.bind_some, fCons_eq, h2]
  simp only [Option.bind_some, fNil_eq, Option.map_some, List.length_cons, List.length_nil, if_true, e]
theorem own3v {f : FN} {i j k : Nat} {u w t v : U} {δ : UE} {L L' : UH} (h : ∀ M, fVar i δ M = some (u, M)) (h2 : ∀ M, fVar j δ M = some (w, M)) (h3 : ∀ M, fVar k δ M = some (t, M)) (e : f [u, w, t] L = some (v, L')) : (fOwn 3 f (fCons (fVar i) (fCons (fVar j) (fCons (fVar k) fNil)))) δ L = some (v, L') := by
  rw [fOwn_eq, fCons_eq, h, Option.bind_some, fCons_eq, h2, Option.bind_some, fCons_eq, h3]
  simp only [Option.bind_some, fNil_eq, Option.map_some, List.length_cons, List.length_nil, if_true, e]
theorem lst0 (δ : UE) (M : UH) : (fLst fNil) δ M = some (.ref M.length, M ++ [.lst []]) := by
  rw [fLst_eq, fNil_eq, Option.bind_some, if_pos (small_of (by show 0 ≤ 16777216; decide))]
theorem cut_mid (l : List U) (f m : Nat) (h : f ≤ m) (hm : m ≤ l.length) : cutU l (some (f : Int)) (some (m : Int)) = (l.drop f).take (m - f) := by
  unfold cutU
  have e1 : min f l.length = f := by omega
  have e2 : min m l.length = m := by omega
  rw [HT.sIx_nat, HT.sIx_nat, e1, e2]
noncomputable def mid {β : Type} (l : List β) (f m : Nat) : List β := (l.drop f).take (m - f)
theorem mid_len {β : Type} (l : List β) (f m : Nat) (hm : m ≤ l.length) : (mid l f m).length = m - f := by unfold mid; simp; omega
theorem sl_mid {β : Type} {L : UH} {r f m : Nat} {qs : List β} (g : β → U) (h : L[r]? = some (.lst (qs.map g))) (hf : f ≤ m) (hm : m ≤ qs.length) : semSl (.ref r) (some (f : Int)) (some (m : Int)) L = some (.ref L.length, L ++ [.lst ((mid qs f m).map g)]) := by
  unfold semSl
  simp only [seqAt_lst h, Option.map_some]
  rw [cut_mid _ _ _ hf (by rw [List.length_map]; exact hm), ← List.map_drop, ← List.map_take]
  rfl
noncomputable def toL (q : Int × Int) : List Int := [q.1, q.2]
noncomputable def ofL (l : List Int) : Int × Int := (l.getD 0 0, l.getD 1 0)
theorem of_tos (qs : List (Int × Int)) : (qs.map toL).map ofL = qs := by rw [List.map_map]; exact (List.map_congr_left fun q _ => rfl).trans (List.map_id qs)
noncomputable def sp (qs : List (Int × Int)) : List (Int × Int) := (sortT (qs.map toL)).map ofL
theorem sp_perm (qs : List (Int × Int)) : (sp qs).Perm qs := by
  have := (sortT_perm (qs.map toL)).map ofL
  rwa [of_tos] at this
theorem sp_len (qs : List (Int × Int)) : (sp qs).length = qs.length := (sp_perm qs).length_eq
theorem sp_toL (qs : List (Int × Int)) : (sp qs).map toL = sortT (qs.map toL) := by
  unfold sp
  rw [List.map_map]
  refine (List.map_congr_left fun l hl => ?_).trans (List.map_id _)
  obtain ⟨q, _, rfl⟩ := List.mem_map.mp ((sortT_perm (qs.map toL)).mem_iff.mp hl)
  rfl
theorem toTIs (qs : List (Int × Int)) : mapO toTI (qs.map pr) = some (qs.map toL) := by
  induction qs with
  | nil => rfl
  | cons q qs ih =>
    have : toTI (pr q) = some (toL q) := rfl
    rw [List.map_cons, List.map_cons]
    simp only [mapO, this, ih, Option.bind_some, Option.map_some]
theorem sorted_ok {L : UH} {r : Nat} {qs : List (Int × Int)} (h : seqAt L r = some (qs.map pr)) (hl : qs.length < 64) : semSortT [.ref r] L = some (.ref L.length, L ++ [.lst ((sp qs).map pr)]) := by
  have hm : (sortT (qs.map toL)).map tupI = (sp qs).map pr := by
    rw [← sp_toL, List.map_map]; rfl
  unfold semSortT
  simp only [h, Option.bind_some, toTIs]
  rw [if_pos, hm]
  refine ⟨by rw [List.length_map]; exact hl, ?_⟩
  rw [List.all_eq_true]
  intro t ht
  obtain ⟨q, _, rfl⟩ := List.mem_map.mp ht
  rfl
noncomputable def cnt (qs : List (Int × Int)) (q : Int × Int) : Int := ((qs.filter fun o => below o q).length : Nat)
theorem many_below_ok {L : UH} {r : Nat} {qs : List (Int × Int)} (q : Int × Int) (hr : seqAt L r = some (qs.map pr)) (hl : qs.length < 1000000) : ∃ L', m_many_below [.ref r, pr q] L = some (.int (cnt qs q), L') ∧ Gw L L' := by
  obtain ⟨x, e⟩ := comp_grow (ix := [none, some 1]) (fi := fSeqI (fVar 0)) (it := .ref r) (g := gN 0) (tt := some b_many_below_1t) (fe := b_many_below_1e) (δ := [some (.ref r), some (pr q)]) (L := L) (L0 := L)
    qs pr (fun o => below o q) pr (fun δ => ∃ a, δ = [a, some (pr q)]) (by simp [iSeqU_ref hr]) (by rw [size_ref hr]; simp) (by omega) ⟨none, rfl⟩
    (fun k x => at_ref (seqAt_app hr))
    (fun a δ x _ ⟨y, hδ⟩ => by
      subst hδ
      obtain ⟨xl, hx⟩ := lies_ok a q (L ++ x)
      refine ⟨_, rfl, ⟨_, rfl⟩, xl, ?_, fun _ => ⟨[], ?_⟩⟩
      · simp [testU, b_many_below_1t, hx]
      · simp [b_many_below_1e])
  have q1 : (L ++ x ++ [HU.lst ((qs.filter fun o => below o q).map pr)])[(L ++ x).length]? = some (.lst ((qs.filter fun o => below o q).map pr)) := by simp
  have hlen := len_lst q1
  rw [List.length_map] at hlen
  refine ⟨L ++ x ++ [HU.lst ((qs.filter fun o => below o q).map pr)], ?_, ⟨x ++ [HU.lst ((qs.filter fun o => below o q).map pr)], by rw [List.append_assoc]⟩⟩
  unfold m_many_below fnU b_many_below
  simp only [List.length_cons, List.length_nil, if_true, List.map_cons, List.map_nil, Nat.sub_self, List.replicate_zero, List.append_nil, fRet_eq, fCall_eq, fCons_eq, fNil_eq, Option.map_some, Option.bind_some, e, hlen, cnt]
theorem toI_ints (l : List Int) : mapO toI (l.map U.int) = some l := by
  induction l with
  | nil => rfl
  | cons a r ih => simp only [List.map_cons, mapO, toI, ih, Option.bind_some, Option.map_some]
noncomputable def cross (lo up : List (Int × Int)) : Int := (up.map fun q => cnt lo q).sum
theorem crossings_ok {L : UH} {a b : Nat} {lo up : List (Int × Int)} (ha : seqAt L a = some (lo.map pr)) (hb : seqAt L b = some (up.map pr)) (h1 : lo.length < 1000) (h2 : up.length < 1000) : ∃ L', m_crossings_of [.ref a, .ref b] L = some (.int (cross lo up), L') ∧ Gw L L' := by
  obtain ⟨x, e⟩ := comp_grow (ix := [none, some 0]) (fi := fSeqI (fVar 1)) (it := .ref b) (g := gN 0) (tt := none) (fe := b_crossings_of_1e) (δ := [some (.ref a), some (.ref b)]) (L := L) (L0 := L)
    up pr (fun _ => true) (fun q => .int (cnt lo q)) (fun δ => ∃ z, δ = [z, some (.ref a)]) (by simp [iSeqU_ref hb]) (by rw [size_ref hb]; simp) (by omega) ⟨none, rfl⟩
    (fun k x => at_ref (seqAt_app hb))
    (fun q δ x _ ⟨y, hδ⟩ => by
      subst hδ
      obtain ⟨L', e3, w, hw⟩ := many_below_ok (L := L ++ x) q (seqAt_app ha) (by omega)
      refine ⟨[some (pr q), some (.ref a)], rfl, ⟨_, rfl⟩, [], by simp [testU], fun _ => ⟨w, ?_⟩⟩
      rw [List.append_nil, ← hw]
      unfold b_crossings_of_1e
      exact own2v (i := 1) (j := 0) rfl rfl e3)
  have hff : List.filter (fun _ => true) up = up := List.filter_eq_self.mpr (fun _ _ => rfl)
  have hmm : up.map (fun q => U.int (cnt lo q)) = (up.map fun q => cnt lo q).map U.int := by rw [List.map_map]; rfl
  rw [hff, hmm] at e
  have q2 : seqAt (L ++ x ++ [HU.lst ((up.map fun q => cnt lo q).map U.int)]) (L ++ x).length = some ((up.map fun q => cnt lo q).map U.int) := seqAt_lst (by simp)
  have hs : semSum [.ref (L ++ x).length] (L ++ x ++ [HU.lst ((up.map fun q => cnt lo q).map U.int)]) = some (.int (cross lo up), L ++ x ++ [HU.lst ((up.map fun q => cnt lo q).map U.int)]) := by
    simp only [semSum, q2, Option.bind_some, toI_ints, Option.map_some, cross]
  generalize cross lo up = sm at hs
  generalize (up.map fun q => cnt lo q).map U.int = us at e hs
  refine ⟨L ++ x ++ [HU.lst us], ?_, ⟨x ++ [HU.lst us], by rw [List.append_assoc]⟩⟩
  unfold m_crossings_of fnU b_crossings_of
  simp only [List.length_cons, List.length_nil, if_true, List.map_cons, List.map_nil, Nat.sub_self, List.replicate_zero, List.append_nil]
  rw [fRet_eq, fCall_eq, fCons_eq, e]
  simp only [Option.bind_some, fNil_eq, Option.map_some, hs]
noncomputable abbrev Tri := Nat × Nat × Int
noncomputable def triU (t : Tri) : U := .tup [.int (t.1 : Int), .int (t.2.1 : Int), .int t.2.2]
noncomputable def hv (qs : List (Int × Int)) (f b : Nat) : List Tri :=
  if _h : b - f < 2 then [] else (f, b, cross (mid qs f (f + (b - f) / 2)) (mid qs (f + (b - f) / 2) b)) :: (hv qs f (f + (b - f) / 2) ++ hv qs (f + (b - f) / 2) b)
termination_by b - f
decreasing_by all_goals omega
theorem hv_len (qs : List (Int × Int)) : ∀ (n f b : Nat), b - f ≤ n → (hv qs f b).length ≤ b - f - 1
  | 0, f, b, h => by rw [hv, dif_pos (by omega)]; simp
  | n + 1, f, b, h => by
    rw [hv]
    by_cases hc : b - f < 2
    · rw [dif_pos hc]; simp
    · rw [dif_neg hc]
      have h2 := hv_len qs n f (f + (b - f) / 2) (by omega)
      have h3 := hv_len qs n (f + (b - f) / 2) b (by omega)
      simp only [List.length_cons, List.length_append]; omega
end Lw
set_option Elab.async false
set_option linter.all false
set_option maxRecDepth 100000
set_option maxHeartbeats 1000000
namespace Lw
open PySem L2 MR
theorem half_nat (f b : Nat) (h : f ≤ b) : (f : Int) + ((b : Int) - (f : Int)) / 2 = ((f + (b - f) / 2 : Nat) : Int) := by omega
theorem lst1 (u : U) {fe : FE} {δ : UE} {M : UH} (h : fe δ M = some (u, M)) : (fLst (fCons fe fNil)) δ M = some (.ref M.length, M ++ [.lst [u]]) := by
  simp only [fLst_eq, fCons_eq, h, fNil_eq, Option.bind_some, Option.map_some]
  rw [if_pos (small_of (by show 1 ≤ 16777216; decide))]
theorem cat_ok {L : UH} {n m : Nat} {a b : List U} (h1 : L[n]? = some (.lst a)) (h2 : L[m]? = some (.lst b)) (hl : a.length + b.length ≤ 1000) : semAdd (.ref n) (.ref m) L = some (.ref L.length, L ++ [.lst (a ++ b)]) := by
  unfold semAdd
  simp only [lstAt_lst h1, lstAt_lst h2, Option.bind_some]
  rw [if_pos (small_of (by omega))]
theorem between_ok {qs : List (Int × Int)} (hq : qs.length ≤ 100) : ∀ (k f b r : Nat) (L : UH), f ≤ b → b ≤ qs.length → b - f ≤ 2 ^ k → L[r]? = some (.lst (qs.map pr)) →
    ∃ (r' : Nat) (L' : UH), m_halves_betweenR (k + 1) [.ref r, .int (f : Int), .int (b : Int)] L = some (.ref r', L') ∧ L'[r']? = some (.lst ((hv qs f b).map triU)) ∧ Gw L L' := by
  intro k
  induction k with
  | zero =>
    intro f b r L hfb hb hk hr
    have hlt : decide ((b : Int) - (f : Int) < 2) = true := decide_eq_true (by simp at hk; omega)
    refine ⟨L.length, L ++ [.lst []], ?_, by rw [hv, dif_pos (by simp at hk; omega)]; simp, Gw.new _ _⟩
    show (fnU 6 3 (b_halves_between (m_halves_betweenR 0))) _ L = _
    unfold fnU b_halves_between
    simp only [List.length_cons, List.length_nil, if_true, List.map_cons, List.map_nil, List.replicate, List.cons_append, List.nil_append]
    have s1 : (fAsg (f2 semSub (fVar 2) (fVar 1)) (gN 3)) [some (.ref r), some (.int (f : Int)), some (.int (b : Int)), none, none, none] L = some (.nx [some (.ref r), some (.int (f : Int)), some (.int (b : Int)), some (.int ((b : Int) - (f : Int))), none, none], L) := by
      simp only [fAsg_eq, f2_eq, fVar_eq, List.getElem?_cons_succ, List.getElem?_cons_zero, Option.join_some, Option.map_some, Option.bind_some, semSub_int, gN_eq, List.set_cons_succ, List.set_cons_zero]
    rw [fSeq_nx s1, fSeq_eq, fIfS_eq]
    simp only [fTest_eq, f2_eq, fVar_eq, fC_eq, List.getElem?_cons_succ, List.getElem?_cons_zero, Option.join_some, Option.map_some, Option.bind_some, semLt_int, hlt, if_true, fRet_eq, lst0]
  | succ k ih =>
    intro f b r L hfb hb hk hr
    have s1 : (fAsg (f2 semSub (fVar 2) (fVar 1)) (gN 3)) [some (.ref r), some (.int (f : Int)), some (.int (b : Int)), none, none, none] L = some (.nx [some (.ref r), some (.int (f : Int)), some (.int (b : Int)), some (.int ((b : Int) - (f : Int))), none, none], L) := by
      simp only [fAsg_eq, f2_eq, fVar_eq, List.getElem?_cons_succ, List.getElem?_cons_zero, Option.join_some, Option.map_some, Option.bind_some, semSub_int, gN_eq, List.set_cons_succ, List.set_cons_zero]
    by_cases hc : b - f < 2
    · have hlt : decide ((b : Int) - (f : Int) < 2) = true := decide_eq_true (by omega)
      refine ⟨L.length, L ++ [.lst []], ?_, by rw [hv, dif_pos hc]; simp, Gw.new _ _⟩
      show (fnU 6 3 (b_halves_between (m_halves_betweenR (k + 1)))) _ L = _
      unfold fnU b_halves_between
      simp only [List.length_cons, List.length_nil, if_true, List.map_cons, List.map_nil, List.replicate, List.cons_append, List.nil_append]
      rw [fSeq_nx s1, fSeq_eq, fIfS_eq]
      simp only [fTest_eq, f2_eq, fVar_eq, fC_eq, List.getElem?_cons_succ, List.getElem?_cons_zero, Option.join_some, Option.map_some, Option.bind_some, semLt_int, hlt, if_true, fRet_eq, lst0]
    · have hlt : decide ((b : Int) - (f : Int) < 2) = false := decide_eq_false (by omega)
      have h2k : 2 ^ (k + 1) = 2 ^ k + 2 ^ k := by rw [Nat.pow_succ]; omega
      have hmid := half_nat f b hfb
      have hu : hv qs f b = (f, b, cross (mid qs f (f + (b - f) / 2)) (mid qs (f + (b - f) / 2) b)) :: (hv qs f (f + (b - f) / 2) ++ hv qs (f + (b - f) / 2) b) := by rw [hv, dif_neg hc]
      have hm1 : f ≤ f + (b - f) / 2 := by omega
      have hm2 : f + (b - f) / 2 ≤ b := by omega
      have hm3 : f + (b - f) / 2 - f ≤ 2 ^ k := by omega
      have hm4 : b - (f + (b - f) / 2) ≤ 2 ^ k := by omega
      generalize f + (b - f) / 2 = m at hmid hu hm1 hm2 hm3 hm4
      have hdiv : divOk ((b : Int) - (f : Int)) 2 = true := divOk_of (by decide) (by decide)
      have s2 : (fIfS (fTest (f2 semLt (fVar 3) (fC (.int 2)))) (fRet (fLst fNil)) fNext) [some (.ref r), some (.int (f : Int)), some (.int (b : Int)), some (.int ((b : Int) - (f : Int))), none, none] L = some (.nx [some (.ref r), some (.int (f : Int)), some (.int (b : Int)), some (.int ((b : Int) - (f : Int))), none, none], L) := by
        simp only [fIfS_eq, fTest_eq, f2_eq, fVar_eq, fC_eq, List.getElem?_cons_succ, List.getElem?_cons_zero, Option.join_some, Option.map_some, Option.bind_some, semLt_int, hlt, Bool.false_eq_true, if_false, fNext_eq]
      have s3 : (fAsg (f2 semAdd (fVar 1) (f2 semDiv (fVar 3) (fC (.int 2)))) (gN 4)) [some (.ref r), some (.int (f : Int)), some (.int (b : Int)), some (.int ((b : Int) - (f : Int))), none, none] L = some (.nx [some (.ref r), some (.int (f : Int)), some (.int (b : Int)), some (.int ((b : Int) - (f : Int))), some (.int (m : Int)), none], L) := by
        simp only [fAsg_eq, f2_eq, fVar_eq, fC_eq, List.getElem?_cons_succ, List.getElem?_cons_zero, Option.join_some, Option.map_some, Option.bind_some, semDiv_int, hdiv, if_true, semAdd_int, hmid, gN_eq, List.set_cons_succ, List.set_cons_zero]
      have c1 := sl_mid pr hr hm1 (by omega : m ≤ qs.length)
      have gA : Gw L (L ++ [HU.lst ((mid qs f m).map pr)]) := Gw.new _ _
      have hA : (L ++ [HU.lst ((mid qs f m).map pr)])[L.length]? = some (.lst ((mid qs f m).map pr)) := by simp
      have c2 := sl_mid pr (gA.get hr) hm2 hb
      generalize hLA : L ++ [HU.lst ((mid qs f m).map pr)] = LA at c1 gA hA c2
      have gB : Gw LA (LA ++ [HU.lst ((mid qs m b).map pr)]) := Gw.new _ _
      have hB : (LA ++ [HU.lst ((mid qs m b).map pr)])[LA.length]? = some (.lst ((mid qs m b).map pr)) := by simp
      generalize hLB : LA ++ [HU.lst ((mid qs m b).map pr)] = LB at c2 gB hB
      obtain ⟨LC, c3, gC⟩ := crossings_ok (seqAt_lst (gB.get hA)) (seqAt_lst hB) (by rw [mid_len _ _ _ (by omega)]; omega) (by rw [mid_len _ _ _ hb]; omega)
      generalize cross (mid qs f m) (mid qs m b) = cr at c3 hu
      have gLC : Gw L LC := (gA.trans gB).trans gC
      have s4 : (fAsg (fTup (fCons (fVar 1) (fCons (fVar 2) (fCons (fOwn 2 m_crossings_of (fCons (fSl semSl (fVar 0) (fPart (fVar 1)) (fPart (fVar 4))) (fCons (fSl semSl (fVar 0) (fPart (fVar 4)) (fPart (fVar 2))) fNil))) fNil)))) (gN 5)) [some (.ref r), some (.int (f : Int)), some (.int (b : Int)), some (.int ((b : Int) - (f : Int))), some (.int (m : Int)), none] L = some (.nx [some (.ref r), some (.int (f : Int)), some (.int (b : Int)), some (.int ((b : Int) - (f : Int))), some (.int (m : Int)), some (triU (f, b, cr))], LC) := by
        have sm3 : small (0 + 1 + 1 + 1) = true := small_of (by decide)
        simp only [fAsg_eq, fTup_eq, fCons_eq, fVar_eq, fOwn_eq, fSl_eq, fPart_eq, fNil_eq, List.getElem?_cons_succ, List.getElem?_cons_zero, Option.join_some, Option.map_some, Option.bind_some, c1, c2, List.length_cons, List.length_nil, if_true, c3, sm3, gN_eq, List.set_cons_succ, List.set_cons_zero]
        rfl
      obtain ⟨r1, L1, i1, j1, g1⟩ := ih f m r (LC ++ [.lst [triU (f, b, cr)]]) hm1 (by omega) hm3 ((gLC.trans (Gw.new _ _)).get hr)
      have jW : L1[LC.length]? = some (.lst [triU (f, b, cr)]) := g1.get (by simp)
      have hl1 := hv_len qs (m - f) f m (Nat.le_refl _)
      have hl2 := hv_len qs (b - m) m b (Nat.le_refl _)
      have a1 := cat_ok jW j1 (by simp; omega)
      have gD : Gw LC L1 := (Gw.new _ _).trans g1
      have jD : (L1 ++ [HU.lst ([triU (f, b, cr)] ++ (hv qs f m).map triU)])[L1.length]? = some (.lst ([triU (f, b, cr)] ++ (hv qs f m).map triU)) := by simp
      obtain ⟨r2, L2, i2, j2, g2⟩ := ih m b r (L1 ++ [.lst ([triU (f, b, cr)] ++ (hv qs f m).map triU)]) hm2 hb hm4 (((gLC.trans gD).trans (Gw.new _ _)).get hr)
      have a2 := cat_ok (g2.get jD) j2 (by simp; omega)
      refine ⟨L2.length, L2 ++ [.lst ([triU (f, b, cr)] ++ (hv qs f m).map triU ++ (hv qs m b).map triU)], ?_, by rw [hu]; simp, ((gLC.trans gD).trans (Gw.new _ _)).trans (g2.trans (Gw.new _ _))⟩
      show (fnU 6 3 (b_halves_between (m_halves_betweenR (k + 1)))) _ L = _
      unfold fnU b_halves_between
      simp only [List.length_cons, List.length_nil, if_true, List.map_cons, List.map_nil, List.replicate, List.cons_append, List.nil_append]
      rw [fSeq_nx s1, fSeq_nx s2, fSeq_nx s3, fSeq_nx s4]
      have w1 := lst1 (triU (f, b, cr)) (fe := fVar 5) (δ := [some (.ref r), some (.int (f : Int)), some (.int (b : Int)), some (.int ((b : Int) - (f : Int))), some (.int (m : Int)), some (triU (f, b, cr))]) (M := LC) rfl
      have w2 := own3v (i := 0) (j := 1) (k := 4) (δ := [some (.ref r), some (.int (f : Int)), some (.int (b : Int)), some (.int ((b : Int) - (f : Int))), some (.int (m : Int)), some (triU (f, b, cr))]) (fun _ => rfl) (fun _ => rfl) (fun _ => rfl) i1
      have w3 := own3v (i := 0) (j := 4) (k := 2) (δ := [some (.ref r), some (.int (f : Int)), some (.int (b : Int)), some (.int ((b : Int) - (f : Int))), some (.int (m : Int)), some (triU (f, b, cr))]) (fun _ => rfl) (fun _ => rfl) (fun _ => rfl) i2
      rw [fRet_eq, f2_eq, f2_eq, w1]
      simp only [Option.bind_some, w2, a1, w3, a2, Option.map_some]
      simp only [List.cons_append, List.nil_append]
theorem halves_of_ok (ps : List (Str × (Int × Int))) (hl : ps.length ≤ 60) (L : UH) : ∃ L', m_halves_of [.tup (ps.map ptU)] L = some (.tup ((hv (sp (ps.map (·.2))) 0 ps.length).map triU), L') ∧ Gw L L' := by
  obtain ⟨x, e⟩ := comp_grow (ix := [none]) (fi := fSeqI (fVar 0)) (it := .seq (ps.map ptU)) (g := gN 0) (tt := none) (fe := b_halves_of_1e) (δ := [some (.tup (ps.map ptU)), none]) (L := L) (L0 := L)
    ps ptU (fun _ => true) (fun p => pr p.2) (fun δ => ∃ a, δ = [a]) (by simp [iSeqU]) (by simp [IU.size]) (by omega) ⟨none, rfl⟩
    (fun k x => rfl)
    (fun a δ x _ ⟨y, hδ⟩ => by
      subst hδ
      refine ⟨_, rfl, ⟨_, rfl⟩, [], by simp [testU], fun _ => ⟨[], ?_⟩⟩
      simp [b_halves_of_1e, place_of_ok])
  have hf : ∀ (l : List (Str × (Int × Int))), List.filter (fun _ => true) l = l := fun l => List.filter_eq_self.mpr (fun _ _ => rfl)
  have hm : (ps.map fun p => pr p.2) = (ps.map (·.2)).map pr := by rw [List.map_map]; rfl
  rw [hf, hm] at e
  have q1 : seqAt (L ++ x ++ [HU.lst ((ps.map (·.2)).map pr)]) (L ++ x).length = some ((ps.map (·.2)).map pr) := seqAt_lst (by simp)
  have so := sorted_ok q1 (by rw [List.length_map]; omega)
  have gM : Gw L (L ++ x ++ [HU.lst ((ps.map (·.2)).map pr)] ++ [HU.lst ((sp (ps.map (·.2))).map pr)]) := ((Gw.new L x).trans (Gw.new _ _)).trans (Gw.new _ _)
  have hr : (L ++ x ++ [HU.lst ((ps.map (·.2)).map pr)] ++ [HU.lst ((sp (ps.map (·.2))).map pr)])[(L ++ x ++ [HU.lst ((ps.map (·.2)).map pr)]).length]? = some (.lst ((sp (ps.map (·.2))).map pr)) := by simp
  have hsl : (sp (ps.map (·.2))).length = ps.length := by rw [sp_len, List.length_map]
  generalize L ++ x ++ [HU.lst ((ps.map (·.2)).map pr)] ++ [HU.lst ((sp (ps.map (·.2))).map pr)] = M at so gM hr
  generalize (L ++ x ++ [HU.lst ((ps.map (·.2)).map pr)]).length = r at so hr
  generalize sp (ps.map (·.2)) = qs at hr hsl
  have s1 : (fAsg (fCall semSortT (fCons (fComp [none] (fSeqI (fVar 0)) (gN 0) none b_halves_of_1e) fNil)) (gN 1)) [some (.tup (ps.map ptU)), none] L = some (.nx [some (.tup (ps.map ptU)), some (.ref r)], M) := by
    rw [fAsg_eq, fCall_eq, fCons_eq, e]
    simp only [Option.bind_some, fNil_eq, Option.map_some, so, gN_eq, List.set_cons_succ, List.set_cons_zero]
  have hlen := len_lst hr
  rw [List.length_map] at hlen
  obtain ⟨r', L', e2, hr', g2⟩ := between_ok (qs := qs) (by omega) 6 0 qs.length r M (by omega) (Nat.le_refl _) (by simp; omega) hr
  have t2 : semTuple [.ref r'] L' = some (.tup ((hv qs 0 qs.length).map triU), L') := by simp only [semTuple, seqAt_lst hr', Option.map_some]
  rw [hsl] at t2 e2 hlen
  refine ⟨L', ?_, gM.trans g2⟩
  have e2' : m_halves_between [.ref r, .int 0, .int (ps.length : Int)] M = some (.ref r', L') := e2
  unfold m_halves_of fnU b_halves_of
  simp only [List.length_cons, List.length_nil, if_true, List.map_cons, List.map_nil, List.replicate, List.cons_append, List.nil_append]
  rw [fSeq_nx s1, fRet_eq, fCall_eq, fCons_eq, fOwn_eq]
  simp only [fCons_eq, fVar_eq, fC_eq, fCall_eq, fNil_eq, List.getElem?_cons_succ, List.getElem?_cons_zero, Option.join_some, Option.map_some, Option.bind_some, hlen, List.length_cons, List.length_nil, if_true, e2', t2]
end Lw
set_option Elab.async false
set_option linter.all false
set_option maxRecDepth 100000
set_option maxHeartbeats 1000000
namespace Lw
open PySem L2 MR
theorem below_each_ok (ps : List (Str × (Int × Int))) (L : UH) (hl : ps.length < 1000000) : ∃ L', m_below_each [.tup (ps.map ptU)] L = some (.tup (ps.map fun p => .int (cnt (ps.map (·.2)) p.2)), L') ∧ Gw L L' := by
  obtain ⟨x, e⟩ := comp_grow (ix := [none]) (fi := fSeqI (fVar 0)) (it := .seq (ps.map ptU)) (g := gN 0) (tt := none) (fe := b_below_each_2e) (δ := [some (.tup (ps.map ptU)), none]) (L := L) (L0 := L)
    ps ptU (fun _ => true) (fun p => pr p.2) (fun δ => ∃ a, δ = [a]) (by simp [iSeqU]) (by simp [IU.size]) (by omega) ⟨none, rfl⟩
    (fun k x => rfl)
    (fun a δ x _ ⟨y, hδ⟩ => by
      subst hδ
      refine ⟨_, rfl, ⟨_, rfl⟩, [], by simp [testU], fun _ => ⟨[], ?_⟩⟩
      simp [b_below_each_2e, place_of_ok])
  have hf : ∀ (l : List (Str × (Int × Int))), List.filter (fun _ => true) l = l := fun l => List.filter_eq_self.mpr (fun _ _ => rfl)
  rw [hf] at e
  have hm : (ps.map fun p => pr p.2) = (ps.map (·.2)).map pr := by rw [List.map_map]; rfl
  rw [hm] at e
  generalize hM : L ++ x ++ [HU.lst ((ps.map (·.2)).map pr)] = M at e
  have hr : seqAt M (L ++ x).length = some ((ps.map (·.2)).map pr) := by rw [← hM]; exact seqAt_lst (by simp)
  have gM : Gw L M := ⟨x ++ [HU.lst ((ps.map (·.2)).map pr)], by rw [← hM, List.append_assoc]⟩
  obtain ⟨y, e2⟩ := comp_grow (ix := [none, some 1]) (fi := fSeqI (fVar 1)) (it := .ref (L ++ x).length) (g := gN 0) (tt := none) (fe := b_below_each_1e) (δ := [some (.tup (ps.map ptU)), some (.ref (L ++ x).length)]) (L := M) (L0 := M)
    (ps.map (·.2)) pr (fun _ => true) (fun q => .int (cnt (ps.map (·.2)) q)) (fun δ => ∃ a, δ = [a, some (.ref (L ++ x).length)]) (by simp only [fSeqI_eq, fVar_eq, List.getElem?_cons_succ, List.getElem?_cons_zero, Option.join_some, Option.map_some, Option.bind_some, iSeqU_ref hr]) (by rw [size_ref hr]; simp) (by simp; omega) ⟨none, rfl⟩
    (fun k x => at_ref (seqAt_app hr))
    (fun a δ z _ ⟨y, hδ⟩ => by
      subst hδ
      obtain ⟨L', e3, w, hw⟩ := many_below_ok (L := M ++ z) a (seqAt_app hr) (by simp; omega)
      refine ⟨_, rfl, ⟨_, rfl⟩, [], by simp [testU], fun _ => ⟨w, ?_⟩⟩
      rw [List.append_nil, ← hw]
      unfold b_below_each_1e
      simp only [fOwn_eq, fCons_eq, fNil_eq, fVar_eq, List.set_cons_zero, List.getElem?_cons_succ, List.getElem?_cons_zero, Option.join_some, Option.map_some, Option.bind_some, List.length_cons, List.length_nil, if_true, e3])
  have hf2 : ∀ (l : List (Int × Int)), List.filter (fun _ => true) l = l := fun l => List.filter_eq_self.mpr (fun _ _ => rfl)
  rw [hf2] at e2
  generalize hR : ((ps.map (·.2)).map fun q => U.int (cnt (ps.map (·.2)) q)) = R at e2
  have q2 : seqAt (M ++ y ++ [HU.lst R]) (M ++ y).length = some R := seqAt_lst (by simp)
  have ht : semTuple [.ref (M ++ y).length] (M ++ y ++ [HU.lst R]) = some (.tup R, M ++ y ++ [HU.lst R]) := by simp only [semTuple, q2, Option.map_some]
  refine ⟨M ++ y ++ [HU.lst R], ?_, gM.trans ⟨y ++ [HU.lst R], by rw [List.append_assoc]⟩⟩
  have hR' : (ps.map fun p => U.int (cnt (ps.map (·.2)) p.2)) = R := by rw [← hR, List.map_map]; rfl
  rw [hR']
  unfold m_below_each fnU b_below_each
  simp only [List.length_cons, List.length_nil, if_true, List.map_cons, List.map_nil, List.replicate, List.cons_append, List.nil_append, fSeq_eq, fAsg_eq, e, gN_eq, Option.map_some, Option.bind_some, List.set_cons_succ, List.set_cons_zero, fRet_eq, fCall_eq, fCons_eq, fNil_eq, e2, ht]
noncomputable def tupU (ps : List (Str × (Int × Int))) : U := .tup (ps.map ptU)
theorem toI_map {β : Type} (f : β → Int) : ∀ l : List β, mapO toI (l.map fun a => U.int (f a)) = some (l.map f)
  | [] => rfl
  | a :: l => by simp only [List.map_cons, mapO, toI, toI_map f l, Option.bind_some, Option.map_some]
noncomputable def pairs (qs : List (Int × Int)) : Int := (qs.map (cnt qs)).sum
theorem pairs_ok (ps : List (Str × (Int × Int))) (L : UH) (hl : ps.length < 1000000) : ∃ L', m_pairs_in_all [tupU ps] L = some (.int (pairs (ps.map (·.2))), L') ∧ Gw L L' := by
  obtain ⟨L', e, g⟩ := below_each_ok ps L hl
  refine ⟨L', ?_, g⟩
  have hs : semSum [.tup (ps.map fun p => .int (cnt (ps.map (·.2)) p.2))] L' = some (.int (pairs (ps.map (·.2))), L') := by
    simp only [semSum, toI_map, Option.map_some, pairs, List.map_map]; rfl
  simp [m_pairs_in_all, fnU, b_pairs_in_all, tupU, e, hs]
noncomputable def cntA (qs : List (Int × Int)) (q : Int × Int) : Int := ((qs.filter fun o => below q o).length : Nat)
theorem many_above_ok {L : UH} {r : Nat} {qs : List (Int × Int)} (q : Int × Int) (hr : seqAt L r = some (qs.map pr)) (hl : qs.length < 1000000) : ∃ L', m_many_above [.ref r, pr q] L = some (.int (cntA qs q), L') ∧ Gw L L' := by
  obtain ⟨x, e⟩ := comp_grow (ix := [none, some 1]) (fi := fSeqI (fVar 0)) (it := .ref r) (g := gN 0) (tt := some b_many_above_1t) (fe := b_many_above_1e) (δ := [some (.ref r), some (pr q)]) (L := L) (L0 := L)
    qs pr (fun o => below q o) pr (fun δ => ∃ a, δ = [a, some (pr q)]) (by simp [iSeqU_ref hr]) (by rw [size_ref hr]; simp) (by omega) ⟨none, rfl⟩
    (fun k x => at_ref (seqAt_app hr))
    (fun a δ x _ ⟨y, hδ⟩ => by
      subst hδ
      obtain ⟨xl, hx⟩ := lies_ok q a (L ++ x)
      refine ⟨_, rfl, ⟨_, rfl⟩, xl, ?_, fun _ => ⟨[], ?_⟩⟩
      · simp [testU, b_many_above_1t, hx]
      · simp [b_many_above_1e])
  have q1 : (L ++ x ++ [HU.lst ((qs.filter fun o => below q o).map pr)])[(L ++ x).length]? = some (.lst ((qs.filter fun o => below q o).map pr)) := by simp
  have hlen := len_lst q1
  rw [List.length_map] at hlen
  refine ⟨L ++ x ++ [HU.lst ((qs.filter fun o => below q o).map pr)], ?_, ⟨x ++ [HU.lst ((qs.filter fun o => below q o).map pr)], by rw [List.append_assoc]⟩⟩
  unfold m_many_above fnU b_many_above
  simp only [List.length_cons, List.length_nil, if_true, List.map_cons, List.map_nil, Nat.sub_self, List.replicate_zero, List.append_nil, fRet_eq, fCall_eq, fCons_eq, fNil_eq, Option.map_some, Option.bind_some, e, hlen, cntA]
theorem above_each_ok (ps : List (Str × (Int × Int))) (L : UH) (hl : ps.length < 1000000) : ∃ L', m_above_each [.tup (ps.map ptU)] L = some (.tup (ps.map fun p => .int (cntA (ps.map (·.2)) p.2)), L') ∧ Gw L L' := by
  obtain ⟨x, e⟩ := comp_grow (ix := [none]) (fi := fSeqI (fVar 0)) (it := .seq (ps.map ptU)) (g := gN 0) (tt := none) (fe := b_above_each_2e) (δ := [some (.tup (ps.map ptU)), none]) (L := L) (L0 := L)
    ps ptU (fun _ => true) (fun p => pr p.2) (fun δ => ∃ a, δ = [a]) (by simp [iSeqU]) (by simp [IU.size]) (by omega) ⟨none, rfl⟩
    (fun k x => rfl)
    (fun a δ x _ ⟨y, hδ⟩ => by
      subst hδ
      refine ⟨_, rfl, ⟨_, rfl⟩, [], by simp [testU], fun _ => ⟨[], ?_⟩⟩
      simp [b_above_each_2e, place_of_ok])
  have hf : ∀ (l : List (Str × (Int × Int))), List.filter (fun _ => true) l = l := fun l => List.filter_eq_self.mpr (fun _ _ => rfl)
  rw [hf] at e
  have hm : (ps.map fun p => pr p.2) = (ps.map (·.2)).map pr := by rw [List.map_map]; rfl
  rw [hm] at e
  generalize hM : L ++ x ++ [HU.lst ((ps.map (·.2)).map pr)] = M at e
  have hr : seqAt M (L ++ x).length = some ((ps.map (·.2)).map pr) := by rw [← hM]; exact seqAt_lst (by simp)
  have gM : Gw L M := ⟨x ++ [HU.lst ((ps.map (·.2)).map pr)], by rw [← hM, List.append_assoc]⟩
  obtain ⟨y, e2⟩ := comp_grow (ix := [none, some 1]) (fi := fSeqI (fVar 1)) (it := .ref (L ++ x).length) (g := gN 0) (tt := none) (fe := b_above_each_1e) (δ := [some (.tup (ps.map ptU)), some (.ref (L ++ x).length)]) (L := M) (L0 := M)
    (ps.map (·.2)) pr (fun _ => true) (fun q => .int (cntA (ps.map (·.2)) q)) (fun δ => ∃ a, δ = [a, some (.ref (L ++ x).length)]) (by simp only [fSeqI_eq, fVar_eq, List.getElem?_cons_succ, List.getElem?_cons_zero, Option.join_some, Option.map_some, Option.bind_some, iSeqU_ref hr]) (by rw [size_ref hr]; simp) (by simp; omega) ⟨none, rfl⟩
    (fun k x => at_ref (seqAt_app hr))
    (fun a δ z _ ⟨y, hδ⟩ => by
      subst hδ
      obtain ⟨L', e3, w, hw⟩ := many_above_ok (L := M ++ z) a (seqAt_app hr) (by simp; omega)
      refine ⟨_, rfl, ⟨_, rfl⟩, [], by simp [testU], fun _ => ⟨w, ?_⟩⟩
      rw [List.append_nil, ← hw]
      unfold b_above_each_1e
      simp only [fOwn_eq, fCons_eq, fNil_eq, fVar_eq, List.set_cons_zero, List.getElem?_cons_succ, List.getElem?_cons_zero, Option.join_some, Option.map_some, Option.bind_some, List.length_cons, List.length_nil, if_true, e3])
  have hf2 : ∀ (l : List (Int × Int)), List.filter (fun _ => true) l = l := fun l => List.filter_eq_self.mpr (fun _ _ => rfl)
  rw [hf2] at e2
  generalize hR : ((ps.map (·.2)).map fun q => U.int (cntA (ps.map (·.2)) q)) = R at e2
  have q2 : seqAt (M ++ y ++ [HU.lst R]) (M ++ y).length = some R := seqAt_lst (by simp)
  have ht : semTuple [.ref (M ++ y).length] (M ++ y ++ [HU.lst R]) = some (.tup R, M ++ y ++ [HU.lst R]) := by simp only [semTuple, q2, Option.map_some]
  refine ⟨M ++ y ++ [HU.lst R], ?_, gM.trans ⟨y ++ [HU.lst R], by rw [List.append_assoc]⟩⟩
  have hR' : (ps.map fun p => U.int (cntA (ps.map (·.2)) p.2)) = R := by rw [← hR, List.map_map]; rfl
  rw [hR']
  unfold m_above_each fnU b_above_each
  simp only [List.length_cons, List.length_nil, if_true, List.map_cons, List.map_nil, List.replicate, List.cons_append, List.nil_append, fSeq_eq, fAsg_eq, e, gN_eq, Option.map_some, Option.bind_some, List.set_cons_succ, List.set_cons_zero, fRet_eq, fCall_eq, fCons_eq, fNil_eq, e2, ht]
end Lw
set_option Elab.async false
set_option linter.all false
set_option maxRecDepth 100000
set_option maxHeartbeats 1000000
namespace Lw
open PySem L2 MR
noncomputable def gtv (row : List Int) (i : Nat) : Nat := ((row.take i).filter fun o => decide (row.getD i 0 < o)).length
noncomputable def cntv (row : List Int) : List Int := (List.range row.length).map fun i => ((gtv row i : Nat) : Int)
theorem sum_tup (l : List Int) (L : UH) : semSum [.tup (l.map U.int)] L = some (.int l.sum, L) := by
  simp only [semSum, toI_ints, Option.map_some]
theorem take_one {row : List Int} {k : Nat} (h : k < row.length) : row.take (k + 1) = row.take k ++ [row.getD k 0] := by
  rw [List.take_add_one, List.getElem?_eq_getElem h]
  simp [List.getD_eq_getElem?_getD, h]
theorem pl_ints (xs : List Int) : Pl 6 (.tup (xs.map U.int)) := by
  rw [pl_tup]
  intro u hu
  obtain ⟨a, _, rfl⟩ := List.mem_map.mp hu
  exact Pl.int _ _
theorem ne_self (xs : List Int) (L : UH) : semNe (.tup (xs.map U.int)) (.tup (xs.map U.int)) L = some (.bl false, L) := by
  rw [semNe_pl L (pl_ints xs) (pl_ints xs), eqB_self (pl_ints xs)]; rfl
theorem many_greater_ok (xs : List Int) (v : Int) (L : UH) (hl : xs.length < 1000000) : ∃ L', m_many_greater [.tup (xs.map U.int), .int v] L = some (.int ((xs.filter fun o => decide (v < o)).length : Nat), L') ∧ Gw L L' := by
  obtain ⟨x, e⟩ := comp_grow (ix := [none, some 1]) (fi := fSeqI (fVar 0)) (it := .seq (xs.map U.int)) (g := gN 0) (tt := some b_many_greater_1t) (fe := b_many_greater_1e) (δ := [some (.tup (xs.map U.int)), some (.int v)]) (L := L) (L0 := L)
    xs U.int (fun o => decide (v < o)) U.int (fun δ => ∃ a, δ = [a, some (.int v)]) (by simp [iSeqU]) (by simp [IU.size]) (by omega) ⟨none, rfl⟩
    (fun k x => rfl)
    (fun a δ x _ ⟨y, hδ⟩ => by
      subst hδ
      refine ⟨_, rfl, ⟨_, rfl⟩, [], ?_, fun _ => ⟨[], ?_⟩⟩
      · simp [testU, b_many_greater_1t]
      · simp [b_many_greater_1e])
  have q1 : (L ++ x ++ [HU.lst ((xs.filter fun o => decide (v < o)).map U.int)])[(L ++ x).length]? = some (.lst ((xs.filter fun o => decide (v < o)).map U.int)) := by simp
  have hlen := len_lst q1
  rw [List.length_map] at hlen
  refine ⟨L ++ x ++ [HU.lst ((xs.filter fun o => decide (v < o)).map U.int)], ?_, ⟨x ++ [HU.lst ((xs.filter fun o => decide (v < o)).map U.int)], by rw [List.append_assoc]⟩⟩
  unfold m_many_greater fnU b_many_greater
  simp only [List.length_cons, List.length_nil, if_true, List.map_cons, List.map_nil, Nat.sub_self, List.replicate_zero, List.append_nil, fRet_eq, fCall_eq, fCons_eq, fNil_eq, Option.map_some, Option.bind_some, e, hlen]
theorem enum_ints (row : List Int) : enumU (row.map U.int) = (List.range row.length).map fun (i : Nat) => U.tup [.int (i : Int), .int (row.getD i 0)] := by
  apply List.ext_getElem?
  intro i
  unfold enumU
  rw [List.getElem?_mapIdx, List.getElem?_map, List.getElem?_map]
  by_cases h : i < row.length
  · rw [List.getElem?_range h, List.getElem?_eq_getElem h]
    simp [List.getD_eq_getElem?_getD, h]
  · rw [List.getElem?_eq_none (by omega), List.getElem?_eq_none (by simpa using h)]; rfl
theorem cut_tup (row : List Int) (i : Nat) (h : i < row.length) (L : UH) : semSl (.tup (row.map U.int)) none (some (i : Int)) L = some (.tup ((row.take i).map U.int), L) := by
  have hs : cutU (row.map U.int) none (some (i : Int)) = (row.take i).map U.int := by
    unfold cutU
    rw [HT.sIx_none, HT.sIx_nat, List.drop_zero, Nat.sub_zero, List.length_map, Nat.min_eq_left (by omega), List.map_take]
  unfold semSl
  simp only
  rw [if_neg (by
    rw [HT.sIx_none, HT.sIx_nat, List.length_map, Nat.min_eq_left (by omega)]
    omega), hs]
theorem counts_of_ok (row : List Int) (L : UH) (hl : row.length < 100000) : ∃ L', m_counts_of [.tup (row.map U.int)] L = some (.tup ((cntv row).map U.int), L') ∧ Gw L L' := by
  have hi : (fEnumA (fCons (fVar 0) fNil)) [some (.tup (row.map U.int))] L = some (.seq ((List.range row.length).map fun (i : Nat) => U.tup [.int (i : Int), .int (row.getD i 0)]), L) := by
    rw [← enum_ints]; rfl
  obtain ⟨x, e⟩ := comp_grow (ix := [none, none, some 0]) (fi := fEnumA (fCons (fVar 0) fNil)) (it := .seq ((List.range row.length).map fun (i : Nat) => U.tup [.int (i : Int), .int (row.getD i 0)])) (g := (MR.gTup 2 (MR.gCons (gN 0) (MR.gCons (gN 1) MR.gNil)))) (tt := none) (fe := b_counts_of_1e) (δ := [some (.tup (row.map U.int))]) (L := L) (L0 := L)
    (List.range row.length) (fun (i : Nat) => U.tup [.int (i : Int), .int (row.getD i 0)]) (fun _ => true) (fun i => .int ((gtv row i : Nat) : Int)) (fun δ => ∃ a b, δ = [a, b, some (.tup (row.map U.int))]) hi (by simp [IU.size]) (by simp; omega) ⟨none, none, rfl⟩
    (fun k x => rfl)
    (fun i δ x hi ⟨y, z, hδ⟩ => by
      subst hδ
      have hin := List.mem_range.mp hi
      obtain ⟨L', e1, w, hw⟩ := many_greater_ok (row.take i) (row.getD i 0) (L ++ x) (by rw [List.length_take]; omega)
      refine ⟨[some (.int (i : Int)), some (.int (row.getD i 0)), some (.tup (row.map U.int))], rfl, ⟨_, _, rfl⟩, [], by simp [testU], fun _ => ⟨w, ?_⟩⟩
      have c1 : (fSl semSl (fVar 2) fNoPart (fPart (fVar 0))) [some (.int (i : Int)), some (.int (row.getD i 0)), some (.tup (row.map U.int))] (L ++ x) = some (.tup ((row.take i).map U.int), L ++ x) := by
        rw [fSl_eq]
        simp only [fVar_eq, fNoPart_eq, fPart_eq, List.getElem?_cons_succ, List.getElem?_cons_zero, Option.join_some, Option.map_some, Option.bind_some, cut_tup row i hin]
      unfold b_counts_of_1e
      simp only [List.append_nil]
      rw [fOwn_eq, fCons_eq, c1, Option.bind_some, fCons_eq]
      simp only [fVar_eq, fNil_eq, List.getElem?_cons_succ, List.getElem?_cons_zero, Option.join_some, Option.map_some, Option.bind_some, List.length_cons, List.length_nil, if_true, e1]
      rw [← hw]; rfl)
  have hf : List.filter (fun _ => true) (List.range row.length) = List.range row.length := List.filter_eq_self.mpr (fun _ _ => rfl)
  have hc : (List.range row.length).map (fun i => U.int ((gtv row i : Nat) : Int)) = (cntv row).map U.int := by simp [cntv]
  rw [hf, hc] at e
  have q2 : seqAt (L ++ x ++ [HU.lst ((cntv row).map U.int)]) (L ++ x).length = some ((cntv row).map U.int) := seqAt_lst (by simp)
  refine ⟨L ++ x ++ [HU.lst ((cntv row).map U.int)], ?_, ⟨x ++ [HU.lst ((cntv row).map U.int)], by rw [List.append_assoc]⟩⟩
  unfold m_counts_of fnU b_counts_of
  simp only [List.length_cons, List.length_nil, if_true, List.map_cons, List.map_nil, Nat.sub_self, List.replicate_zero, List.append_nil]
  rw [fRet_eq, fCall_eq, fCons_eq, e]
  simp only [Option.bind_some, fNil_eq, Option.map_some, semTuple, q2]
noncomputable def stepv (ws : List Int) (most t : Nat) : Int := ((ws.drop (min (t - most) ws.length)).take (min (t + 1) ws.length - min (t - most) ws.length)).sum
noncomputable def more (ws : List Int) (most : Nat) : List Int := (List.range (ws.length + most)).map (stepv ws most)
theorem more_len (ws : List Int) (p : Nat) : (more ws p).length = ws.length + p := by simp [more]
theorem cut_ok {L : UH} {r : Nat} {ws : List Int} (hr : seqAt L r = some (ws.map U.int)) (lo hi : Nat) : semSl (.ref r) (some (lo : Int)) (some (hi : Int)) L = some (.ref L.length, L ++ [.lst (((ws.drop (min lo ws.length)).take (min hi ws.length - min lo ws.length)).map U.int)]) := by
  simp only [semSl, hr, Option.map_some]
  unfold cutU
  rw [HT.sIx_nat, HT.sIx_nat, List.length_map, ← List.map_drop, ← List.map_take]
theorem step_sum {L : UH} {r : Nat} {ws : List Int} (hr : seqAt L r = some (ws.map U.int)) (most t : Nat) : (semSl (.ref r) (some ((t - most : Nat) : Int)) (some ((t + 1 : Nat) : Int)) L).bind (fun p => semSum [p.1] p.2) = some (.int (stepv ws most t), L ++ [.lst (((ws.drop (min (t - most) ws.length)).take (min (t + 1) ws.length - min (t - most) ws.length)).map U.int)]) := by
  rw [cut_ok hr]
  have q1 : seqAt (L ++ [HU.lst (((ws.drop (min (t - most) ws.length)).take (min (t + 1) ws.length - min (t - most) ws.length)).map U.int)]) L.length = some (((ws.drop (min (t - most) ws.length)).take (min (t + 1) ws.length - min (t - most) ws.length)).map U.int) := seqAt_lst (by simp)
  simp only [Option.bind_some, semSum, q1, toI_ints, Option.map_some, stepv]
theorem max0 (t most : Nat) (L : UH) : semMax [.int 0, .int ((t : Int) - (most : Int))] L = some (.int ((t - most : Nat) : Int), L) := by
  have : (if ((t : Int) - (most : Int)) > 0 then ((t : Int) - (most : Int)) else 0) = ((t - most : Nat) : Int) := by split <;> omega
  show some (U.int (if ((t : Int) - (most : Int)) > 0 then ((t : Int) - (most : Int)) else 0), L) = _
  rw [this]
theorem one_more_ok {L : UH} {r : Nat} {ws : List Int} {most : Nat} (hr : L[r]? = some (.lst (ws.map U.int))) (hl : ws.length ≤ 1000) (hm : most ≤ 1000) :
    ∃ (r' : Nat) (L' : UH), m_ways_with_one_more [.ref r, .int most] L = some (.ref r', L') ∧ L'[r']? = some (.lst ((more ws most).map U.int)) ∧ Gw L L' ∧ L.length ≤ r' := by
  have hs := seqAt_lst hr
  have hlen := len_lst hr
  rw [List.length_map] at hlen
  have hi : fRng1 (fCons (f2 semAdd (fCall semLen (fCons (fVar 0) fNil)) (fVar 1)) fNil) [some (.ref r), some (.int most)] L = some (.seq (rangeU 0 (ws.length + most)), L) := by
    refine rng1_nat ?_ (by omega)
    simp only [fCons_eq, fNil_eq, f2_eq, fCall_eq, fVar_eq, List.getElem?_cons_succ, List.getElem?_cons_zero, Option.join_some, Option.map_some, Option.bind_some, hlen, semAdd_int]
    rfl
  have hr0 : rangeU 0 (ws.length + most) = (List.range (ws.length + most)).map fun (t : Nat) => U.int (0 + (t : Int)) := rfl
  rw [hr0] at hi
  obtain ⟨x, e⟩ := comp_grow (ix := [none, some 0, some 1]) (fi := fRng1 (fCons (f2 semAdd (fCall semLen (fCons (fVar 0) fNil)) (fVar 1)) fNil)) (it := .seq ((List.range (ws.length + most)).map fun (t : Nat) => U.int (0 + (t : Int)))) (g := gN 0) (tt := none) (fe := b_ways_with_one_more_1e) (δ := [some (.ref r), some (.int most)]) (L := L) (L0 := L)
    (List.range (ws.length + most)) (fun (t : Nat) => U.int (0 + (t : Int))) (fun _ => true) (fun t => .int (stepv ws most t)) (fun δ => ∃ a, δ = [a, some (.ref r), some (.int most)]) hi (by simp [IU.size]) (by simp; omega) ⟨none, rfl⟩
    (fun k x => rfl)
    (fun t δ x _ ⟨y, hδ⟩ => by
      subst hδ
      have h0 : (0 : Int) + (t : Int) = (t : Int) := by omega
      refine ⟨[some (.int (t : Int)), some (.ref r), some (.int most)], by rw [h0]; rfl, ⟨_, rfl⟩, [], by simp [testU], fun _ => ⟨[.lst (((ws.drop (min (t - most) ws.length)).take (min (t + 1) ws.length - min (t - most) ws.length)).map U.int)], ?_⟩⟩
      have hst := step_sum (seqAt_app hs : seqAt (L ++ x) r = _) most t
      have c1 : (f2 semAdd (fVar 0) (fC (.int 1))) [some (.int (t : Int)), some (.ref r), some (.int most)] (L ++ x) = some (.int ((t + 1 : Nat) : Int), L ++ x) := by
        show some (U.int ((t : Int) + 1), L ++ x) = _
        have : (t : Int) + 1 = ((t + 1 : Nat) : Int) := by omega
        rw [this]
      have c2 : (fCall semMax (fCons (fC (.int 0)) (fCons (f2 semSub (fVar 0) (fVar 2)) fNil))) [some (.int (t : Int)), some (.ref r), some (.int most)] (L ++ x) = some (.int ((t - most : Nat) : Int), L ++ x) := by
        simp only [fCall_eq, fCons_eq, fNil_eq, fC_eq, f2_eq, fVar_eq, List.getElem?_cons_succ, List.getElem?_cons_zero, Option.join_some, Option.map_some, Option.bind_some, semSub_int, max0]
      rw [List.append_nil, ← hst]
      unfold b_ways_with_one_more_1e
      rw [fCall_eq, fCons_eq, fSl_eq]
      simp only [fPart_eq, c1, c2, fNil_eq, fVar_eq, List.getElem?_cons_succ, List.getElem?_cons_zero, Option.join_some, Option.map_some, Option.bind_some]
      cases semSl (.ref r) (some ((t - most : Nat) : Int)) (some ((t + 1 : Nat) : Int)) (L ++ x) <;> rfl)
  have hff : List.filter (fun _ => true) (List.range (ws.length + most)) = List.range (ws.length + most) := List.filter_eq_self.mpr (fun _ _ => rfl)
  have hmm : (List.range (ws.length + most)).map (fun t => U.int (stepv ws most t)) = (more ws most).map U.int := by simp [more]
  rw [hff, hmm] at e
  refine ⟨(L ++ x).length, L ++ x ++ [HU.lst ((more ws most).map U.int)], ?_, by simp, ⟨x ++ [HU.lst ((more ws most).map U.int)], by rw [List.append_assoc]⟩, by simp⟩
  unfold m_ways_with_one_more fnU b_ways_with_one_more
  simp only [List.length_cons, List.length_nil, if_true, List.map_cons, List.map_nil, Nat.sub_self, List.replicate_zero, List.append_nil, fRet_eq, e, Option.map_some, Option.bind_some]
theorem fold_take (f : List Int → Nat → List Int) (ps : List Nat) (k : Nat) (h : k < ps.length) : (ps.take (k + 1)).foldl f [1] = f ((ps.take k).foldl f [1]) (ps[k]'h) := by
  rw [List.take_add_one, List.getElem?_eq_getElem h, List.foldl_append]; rfl
noncomputable def places (many : Nat) : List Nat := (List.range many).map fun i => many - 1 - i
theorem fold_len : ∀ (ps : List Nat) (ws : List Int), (ps.foldl more ws).length = ws.length + ps.sum
  | [], ws => by simp
  | p :: ps, ws => by
    rw [List.foldl_cons, fold_len ps, more_len, List.sum_cons]; omega
end Lw
set_option Elab.async false
set_option linter.all false
set_option maxRecDepth 100000
set_option maxHeartbeats 1000000
namespace Lw
open PySem L2 MR
noncomputable def Wj (m j : Nat) : List Int := ((places m).take j).foldl more [1]
theorem Wj_len {m : Nat} (hm : m ≤ 12) (j : Nat) : (Wj m j).length ≤ 100 := by
  unfold Wj
  rw [fold_len]
  have h1 : ((places m).take j).sum ≤ (places m).sum := by
    conv => rhs; rw [← List.take_append_drop j (places m)]
    rw [List.sum_append]; omega
  have h2 : ∀ m, m < 13 → (places m).sum ≤ 90 := by decide
  have := h2 m (by omega)
  have : ([1] : List Int).length = 1 := rfl
  omega
theorem Wj_0 (m : Nat) : Wj m 0 = [1] := rfl
theorem Wj_succ {m j : Nat} (hj : j < m) : Wj m (j + 1) = more (Wj m j) (m - 1 - j) := by
  unfold Wj
  rw [fold_take more (places m) j (by simpa [places] using hj)]
  congr 1
  simp [places]
noncomputable def tailv (ws : List Int) (t : Int) : Int := if 0 ≤ t then ws.getD t.toNat 0 else 0
noncomputable def sumL (ws : List Int) (left : Int) (c : Nat) : Int := ((List.range c).map fun (l : Nat) => tailv ws (left - (l : Int))).sum
noncomputable def leftv (cs : List Int) (k : Nat) : Int := cs.sum - (cs.take k).sum
noncomputable def ahv (cs : List Int) (k : Nat) : Int := ((List.range k).map fun (j : Nat) => sumL (Wj cs.length (cs.length - (j + 1))) (leftv cs j) (cs.getD j 0).toNat).sum
theorem ahv_succ (cs : List Int) (k : Nat) : ahv cs (k + 1) = ahv cs k + sumL (Wj cs.length (cs.length - (k + 1))) (leftv cs k) (cs.getD k 0).toNat := by
  unfold ahv
  rw [List.range_succ, List.map_append, List.sum_append]
  simp
theorem leftv_succ {cs : List Int} {k : Nat} (h : k < cs.length) : leftv cs (k + 1) = leftv cs k - cs.getD k 0 := by
  unfold leftv
  rw [take_one h, List.sum_append]
  simp
  omega
theorem ix_nat {l : List U} {k : Nat} {u : U} (h : l[k]? = some u) : L2.atI l (k : Int) = some u := by
  rw [atI_of (by omega) (by have := (List.getElem?_eq_some_iff.mp h).1; omega), Int.toNat_natCast]; exact h
theorem from_each_all {m : Nat} (hm : m ≤ 12) (L : UH) : ∃ (q : Nat) (ds : List Nat) (L' : UH), m_ways_from_each [.int m] L = some (.ref q, L') ∧ L'[q]? = some (.lst (ds.map U.ref)) ∧ ds.length = m + 1 ∧ (∀ i, i ≤ m → ∃ r, ds[i]? = some r ∧ L'[r]? = some (.lst ((Wj m (m - i)).map U.int))) ∧ Gw L L' := by
  have sm1 : ∀ x : U, small [x].length = true := fun _ => small_of (by show 1 ≤ 16777216; decide)
  have s1 : (fAsg (fLst (fCons (fLst (fCons (fC (.int 1)) fNil)) fNil)) (gN 1)) [some (.int m), none, none] L = some (.nx [some (.int m), some (.ref (L.length + 1)), none], L ++ [.lst [.int 1]] ++ [.lst [.ref L.length]]) := by
    have h1 : (fLst (fCons (fC (.int 1)) fNil)) [some (.int m), none, none] L = some (.ref L.length, L ++ [.lst [.int 1]]) := by
      simp only [fLst_eq, fCons_eq, fC_eq, fNil_eq, Option.bind_some, Option.map_some]
      rw [if_pos (sm1 _)]
    have hl : (L ++ [HU.lst [.int 1]]).length = L.length + 1 := by simp
    rw [fAsg_eq, fLst_eq, fCons_eq, h1]
    simp only [Option.bind_some, fNil_eq, Option.map_some]
    rw [if_pos (sm1 _), hl]
    rfl
  have hi : fRngD (fCons (f2 semSub (fVar 0) (fC (.int 1))) (fCons (fNeg (fC (.int 1))) (fCons (fNeg (fC (.int 1))) fNil))) [some (.int m), some (.ref (L.length + 1)), none] (L ++ [.lst [.int 1]] ++ [.lst [.ref L.length]]) = some (.seq (downU ((m : Int) - 1) m), L ++ [.lst [.int 1]] ++ [.lst [.ref L.length]]) := by
    unfold fRngD
    simp only [fCons_eq, fNil_eq, f2_eq, fVar_eq, fC_eq, fNeg_eq, List.getElem?_cons_succ, List.getElem?_cons_zero, Option.join_some, Option.map_some, Option.bind_some, semSub_int]
    rw [if_pos ⟨trivial, by omega, by omega, by omega, by omega⟩]
    have : ((m : Int) - 1 - -1).toNat = m := by omega
    rw [this]
  obtain ⟨δ', L', e, P⟩ := for_seq (us := downU ((m : Int) - 1) m) (body := b_ways_from_each_1) (g := gN 2)
    (fun k δ' L' => ∃ (y2 : Option U) (rs : List Nat) (r : Nat), δ' = [some (.int m), some (.ref (L.length + 1)), y2] ∧ L'[L.length + 1]? = some (.lst ((rs ++ [r]).map U.ref)) ∧ rs.length = k ∧ (∀ i, i ≤ k → ∃ x, (rs ++ [r])[i]? = some x ∧ x ≠ L.length + 1 ∧ L'[x]? = some (.lst ((Wj m i).map U.int))) ∧ Gw L L' ∧ L.length + 2 ≤ L'.length ∧ k ≤ m)
    hi ⟨none, [], L.length, rfl, by simp, rfl, fun i hi => by
      have : i = 0 := by omega
      subst this
      exact ⟨L.length, rfl, by omega, by rw [Wj_0]; simp [List.getElem?_append]⟩, ⟨[.lst [.int 1], .lst [.ref L.length]], by simp⟩, by simp, by omega⟩
    (fun k u δ M hu ⟨y2, rs, r, hδ, hb, hk, hds, g, hlm, _⟩ => by
      subst hδ
      have hkm : k < m := by
        have := (List.getElem?_eq_some_iff.mp hu).1
        simpa [downU] using this
      have hu' : u = .int ((m - 1 - k : Nat) : Int) := by
        unfold downU at hu
        rw [List.getElem?_map, List.getElem?_range hkm] at hu
        have : (m : Int) - 1 - (k : Int) = ((m - 1 - k : Nat) : Int) := by omega
        rw [← this]
        simpa using hu.symm
      subst hu'
      obtain ⟨x, hx, hne, hr⟩ := hds k (by omega)
      have hx : r = x := by
        rw [List.getElem?_append_right (by omega), hk, Nat.sub_self] at hx
        simpa using hx
      subst hx
      have hwl := Wj_len hm k
      obtain ⟨r', M', e1, hr', g', hge⟩ := one_more_ok (most := m - 1 - k) hr (by omega) (by omega)
      rw [← Wj_succ hkm] at hr'
      have hix : L2.atI ((rs ++ [r]).map U.ref) (-1) = some (.ref r) := by
        have hl : ((rs ++ [r]).map U.ref).length = rs.length + 1 := by simp
        have hj : ixN (rs.length + 1) (-1) = some rs.length := by
          unfold ixN
          rw [if_neg (by omega), if_pos (by omega)]
          congr 1; omega
        unfold L2.atI
        rw [hl, hj, Option.bind_some]
        rw [List.map_append, List.getElem?_append_right (by simp)]
        simp
      have ty := tyU_lst hb
      have hb' := g'.get hb
      have ap := append_ok (.ref r') hb' (by simp; omega)
      have hx : (rs ++ [r]).map U.ref ++ [.ref r'] = ((rs ++ [r]) ++ [r']).map U.ref := by simp
      rw [hx] at ap
      have hlt := (List.getElem?_eq_some_iff.mp hb').1
      refine ⟨[some (.int m), some (.ref (L.length + 1)), some (.int ((m - 1 - k : Nat) : Int))], M, rfl, [some (.int m), some (.ref (L.length + 1)), some (.int ((m - 1 - k : Nat) : Int))], M'.set (L.length + 1) (.lst (((rs ++ [r]) ++ [r']).map U.ref)), .inl ?_, _, rs ++ [r], r', rfl, List.getElem?_set_self hlt, by simp [hk], fun i hi => ?_, (g.trans g').set (by omega) _, by have := g'.le; simp; omega, hkm⟩
      · unfold b_ways_from_each_1
        have i1 : (f2 semIx (fVar 1) (fNeg (fC (.int 1)))) [some (.int m), some (.ref (L.length + 1)), some (.int ((m - 1 - k : Nat) : Int))] M = some (.ref r, M) := by
          simp only [f2_eq, fVar_eq, fC_eq, fNeg_eq, List.getElem?_cons_succ, List.getElem?_cons_zero, Option.join_some, Option.map_some, Option.bind_some, semIx_ref, seqAt_lst hb, hix]
        have i2 : (fOwn 2 m_ways_with_one_more (fCons (f2 semIx (fVar 1) (fNeg (fC (.int 1)))) (fCons (fVar 2) fNil))) [some (.int m), some (.ref (L.length + 1)), some (.int ((m - 1 - k : Nat) : Int))] M = some (.ref r', M') := by
          rw [fOwn_eq, fCons_eq, i1]
          simp only [Option.bind_some, fCons_eq, fVar_eq, fNil_eq, List.getElem?_cons_succ, List.getElem?_cons_zero, Option.join_some, Option.map_some, List.length_cons, List.length_nil, if_true, e1]
        rw [fDrop_eq, fMeth_eq]
        simp only [fVar_eq, List.getElem?_cons_succ, List.getElem?_cons_zero, Option.join_some, Option.map_some, Option.bind_some, ty, if_true]
        rw [fCons_eq, i2]
        simp only [Option.bind_some, fNil_eq, Option.map_some, ap]
      · by_cases hik : i ≤ k
        · obtain ⟨x, hx, hn, hxr⟩ := hds i hik
          refine ⟨x, by rw [List.getElem?_append_left (by have := (List.getElem?_eq_some_iff.mp hx).1; exact this)]; exact hx, hn, ?_⟩
          rw [List.getElem?_set_ne (Ne.symm hn)]; exact g'.get hxr
        · have : i = k + 1 := by omega
          subst this
          refine ⟨r', by rw [List.getElem?_append_right (by simp [hk])]; simp [hk], by omega, ?_⟩
          rw [List.getElem?_set_ne (by omega)]; exact hr')
  obtain ⟨y2, rs, r, hδ, hb, hk, hds, g, hlm, _⟩ := P
  rw [hδ] at e
  have hdl : (downU ((m : Int) - 1) m).length = m := by simp [downU]
  rw [hdl] at hds hk
  have hrev : ((rs ++ [r]).map U.ref).reverse = (rs ++ [r]).reverse.map U.ref := by rw [List.map_reverse]
  refine ⟨L'.length, (rs ++ [r]).reverse, L' ++ [.lst ((rs ++ [r]).reverse.map U.ref)], ?_, by simp, by simp [hk], fun i hi => ?_, g.trans (Gw.new _ _)⟩
  · have s3 : (fLRev (fCons (fVar 1) fNil)) [some (.int m), some (.ref (L.length + 1)), y2] L' = some (.ref L'.length, L' ++ [.lst ((rs ++ [r]).reverse.map U.ref)]) := by
      unfold fLRev
      simp only [fCons_eq, fNil_eq, fVar_eq, List.getElem?_cons_succ, List.getElem?_cons_zero, Option.join_some, Option.map_some, Option.bind_some, seqAt_lst hb, hrev]
    unfold m_ways_from_each fnU b_ways_from_each
    simp only [List.length_cons, List.length_nil, if_true, List.map_cons, List.map_nil, List.replicate, List.cons_append, List.nil_append]
    rw [fSeq_nx s1, fSeq_nx e, fRet_eq, s3]
    rfl
  · obtain ⟨x, hx, _, hxr⟩ := hds (m - i) (by omega)
    refine ⟨x, ?_, (Gw.new L' _).get hxr⟩
    rw [List.getElem?_reverse (by simp; omega), ← hx]
    congr 1
    simp; omega
theorem ways_to_ok {L : UH} {r : Nat} {ws : List Int} (t : Int) (hr : L[r]? = some (.lst (ws.map U.int))) : m_ways_to [.ref r, .int t] L = some (.int (tailv ws t), L) := by
  have hlen := len_lst hr
  rw [List.length_map] at hlen
  have hlc : (fCall semLen (fCons (fVar 0) fNil)) [some (.ref r), some (.int t)] L = some (.int ws.length, L) := by
    simp only [fCall_eq, fCons_eq, fNil_eq, fVar_eq, List.getElem?_cons_zero, Option.join_some, Option.map_some, Option.bind_some, hlen]
  have tt : (fTest (fChain semLe semLt (fC (.int 0)) (fVar 1) (fCall semLen (fCons (fVar 0) fNil)))) [some (.ref r), some (.int t)] L = some (decide (0 ≤ t) && decide (t < ws.length), L) := by
    rw [fTest_eq]
    unfold fChain
    cases h : decide (0 ≤ t) <;> simp [h, hlc, hlen]
  unfold m_ways_to fnU b_ways_to
  simp only [List.length_cons, List.length_nil, if_true, List.map_cons, List.map_nil, Nat.sub_self, List.replicate_zero, List.append_nil]
  rw [fRet_eq, fIf_eq, tt]
  unfold tailv
  by_cases h0 : 0 ≤ t
  · rw [if_pos h0]
    by_cases h1 : t < ws.length
    · have hg : ws.getD t.toNat 0 = ws[t.toNat]'(by omega) := by simp [List.getD_eq_getElem?_getD, show t.toNat < ws.length by omega]
      have hix : L2.atI (ws.map U.int) t = some (.int (ws.getD t.toNat 0)) := by
        rw [atI_of h0 (by simp; omega), List.getElem?_map, List.getElem?_eq_getElem (by omega), hg]; rfl
      simp only [decide_eq_true h0, decide_eq_true h1, Bool.and_self, Option.bind_some, if_true, f2_eq, fVar_eq, List.getElem?_cons_succ, List.getElem?_cons_zero, Option.join_some, Option.map_some, semIx_ref, seqAt_lst hr, hix]
    · have hg : ws.getD t.toNat 0 = 0 := by rw [List.getD_eq_getElem?_getD, List.getElem?_eq_none (by omega)]; rfl
      simp only [decide_eq_true h0, decide_eq_false h1, Bool.and_false, Option.bind_some, Bool.false_eq_true, if_false, fC_eq, hg, Option.map_some]
  · rw [if_neg h0]
    simp only [decide_eq_false h0, Bool.false_and, Option.bind_some, Bool.false_eq_true, if_false, fC_eq, Option.map_some]
theorem sum_ref {L : UH} {r : Nat} {l : List Int} (h : L[r]? = some (.lst (l.map U.int))) : semSum [.ref r] L = some (.int l.sum, L) := by
  simp only [semSum, seqAt_lst h, Option.bind_some, toI_ints, Option.map_some]
theorem less_comp {M : UH} {q r k c : Nat} {ds : List Nat} {ws : List Int} {left found : Int} (hq : M[q]? = some (.lst (ds.map U.ref))) (hr : ds[k + 1]? = some r) (hd : M[r]? = some (.lst (ws.map U.int))) (hc : c ≤ 1000) (x0 x2 : Option U) :
    ∃ M', (fAsg (f2 semAdd (fVar 4) (fCall semSum (fCons (fComp [none, some 1, some 5, some 3] (fRng1 (fCons (fVar 6) fNil)) (gN 0) none b_place_of_row_2e) fNil))) (gN 4)) [x0, some (.ref q), x2, some (.int left), some (.int found), some (.int (k : Int)), some (.int (c : Int))] M = some (.nx [x0, some (.ref q), x2, some (.int left), some (.int (found + sumL ws left c)), some (.int (k : Int)), some (.int (c : Int))], M') ∧ Gw M M' := by
  have hi : fRng1 (fCons (fVar 6) fNil) [x0, some (.ref q), x2, some (.int left), some (.int found), some (.int (k : Int)), some (.int (c : Int))] M = some (.seq ((List.range c).map fun (t : Nat) => U.int (0 + (t : Int))), M) := rng1_nat (n := c) rfl (by omega)
  have hix : L2.atI (ds.map U.ref) ((k + 1 : Nat) : Int) = some (.ref r) := ix_nat (by rw [List.getElem?_map, hr]; rfl)
  have h1 : ((k : Int) + 1) = ((k + 1 : Nat) : Int) := by omega
  obtain ⟨x, e⟩ := comp_grow (ix := [none, some 1, some 5, some 3]) (fi := fRng1 (fCons (fVar 6) fNil)) (it := .seq ((List.range c).map fun (t : Nat) => U.int (0 + (t : Int)))) (g := gN 0) (tt := none) (fe := b_place_of_row_2e) (δ := [x0, some (.ref q), x2, some (.int left), some (.int found), some (.int (k : Int)), some (.int (c : Int))]) (L := M) (L0 := M)
    (List.range c) (fun (t : Nat) => U.int (0 + (t : Int))) (fun _ => true) (fun (t : Nat) => .int (tailv ws (left - (t : Int)))) (fun δ => ∃ a, δ = [a, some (.ref q), some (.int (k : Int)), some (.int left)]) hi (by simp [IU.size]) (by simp; omega) ⟨none, rfl⟩
    (fun k x => rfl)
    (fun t δ x _ ⟨y, hδ⟩ => by
      subst hδ
      have h0 : (0 : Int) + (t : Int) = (t : Int) := by omega
      rw [h0]
      refine ⟨[some (.int (t : Int)), some (.ref q), some (.int (k : Int)), some (.int left)], rfl, ⟨_, rfl⟩, [], by simp [testU], fun _ => ⟨[], ?_⟩⟩
      rw [List.append_nil, List.append_nil]
      have hq' : (M ++ x)[q]? = some (.lst (ds.map U.ref)) := (Gw.new M x).get hq
      have e1 : (f2 semIx (fVar 1) (f2 semAdd (fVar 2) (fC (.int 1)))) [some (.int (t : Int)), some (.ref q), some (.int (k : Int)), some (.int left)] (M ++ x) = some (.ref r, M ++ x) := by
        simp only [f2_eq, fVar_eq, fC_eq, List.getElem?_cons_succ, List.getElem?_cons_zero, Option.join_some, Option.map_some, Option.bind_some, semAdd_int, semIx_ref, seqAt_lst hq', h1, hix]
      unfold b_place_of_row_2e
      rw [fOwn_eq, fCons_eq, e1]
      simp only [Option.bind_some, fCons_eq, f2_eq, fVar_eq, fNil_eq, List.getElem?_cons_succ, List.getElem?_cons_zero, Option.join_some, Option.map_some, semSub_int, List.length_cons, List.length_nil, if_true, ways_to_ok (left - (t : Int)) ((Gw.new M x).get hd)])
  have hff : List.filter (fun _ => true) (List.range c) = List.range c := List.filter_eq_self.mpr (fun _ _ => rfl)
  have hmm : (List.range c).map (fun (t : Nat) => U.int (tailv ws (left - (t : Int)))) = ((List.range c).map fun (t : Nat) => tailv ws (left - (t : Int))).map U.int := by simp
  rw [hff, hmm] at e
  have hs := sum_ref (L := M ++ x ++ [HU.lst (((List.range c).map fun (t : Nat) => tailv ws (left - (t : Int))).map U.int)]) (r := (M ++ x).length) (l := (List.range c).map fun (t : Nat) => tailv ws (left - (t : Int))) (by simp)
  refine ⟨M ++ x ++ [HU.lst (((List.range c).map fun (t : Nat) => tailv ws (left - (t : Int))).map U.int)], ?_, ⟨x ++ [HU.lst (((List.range c).map fun (t : Nat) => tailv ws (left - (t : Int))).map U.int)], by rw [List.append_assoc]⟩⟩
  rw [fAsg_eq, f2_eq]
  have h4 : fVar 4 [x0, some (.ref q), x2, some (.int left), some (.int found), some (.int (k : Int)), some (.int (c : Int))] M = some (.int found, M) := rfl
  rw [h4, Option.bind_some, fCall_eq, fCons_eq, e]
  simp only [Option.bind_some, fNil_eq, Option.map_some, hs, semAdd_int, gN_eq, List.set_cons_succ, List.set_cons_zero]
  rfl
theorem cntv_len (row : List Int) : (cntv row).length = row.length := by simp [cntv]
theorem cntv_mem {row : List Int} {c : Int} (h : c ∈ cntv row) : 0 ≤ c ∧ c ≤ row.length := by
  unfold cntv at h
  obtain ⟨i, hi, rfl⟩ := List.mem_map.mp h
  have : gtv row i ≤ row.length := by
    unfold gtv
    exact Nat.le_trans (List.length_filter_le _ _) (by rw [List.length_take]; omega)
  omega
theorem place_ok {row : List Int} (hl : row.length ≤ 12) (L : UH) : ∃ L', m_place_of_row [.tup (row.map U.int)] L = some (.int (ahv (cntv row) row.length), L') ∧ Gw L L' := by
  have hlen : semLen [.tup (row.map U.int)] L = some (.int row.length, L) := by simp [semLen, lenU]
  obtain ⟨q, ds, L1, e1, hq, hdl, hds, g1⟩ := from_each_all hl L
  obtain ⟨K2, e2, g2⟩ := counts_of_ok row L1 (by omega)
  have hcl := cntv_len row
  have hcm : ∀ c ∈ cntv row, 0 ≤ c ∧ c ≤ row.length := fun c h => cntv_mem h
  generalize cntv row = cs at e2 hcl hcm
  have s1 : (fAsg (fOwn 1 m_ways_from_each (fCons (fCall semLen (fCons (fVar 0) fNil)) fNil)) (gN 1)) [some (.tup (row.map U.int)), none, none, none, none, none, none] L = some (.nx [some (.tup (row.map U.int)), some (.ref q), none, none, none, none, none], L1) := by
    simp only [fAsg_eq, fOwn_eq, fCall_eq, fCons_eq, fNil_eq, fVar_eq, List.getElem?_cons_succ, List.getElem?_cons_zero, Option.join_some, Option.map_some, Option.bind_some, hlen, List.length_cons, List.length_nil, if_true, e1, gN_eq, List.set_cons_succ, List.set_cons_zero]
  have s2 : (fAsg (fOwn 1 m_counts_of (fCons (fVar 0) fNil)) (gN 2)) [some (.tup (row.map U.int)), some (.ref q), none, none, none, none, none] L1 = some (.nx [some (.tup (row.map U.int)), some (.ref q), some (.tup (cs.map U.int)), none, none, none, none], K2) := by
    simp only [fAsg_eq, fOwn_eq, fCons_eq, fNil_eq, fVar_eq, List.getElem?_cons_succ, List.getElem?_cons_zero, Option.join_some, Option.map_some, Option.bind_some, List.length_cons, List.length_nil, if_true, e2, gN_eq, List.set_cons_succ, List.set_cons_zero]
  have s3 : (fAsg (fCall semSum (fCons (fVar 2) fNil)) (gN 3)) [some (.tup (row.map U.int)), some (.ref q), some (.tup (cs.map U.int)), none, none, none, none] K2 = some (.nx [some (.tup (row.map U.int)), some (.ref q), some (.tup (cs.map U.int)), some (.int cs.sum), none, none, none], K2) := by
    simp only [fAsg_eq, fCall_eq, fCons_eq, fNil_eq, fVar_eq, List.getElem?_cons_succ, List.getElem?_cons_zero, Option.join_some, Option.map_some, Option.bind_some, sum_tup, gN_eq, List.set_cons_succ, List.set_cons_zero]
  have s4 : (fAsg (fC (.int 0)) (gN 4)) [some (.tup (row.map U.int)), some (.ref q), some (.tup (cs.map U.int)), some (.int cs.sum), none, none, none] K2 = some (.nx [some (.tup (row.map U.int)), some (.ref q), some (.tup (cs.map U.int)), some (.int cs.sum), some (.int 0), none, none], K2) := rfl
  have hi : (fEnumA (fCons (fVar 2) fNil)) [some (.tup (row.map U.int)), some (.ref q), some (.tup (cs.map U.int)), some (.int cs.sum), some (.int 0), none, none] K2 = some (.seq ((List.range cs.length).map fun (i : Nat) => U.tup [.int (i : Int), .int (cs.getD i 0)]), K2) := by
    rw [← enum_ints]; rfl
  obtain ⟨δ', L', e, P⟩ := for_seq (us := (List.range cs.length).map fun (i : Nat) => U.tup [.int (i : Int), .int (cs.getD i 0)]) (body := b_place_of_row_1) (g := (MR.gTup 2 (MR.gCons (gN 5) (MR.gCons (gN 6) MR.gNil))))
    (fun k δ' L' => Gw K2 L' ∧ ∃ z5 z6, δ' = [some (.tup (row.map U.int)), some (.ref q), some (.tup (cs.map U.int)), some (.int (leftv cs k)), some (.int (ahv cs k)), z5, z6])
    hi ⟨.refl _, none, none, by
      have h1 : leftv cs 0 = cs.sum := by unfold leftv; simp
      have h2 : ahv cs 0 = 0 := rfl
      rw [h1, h2]⟩
    (fun k u δ M' hu ⟨gM, z5, z6, hδ⟩ => by
      subst hδ
      rw [List.getElem?_map] at hu
      obtain ⟨t, ht, rfl⟩ := Option.map_eq_some_iff.mp hu
      have hk : k < cs.length := by
        have := (List.getElem?_eq_some_iff.mp ht).1
        simpa using this
      rw [List.getElem?_range hk] at ht
      cases ht
      have hmem : cs.getD k 0 ∈ cs := by rw [List.getD_eq_getElem?_getD, List.getElem?_eq_getElem hk]; exact List.getElem_mem hk
      obtain ⟨c0, c1⟩ := hcm _ hmem
      obtain ⟨c, hcc⟩ : ∃ c : Nat, cs.getD k 0 = c := ⟨(cs.getD k 0).toNat, by omega⟩
      obtain ⟨r, hr, hd⟩ := hds (k + 1) (by omega)
      obtain ⟨M2, el, g3⟩ := less_comp (left := leftv cs k) (found := ahv cs k) (gM.get (g2.get hq)) hr (gM.get (g2.get hd)) (c := c) (by omega) (some (.tup (row.map U.int))) (some (.tup (cs.map U.int)))
      have hs := ahv_succ cs k
      rw [hcc, Int.toNat_natCast, hcl] at hs
      rw [← hs, ← hcc] at el
      refine ⟨[some (.tup (row.map U.int)), some (.ref q), some (.tup (cs.map U.int)), some (.int (leftv cs k)), some (.int (ahv cs k)), some (.int (k : Int)), some (.int (cs.getD k 0))], M', rfl, _, M2, .inl ?_, gM.trans g3, some (.int (k : Int)), some (.int (cs.getD k 0)), rfl⟩
      unfold b_place_of_row_1
      rw [fSeq_nx el, leftv_succ hk]
      rfl)
  obtain ⟨gM, z5, z6, hδ⟩ := P
  rw [List.length_map, List.length_range, hcl] at hδ
  rw [hδ] at e
  refine ⟨L', ?_, g1.trans (g2.trans gM)⟩
  unfold m_place_of_row fnU b_place_of_row
  simp only [List.length_cons, List.length_nil, if_true, List.map_cons, List.map_nil, List.replicate, List.cons_append, List.nil_append]
  rw [fSeq_nx s1, fSeq_nx s2, fSeq_nx s3, fSeq_nx s4, fSeq_nx e, fRet_eq]
  rfl
end Lw
set_option Elab.async false
set_option linter.all false
set_option maxRecDepth 100000
set_option maxHeartbeats 1000000
namespace Lw
open PySem L2 MR
theorem lrng2_ok {g : FA} {δ : UE} {L L' : UH} {i j : Int} (hg : g δ L = some ([.int i, .int j], L')) (h0 : 0 ≤ i) (h1 : i < 1000000) (h2 : 0 ≤ j) (h3 : j < 1000000) : fLRng2 g δ L = some (.ref L'.length, L' ++ [.lst (rangeU i (j - i).toNat)]) := by
  unfold fLRng2
  rw [hg]
  simp only [Option.bind_some]
  rw [if_pos ⟨by omega, by omega, by omega, by omega, by omega⟩]
theorem lrng2_nat {g : FA} {δ : UE} {L L' : UH} {n : Nat} (hg : g δ L = some ([.int 1, .int ((n : Int) + 1)], L')) (h : n ≤ 1000) : fLRng2 g δ L = some (.ref L'.length, L' ++ [.lst (rangeU 1 n)]) := by
  have := lrng2_ok hg (by omega) (by omega) (by omega) (by omega)
  rw [this, Int.add_sub_cancel, Int.toNat_natCast]
theorem if_no {c : FT} {f : FS} {δ : UE} {L L' : UH} (h : c δ L = some (false, L')) : fIfS c f fNext δ L = some (.nx δ, L') := by
  rw [fIfS_eq, h]; rfl
theorem or_no {c d : FT} {δ : UE} {L L1 L2 : UH} (h : c δ L = some (false, L1)) (h2 : d δ L1 = some (false, L2)) : fOr c d δ L = some (false, L2) := by
  rw [fOr_eq, h]
  exact h2
theorem test_ok {f : FE} {δ : UE} {L L' : UH} {b : Bool} (h : f δ L = some (.bl b, L')) : fTest f δ L = some (b, L') := by
  rw [fTest_eq, h]; rfl
theorem f2_ok {s : S2} {fa fb : FE} {δ : UE} {L L1 L2 L3 : UH} {u v w : U} (h1 : fa δ L = some (u, L1)) (h2 : fb δ L1 = some (v, L2)) (h : s u v L2 = some (w, L3)) : f2 s fa fb δ L = some (w, L3) := by
  rw [f2_eq, h1]; simp only [Option.bind_some, h2, h]
theorem fnN {n k : Nat} {b : FS} {us : List U} {v : U} {L L' : UH} (hn : us.length = k) (h : b (us.map some ++ List.replicate (n - k) none) L = some (.rt v, L')) : fnU n k b us L = some (v, L') := by
  subst hn
  unfold fnU
  rw [if_pos rfl, h]
  rfl
theorem for2 {fi : FI} {g : FG} {body : FS} {a b : U} {δ δ1 δ2 δ3 δ4 : UE} {L L0 L1 L2 L3 L4 : UH} (hi : fi δ L = some (.seq [a, b], L0)) (g1 : g a δ L0 = some (δ1, L1)) (b1 : body δ1 L1 = some (.nx δ2, L2)) (g2 : g b δ2 L2 = some (δ3, L3)) (b2 : body δ3 L3 = some (.nx δ4, L4)) :
    fFor fi g body δ L = some (.nx δ4, L4) := by
  rw [fFor_eq, hi]
  show loopU (.seq [a, b]) g body 3 0 δ L0 = _
  have e0 : (IU.seq [a, b]).at 0 L0 = some (some a) := rfl
  have e1 : (IU.seq [a, b]).at 1 L2 = some (some b) := rfl
  have e2 : (IU.seq [a, b]).at 2 L4 = some none := rfl
  unfold loopU
  rw [e0]
  simp only [g1, Option.bind_some, b1]
  unfold loopU
  rw [e1]
  simp only [g2, Option.bind_some, b2]
  unfold loopU
  rw [e2]
theorem while_no {c : FT} {body : FS} {m : Nat} {δ : UE} {L L1 : UH} (h : c δ L = some (false, L1)) : whileU c body (m + 1) δ L = some (.nx δ, L1) := by
  unfold whileU
  rw [h]; rfl
theorem while_yes {c : FT} {body : FS} {m : Nat} {δ δ2 : UE} {L L1 L2 : UH} (h : c δ L = some (true, L1)) (hb : body δ L1 = some (.nx δ2, L2)) : whileU c body (m + 1) δ L = whileU c body m δ2 L2 := by
  conv => lhs; unfold whileU
  rw [h]
  simp only [Option.bind_some, if_true, hb]
theorem need_tup {c : Int} (hc : c = 0 ∨ c = 1) (L : UH) : m_need_counts [.tup [.int 0, .int c]] L = some (.non, L) := by
  rcases hc with rfl | rfl <;> rfl
theorem need_lst {c : Int} (hc : c = 0 ∨ c = 1) {L : UH} {n : Nat} (h : L[n]? = some (.lst [.int 0, .int c])) : m_need_counts [.ref n] L = some (.non, L) := by
  obtain ⟨δ', L', e, hL⟩ := for_enm (fe := fVar 0) (g := MR.gTup 2 (MR.gCons (gN 1) (MR.gCons (gN 2) MR.gNil))) (body := b_need_counts_1) (us := [.int 0, .int c]) (n := n) (δ := [some (.ref n), none, none]) (L := L) (L0 := L)
    (fun k δ' L' => L' = L ∧ ∃ y1 y2, δ' = [some (.ref n), y1, y2]) rfl ⟨rfl, none, none, rfl⟩ (fun k δ L' ⟨hL, _⟩ => by rw [hL]; exact seqAt_lst h)
    (fun k u δ M hu ⟨hM, y1, y2, hδ⟩ => by
      subst hM; subst hδ
      refine ⟨[some (.ref n), some (.int (k : Int)), some u], M, rfl, [some (.ref n), some (.int (k : Int)), some u], M, .inl ?_, rfl, _, _, rfl⟩
      match k, hu with
      | 0, hu => cases hu; rfl
      | 1, hu => cases hu; rcases hc with rfl | rfl <;> rfl
      | k + 2, hu => simp at hu)
  rw [hL.1] at e
  unfold m_need_counts fnU b_need_counts
  simp only [List.length_cons, List.length_nil, if_true, List.map_cons, List.map_nil, List.replicate, List.cons_append, List.nil_append]
  rw [e]
  rfl
noncomputable def rowOf (c : Int) : List Int := [1 + c, 2 - c]
theorem pop1 {L : UH} {n : Nat} {c : Int} (hc : c = 0 ∨ c = 1) (h : L[n]? = some (.lst [.int 1, .int 2])) : semPop (.ref n) [.int (1 - c)] L = some (.int (2 - c), L.set n (.lst [.int (1 + c)])) := by
  rcases hc with rfl | rfl
  · exact pop_ok h (by omega) (by simp) (by simp)
  · exact pop_ok h (by omega) (by simp) (by simp)
theorem row_turn {L : UH} {u : U} {n m : Nat} {p c x : Int} {l r : List U} {w : U} (hix : semIx u (.int p) L = some (.int c, L)) (hp : semPop (.ref n) [.int (p - c)] L = some (w, L.set n (.lst l))) (hn : n < L.length) (hne : n ≠ m) (hl : ∃ l0, L[n]? = some (.lst l0)) (hm : L[m]? = some (.lst r)) (hr : r.length < 100) :
    b_row_of_1 [some u, some (.ref n), some (.ref m), some (.int p)] L = some (.nx [some u, some (.ref n), some (.ref m), some (.int p)], (L.set n (.lst l)).set m (.lst (r ++ [w]))) := by
  obtain ⟨l0, hl0⟩ := hl
  have hm' : (L.set n (.lst l))[m]? = some (.lst r) := by rw [List.getElem?_set_ne hne]; exact hm
  have ty1 := tyU_lst hm
  have ty2 := tyU_lst hl0
  have ap := append_ok w hm' (by omega)
  have a1 : (f2 semSub (fVar 3) (f2 semIx (fVar 0) (fVar 3))) [some u, some (.ref n), some (.ref m), some (.int p)] L = some (.int (p - c), L) := f2_ok rfl (f2_ok rfl rfl hix) rfl
  unfold b_row_of_1
  have a2 : (fMeth "list" semPop (fVar 1) (fCons (f2 semSub (fVar 3) (f2 semIx (fVar 0) (fVar 3))) fNil)) [some u, some (.ref n), some (.ref m), some (.int p)] L = some (w, L.set n (.lst l)) := by
    rw [fMeth_eq]
    show (if tyU "list" (.ref n) L = true then _ else _) = _
    rw [if_pos ty2, fCons_eq, a1]
    exact hp
  rw [fDrop_eq, fMeth_eq]
  show Option.map _ (if tyU "list" (.ref m) L = true then _ else _) = _
  rw [if_pos ty1, fCons_eq, a2]
  simp only [Option.bind_some, fNil_eq, Option.map_some, ap]
theorem row_of_ok {c : Int} (hc : c = 0 ∨ c = 1) (u : U) (L : UH) (hu : ∀ M, Gw L M → m_need_counts [u] M = some (.non, M) ∧ semLen [u] M = some (.int 2, M) ∧ semIx u (.int 0) M = some (.int 0, M) ∧ semIx u (.int 1) M = some (.int c, M)) :
    ∃ L', m_row_of [u] L = some (.tup ((rowOf c).map U.int), L') ∧ Gw L L' := by
  have h0 := hu L (.refl _)
  have s1 : (fDrop (fOwn 1 m_need_counts (fCons (fVar 0) fNil))) [some u, none, none, none] L = some (.nx [some u, none, none, none], L) := by
    rw [fDrop_eq, own1 rfl h0.1]; rfl
  have s2 : (fAsg (fLRng2 (fCons (fC (.int 1)) (fCons (f2 semAdd (fCall semLen (fCons (fVar 0) fNil)) (fC (.int 1))) fNil))) (gN 1)) [some u, none, none, none] L = some (.nx [some u, some (.ref L.length), none, none], L ++ [.lst [.int 1, .int 2]]) := by
    have hlen : (fCall semLen (fCons (fVar 0) fNil)) [some u, none, none, none] L = some (.int 2, L) := h0.2.1
    have ha : (f2 semAdd (fCall semLen (fCons (fVar 0) fNil)) (fC (.int 1))) [some u, none, none, none] L = some (.int 3, L) := f2_ok hlen rfl rfl
    have hg : (fCons (fC (.int 1)) (fCons (f2 semAdd (fCall semLen (fCons (fVar 0) fNil)) (fC (.int 1))) fNil)) [some u, none, none, none] L = some ([.int 1, .int ((2 : Nat) + 1)], L) := by
      rw [fCons_eq, fC_eq]
      simp only [Option.bind_some]
      rw [fCons_eq, ha]; rfl
    exact setN (lrng2_nat (n := 2) hg (by omega))
  have s3 : (fAsg (fLst fNil) (gN 2)) [some u, some (.ref L.length), none, none] (L ++ [.lst [.int 1, .int 2]]) = some (.nx [some u, some (.ref L.length), some (.ref (L.length + 1)), none], L ++ [.lst [.int 1, .int 2]] ++ [.lst []]) := by
    have := setN (i := 2) (lst0 [some u, some (.ref L.length), none, none] (L ++ [.lst [.int 1, .int 2]]))
    have hl : (L ++ [HU.lst [.int 1, .int 2]]).length = L.length + 1 := by simp
    rw [hl] at this
    exact this
  generalize hM : L ++ [HU.lst [.int 1, .int 2]] ++ [.lst []] = M at s3
  have gM : Gw L M := ⟨[.lst [.int 1, .int 2], .lst []], by rw [← hM]; simp⟩
  have hn : M[L.length]? = some (.lst [.int 1, .int 2]) := by rw [← hM]; simp
  have hm : M[L.length + 1]? = some (.lst []) := by rw [← hM]; simp
  have hml : M.length = L.length + 2 := by rw [← hM]; simp
  have h1 := hu M gM
  have hi : fRngD (fCons (f2 semSub (fCall semLen (fCons (fVar 0) fNil)) (fC (.int 1))) (fCons (fNeg (fC (.int 1))) (fCons (fNeg (fC (.int 1))) fNil))) [some u, some (.ref L.length), some (.ref (L.length + 1)), none] M = some (.seq [.int 1, .int 0], M) := by
    have hlen : (fCall semLen (fCons (fVar 0) fNil)) [some u, some (.ref L.length), some (.ref (L.length + 1)), none] M = some (.int 2, M) := h1.2.1
    have ha : (f2 semSub (fCall semLen (fCons (fVar 0) fNil)) (fC (.int 1))) [some u, some (.ref L.length), some (.ref (L.length + 1)), none] M = some (.int 1, M) := f2_ok hlen rfl rfl
    unfold fRngD
    rw [fCons_eq, ha]
    rfl
  have t1 := row_turn (x := 0) (n := L.length) (m := L.length + 1) h1.2.2.2 (pop1 hc hn) (by omega) (by omega) ⟨_, hn⟩ hm (by simp)
  generalize hM2 : (M.set L.length (.lst [.int (1 + c)])).set (L.length + 1) (.lst ([] ++ [.int (2 - c)])) = M2 at t1
  have g2 : Gw L M2 := by rw [← hM2]; exact (gM.set (by omega) _).set (by omega) _
  have hn2 : M2[L.length]? = some (.lst [.int (1 + c)]) := by
    rw [← hM2, List.getElem?_set_ne (by omega), List.getElem?_set_self (by omega)]
  have hm2 : M2[L.length + 1]? = some (.lst [.int (2 - c)]) := by
    rw [← hM2, List.getElem?_set_self (by simp; omega)]; rfl
  have hl2 : M2.length = L.length + 2 := by rw [← hM2]; simp [hml]
  have h2 := hu M2 g2
  have t2 := row_turn (x := 0) (n := L.length) (m := L.length + 1) h2.2.2.1 (pop_ok (i := 0 - 0) hn2 (by omega) (by simp) (by simp)) (by omega) (by omega) ⟨_, hn2⟩ hm2 (by simp)
  have s4 := for2 (g := gN 3) (body := b_row_of_1) hi rfl t1 rfl t2
  generalize hM3 : (M2.set L.length _).set (L.length + 1) (.lst ([.int (2 - c)] ++ [_])) = M3 at s4
  have g3 : Gw L M3 := by rw [← hM3]; exact (g2.set (by omega) _).set (by omega) _
  have hm3 : M3[L.length + 1]? = some (.lst [.int (2 - c), .int (1 + c)]) := by
    rw [← hM3, List.getElem?_set_self (by simp; omega)]; rfl
  refine ⟨M3, ?_, g3⟩
  have s5 : (fTRev (fCons (fVar 2) fNil)) [some u, some (.ref L.length), some (.ref (L.length + 1)), some (.int 0)] M3 = some (.tup ((rowOf c).map U.int), M3) := by
    unfold fTRev
    show Option.map _ (seqAt M3 (L.length + 1)) = _
    rw [seqAt_lst hm3]; rfl
  refine fn1 (n := 3) ?_
  unfold b_row_of
  show fSeq _ _ [some u, none, none, none] L = _
  rw [fSeq_nx s1, fSeq_nx s2, fSeq_nx s3, fSeq_nx s4]
  exact ret_ok s5
end Lw
set_option Elab.async false
set_option linter.all false
set_option maxRecDepth 100000
set_option maxHeartbeats 1000000
namespace Lw
open PySem L2 MR
theorem W20 : Wj 2 0 = [1] := by decide +kernel
theorem W21 : Wj 2 1 = [1, 1] := by decide +kernel
theorem W22 : Wj 2 2 = [1, 1] := by decide +kernel
theorem ix_ref {L : UH} {n : Nat} {l : List U} {i : Int} {u : U} (h : L[n]? = some (.lst l)) (hu : L2.atI l i = some u) : semIx (.ref n) (.int i) L = some (u, L) := by
  rw [semIx_ref, seqAt_lst h]
  simp only [Option.bind_some, hu, Option.map_some]
section
variable {L : UH} {q r1 r2 m : Nat} {c : Int}
noncomputable def nthD (c : Int) (q m : Nat) (left ahead : Int) (turn own : Option U) : UE := [some (.int 2), some (.int c), some (.int 0), some (.ref q), some (.ref m), some (.int left), some (.int ahead), turn, own]
theorem nth_ways {ws : List Int} {ds : List Nat} {t k : Nat} {r : Nat} {left own ahead v : Int} (hq : L[q]? = some (.lst (ds.map U.ref))) (hk : k = t + 1) (hd : ds[k]? = some r) (hr : L[r]? = some (.lst (ws.map U.int))) (hv : tailv ws (left - own) = v) :
    (fOwn 2 m_ways_to (fCons (f2 semIx (fVar 3) (f2 semAdd (fVar 7) (fC (.int 1)))) (fCons (f2 semSub (fVar 5) (fVar 8)) fNil))) (nthD c q m left ahead (some (.int t)) (some (.int own))) L = some (.int v, L) := by
  have hi : semIx (.ref q) (.int ((t : Int) + 1)) L = some (.ref r, L) := by
    have : (t : Int) + 1 = (k : Int) := by omega
    rw [this]
    exact ix_ref hq (ix_nat (by rw [List.getElem?_map, hd]; rfl))
  rw [← hv]
  exact own2 (f2_ok rfl (f2_ok rfl rfl rfl) hi) (f2_ok rfl rfl rfl) (ways_to_ok (left - own) hr)
theorem nth_stop {ws : List Int} {ds : List Nat} {t k : Nat} {r : Nat} {left own ahead v : Int} (hq : L[q]? = some (.lst (ds.map U.ref))) (hk : k = t + 1) (hd : ds[k]? = some r) (hr : L[r]? = some (.lst (ws.map U.int))) (hv : tailv ws (left - own) = v) :
    b_nth_row_2c (nthD c q m left ahead (some (.int t)) (some (.int own))) L = some (decide (v ≤ ahead), L) := by
  unfold b_nth_row_2c
  exact test_ok (f2_ok rfl (nth_ways hq hk hd hr hv) rfl)
theorem nth_more {ws : List Int} {ds : List Nat} {t k : Nat} {r : Nat} {left own ahead v : Int} (hq : L[q]? = some (.lst (ds.map U.ref))) (hk : k = t + 1) (hd : ds[k]? = some r) (hr : L[r]? = some (.lst (ws.map U.int))) (hv : tailv ws (left - own) = v) :
    b_nth_row_2 (nthD c q m left ahead (some (.int t)) (some (.int own))) L = some (.nx (nthD c q m left (ahead - v) (some (.int t)) (some (.int (own + 1)))), L) := by
  have s1 : (fAsg (f2 semSub (fVar 6) (fOwn 2 m_ways_to (fCons (f2 semIx (fVar 3) (f2 semAdd (fVar 7) (fC (.int 1)))) (fCons (f2 semSub (fVar 5) (fVar 8)) fNil)))) (gN 6)) (nthD c q m left ahead (some (.int t)) (some (.int own))) L = some (.nx (nthD c q m left (ahead - v) (some (.int t)) (some (.int own))), L) :=
    setN (f2_ok rfl (nth_ways hq hk hd hr hv) rfl)
  unfold b_nth_row_2
  rw [fSeq_nx s1]
  rfl
theorem nth_end {own left ahead : Int} {t : Nat} {l : List U} (hm : L[m]? = some (.lst l)) (hl : l.length < 100) :
    (fSeq (fDrop (fMeth "list" semAppend (fVar 4) (fCons (fVar 8) fNil))) (fAsg (f2 semSub (fVar 5) (fVar 8)) (gN 5))) (nthD c q m left ahead (some (.int t)) (some (.int own))) L = some (.nx (nthD c q m (left - own) ahead (some (.int t)) (some (.int own))), L.set m (.lst (l ++ [.int own]))) := by
  have ap := append_ok (.int own) hm (by omega)
  have s1 : (fDrop (fMeth "list" semAppend (fVar 4) (fCons (fVar 8) fNil))) (nthD c q m left ahead (some (.int t)) (some (.int own))) L = some (.nx (nthD c q m left ahead (some (.int t)) (some (.int own))), L.set m (.lst (l ++ [.int own]))) := by
    rw [fDrop_eq, fMeth_eq]
    show Option.map _ (if tyU "list" (.ref m) L = true then semAppend (.ref m) [.int own] L else _) = _
    rw [if_pos (tyU_lst hm), ap]
    rfl
  rw [fSeq_nx s1]
  rfl
theorem nth_turn0 {ws : List Int} {ds : List Nat} {t k : Nat} {r : Nat} {left : Int} {v : Int} {y8 : Option U} {l : List U} (hq : L[q]? = some (.lst (ds.map U.ref))) (hk : k = t + 1) (hd : ds[k]? = some r) (hr : L[r]? = some (.lst (ws.map U.int))) (hv : tailv ws (left - 0) = v) (hv0 : 0 < v) (hm : L[m]? = some (.lst l)) (hl : l.length < 100) :
    b_nth_row_1 (nthD c q m left 0 (some (.int t)) y8) L = some (.nx (nthD c q m left 0 (some (.int t)) (some (.int 0))), L.set m (.lst (l ++ [.int 0]))) := by
  have s1 : (fAsg (fC (.int 0)) (gN 8)) (nthD c q m left 0 (some (.int t)) y8) L = some (.nx (nthD c q m left 0 (some (.int t)) (some (.int 0))), L) := rfl
  have c0 := nth_stop (c := c) (m := m) (ahead := 0) hq hk hd hr hv
  have hdec : decide (v ≤ 0) = false := by simp; omega
  rw [hdec] at c0
  have s2 := while_no (body := b_nth_row_2) (m := 99999) c0
  have e := nth_end (c := c) (q := q) (own := 0) (left := left) (ahead := 0) (t := t) hm hl
  have hz : left - 0 = left := by omega
  rw [hz] at e
  unfold b_nth_row_1
  rw [fSeq_nx s1, fSeq_nx s2]
  exact e
theorem nth_turn1 {ws : List Int} {ds : List Nat} {t k : Nat} {r : Nat} {left : Int} {v : Int} {y8 : Option U} {l : List U} (hq : L[q]? = some (.lst (ds.map U.ref))) (hk : k = t + 1) (hd : ds[k]? = some r) (hr : L[r]? = some (.lst (ws.map U.int))) (hv : tailv ws (left - 0) = 0) (hv1 : tailv ws (left - 1) = v) (hv0 : 0 < v) (hm : L[m]? = some (.lst l)) (hl : l.length < 100) :
    b_nth_row_1 (nthD c q m left 0 (some (.int t)) y8) L = some (.nx (nthD c q m (left - 1) 0 (some (.int t)) (some (.int 1))), L.set m (.lst (l ++ [.int 1]))) := by
  have s1 : (fAsg (fC (.int 0)) (gN 8)) (nthD c q m left 0 (some (.int t)) y8) L = some (.nx (nthD c q m left 0 (some (.int t)) (some (.int 0))), L) := rfl
  have c0 := nth_stop (c := c) (m := m) (ahead := 0) hq hk hd hr hv
  have b0 := nth_more (c := c) (m := m) (ahead := 0) hq hk hd hr hv
  have hv1' : tailv ws (left - (0 + 1)) = v := hv1
  have c1 := nth_stop (c := c) (m := m) (own := 0 + 1) (ahead := 0 - 0) hq hk hd hr hv1'
  have hdec : decide (v ≤ (0 - 0 : Int)) = false := by simp; omega
  rw [hdec] at c1
  have s2 := (while_yes (m := 99999) c0 b0).trans (while_no (body := b_nth_row_2) (m := 99998) c1)
  unfold b_nth_row_1
  rw [fSeq_nx s1, fSeq_nx s2]
  exact nth_end (c := c) (q := q) (own := 1) (left := left) (ahead := 0) (t := t) hm hl
end
theorem nth_row_ok {c : Int} (hc : c = 0 ∨ c = 1) (L : UH) : ∃ L', m_nth_row [.int 2, .int c, .int 0] L = some (.tup ((rowOf c).map U.int), L') ∧ Gw L L' := by
  obtain ⟨q, ds, L1, e1, hq, hdl, hds, g1⟩ := from_each_all (m := 2) (by omega) L
  obtain ⟨r0, hd0, hr0⟩ := hds 0 (by omega)
  obtain ⟨r1, hd1, hr1⟩ := hds 1 (by omega)
  obtain ⟨r2, hd2, hr2⟩ := hds 2 (by omega)
  rw [show 2 - 0 = 2 from rfl, W22] at hr0
  rw [show 2 - 1 = 1 from rfl, W21] at hr1
  rw [show 2 - 2 = 0 from rfl, W20] at hr2
  have hq1 := (List.getElem?_eq_some_iff.mp hq).1
  have s1 : (fAsg (fOwn 1 m_ways_from_each (fCons (fVar 0) fNil)) (gN 3)) [some (.int 2), some (.int c), some (.int 0), none, none, none, none, none, none] L = some (.nx [some (.int 2), some (.int c), some (.int 0), some (.ref q), none, none, none, none, none], L1) := setN (own1 rfl e1)
  have hi0 : semIx (.ref q) (.int 0) L1 = some (.ref r0, L1) := ix_ref hq (ix_nat (k := 0) (by rw [List.getElem?_map, hd0]; rfl))
  have hw0 : m_ways_to [.ref r0, .int c] L1 = some (.int 1, L1) := by
    rw [ways_to_ok c hr0]
    rcases hc with rfl | rfl <;> rfl
  have s2 : (fIfS (fOr (fTest (f2 semLt (fVar 2) (fC (.int 0)))) (fTest (f2 semGe (fVar 2) (fOwn 2 m_ways_to (fCons (f2 semIx (fVar 3) (fC (.int 0))) (fCons (fVar 1) fNil)))))) fNever fNext) [some (.int 2), some (.int c), some (.int 0), some (.ref q), none, none, none, none, none] L1 = some (.nx [some (.int 2), some (.int c), some (.int 0), some (.ref q), none, none, none, none, none], L1) := by
    refine if_no (or_no (test_ok (f2_ok rfl rfl rfl)) (test_ok (f2_ok rfl (own2 (f2_ok rfl rfl hi0) rfl hw0) rfl)))
  have s3 : (fAsg (fLst fNil) (gN 4)) [some (.int 2), some (.int c), some (.int 0), some (.ref q), none, none, none, none, none] L1 = some (.nx [some (.int 2), some (.int c), some (.int 0), some (.ref q), some (.ref L1.length), none, none, none, none], L1 ++ [.lst []]) := setN (lst0 _ _)
  have s4 : (fAsg (fVar 1) (gN 5)) [some (.int 2), some (.int c), some (.int 0), some (.ref q), some (.ref L1.length), none, none, none, none] (L1 ++ [.lst []]) = some (.nx [some (.int 2), some (.int c), some (.int 0), some (.ref q), some (.ref L1.length), some (.int c), none, none, none], L1 ++ [.lst []]) := rfl
  have s5 : (fAsg (fVar 2) (gN 6)) [some (.int 2), some (.int c), some (.int 0), some (.ref q), some (.ref L1.length), some (.int c), none, none, none] (L1 ++ [.lst []]) = some (.nx (nthD c q L1.length c 0 none none), L1 ++ [.lst []]) := rfl
  have gn : Gw L1 (L1 ++ [.lst []]) := .new _ _
  have hm : (L1 ++ [HU.lst []])[L1.length]? = some (.lst []) := by simp
  have t1 := nth_turn0 (c := c) (q := q) (t := 0) (left := c) (v := 1) (y8 := none) (gn.get hq) rfl hd1 (gn.get hr1) (by rcases hc with rfl | rfl <;> rfl) (by omega) hm (by simp)
  have g2 : Gw L1 ((L1 ++ [HU.lst []]).set L1.length (.lst ([] ++ [.int 0]))) := gn.set (by omega) _
  have hm2 : ((L1 ++ [HU.lst []]).set L1.length (.lst ([] ++ [.int 0])))[L1.length]? = some (.lst [.int 0]) := by
    rw [List.getElem?_set_self (by simp)]; rfl
  generalize ((L1 ++ [HU.lst []]).set L1.length (.lst ([] ++ [.int 0]))) = M at t1 g2 hm2
  have t2 : ∃ (left : Int) (y : Option U), b_nth_row_1 (nthD c q L1.length c 0 (some (.int 1)) (some (.int 0))) M = some (.nx (nthD c q L1.length left 0 (some (.int 1)) y), M.set L1.length (.lst ([.int 0] ++ [.int c]))) := by
    rcases hc with rfl | rfl
    · exact ⟨_, _, nth_turn0 (q := q) (t := 1) (v := 1) (g2.get hq) rfl hd2 (g2.get hr2) rfl (by omega) hm2 (by simp)⟩
    · exact ⟨_, _, nth_turn1 (q := q) (t := 1) (v := 1) (g2.get hq) rfl hd2 (g2.get hr2) rfl rfl (by omega) hm2 (by simp)⟩
  obtain ⟨left, y, t2⟩ := t2
  have hi : (fRng1 (fCons (fVar 0) fNil)) (nthD c q L1.length c 0 none none) (L1 ++ [.lst []]) = some (.seq [.int 0, .int 1], L1 ++ [.lst []]) := rng1_nat (n := 2) rfl (by omega)
  have s6 := for2 (g := gN 7) (body := b_nth_row_1) hi rfl t1 rfl t2
  have g3 : Gw L1 (M.set L1.length (.lst ([.int 0] ++ [.int c]))) := g2.set (by omega) _
  have hm3 : (M.set L1.length (.lst ([.int 0] ++ [.int c])))[L1.length]? = some (.lst [.int 0, .int c]) := by
    rw [List.getElem?_set_self (List.getElem?_eq_some_iff.mp hm2).1]; rfl
  generalize (M.set L1.length (.lst ([.int 0] ++ [.int c]))) = M3 at s6 g3 hm3
  obtain ⟨L4, e4, g4⟩ := row_of_ok hc (.ref L1.length) M3 fun N gN => by
    have h := gN.get hm3
    exact ⟨need_lst hc h, by rw [len_lst h]; rfl, ix_ref h rfl, ix_ref h rfl⟩
  refine ⟨L4, fnN rfl ?_, g1.trans (g3.trans g4)⟩
  unfold b_nth_row
  show fSeq _ _ [some (.int 2), some (.int c), some (.int 0), none, none, none, none, none, none] L = _
  rw [fSeq_nx s1, fSeq_nx s2, fSeq_nx s3, fSeq_nx s4, fSeq_nx s5, fSeq_nx s6]
  exact ret_ok (own1 rfl e4)
end Lw
set_option Elab.async false
set_option linter.all false
set_option maxRecDepth 100000
set_option maxHeartbeats 1000000
namespace Lw
open PySem L2 MR
theorem ne_same {u : U} (h : Pl 6 u) (L : UH) : semNe u u L = some (.bl false, L) := by rw [semNe_pl L h h, eqB_self h]; rfl
theorem eq_same {u : U} (h : Pl 6 u) (L : UH) : semEq u u L = some (.bl true, L) := by rw [semEq_pl L h h, eqB_self h]
theorem twice {f : FN} {fa : FE} {u v : U} {δ : UE} (ha : ∀ M, fa δ M = some (u, M)) (h : ∀ M, ∃ M', f [u] M = some (v, M') ∧ Gw M M') (hp : Pl 6 v) (L : UH) : ∃ L', (fTest (f2 semNe (fOwn 1 f (fCons fa fNil)) (fOwn 1 f (fCons fa fNil)))) δ L = some (false, L') ∧ Gw L L' := by
  obtain ⟨L1, e1, g1⟩ := h L
  obtain ⟨L2, e2, g2⟩ := h L1
  exact ⟨L2, test_ok (f2_ok (own1e (ha L) e1) (own1e (ha L1) e2) (ne_same hp L2)), g1.trans g2⟩
theorem pl_intf {β : Type} (l : List β) (f : β → Int) : Pl 6 (.tup (l.map fun p => U.int (f p))) := by
  have : (l.map fun p => U.int (f p)) = (l.map f).map U.int := by rw [List.map_map]; rfl
  rw [this]; exact pl_ints _
section
variable {c : Int}
theorem cnt_row (hc : c = 0 ∨ c = 1) (a : Int) : cntv [a, a + (1 - 2 * c)] = [0, c] := by
  have e : cntv [a, a + (1 - 2 * c)] = [((gtv [a, a + (1 - 2 * c)] 0 : Nat) : Int), ((gtv [a, a + (1 - 2 * c)] 1 : Nat) : Int)] := rfl
  have e0 : gtv [a, a + (1 - 2 * c)] 0 = 0 := rfl
  have e1 : gtv [a, a + (1 - 2 * c)] 1 = ([a].filter fun o => decide (a + (1 - 2 * c) < o)).length := rfl
  rw [e, e0, e1]
  rcases hc with rfl | rfl
  · have : decide (a + (1 - 2 * 0) < a) = false := by simp; omega
    rw [List.filter_cons, this]; rfl
  · have : decide (a + (1 - 2 * 1) < a) = true := by simp; omega
    rw [List.filter_cons, this]; rfl
theorem cnt_rowOf (hc : c = 0 ∨ c = 1) : cntv (rowOf c) = [0, c] := by rcases hc with rfl | rfl <;> decide +kernel
theorem ah_rowOf (hc : c = 0 ∨ c = 1) : ahv (cntv (rowOf c)) (rowOf c).length = 0 := by rcases hc with rfl | rfl <;> decide +kernel
theorem count_of_ok {row : List Int} (hr : cntv row = [0, c]) (hl : row.length ≤ 12) (L : UH) : ∃ L', m_count_of [.tup (row.map U.int)] L = some (.int c, L') ∧ Gw L L' := by
  obtain ⟨L1, e1, g1⟩ := counts_of_ok row L (by omega)
  rw [hr] at e1
  refine ⟨L1, fnN rfl ?_, g1⟩
  have hs := sum_tup [0, c] L1
  rw [show ([0, c] : List Int).sum = c from by simp] at hs
  have e2 : (fOwn 1 m_counts_of (fCons (fVar 0) fNil)) [some (.tup (row.map U.int))] L = some (.tup (([0, c] : List Int).map U.int), L1) := own1 rfl e1
  unfold b_count_of
  refine ret_ok ?_
  show (fCall semSum (fCons (fOwn 1 m_counts_of (fCons (fVar 0) fNil)) fNil)) [some (.tup (row.map U.int))] L = _
  rw [fCall_eq, fCons_eq, e2]
  exact hs
theorem row_of_tup (hc : c = 0 ∨ c = 1) (L : UH) : ∃ L', m_row_of [.tup [.int 0, .int c]] L = some (.tup ((rowOf c).map U.int), L') ∧ Gw L L' :=
  row_of_ok hc _ L fun M _ => ⟨need_tup hc M, rfl, rfl, rfl⟩
theorem rows_with_2 (L : UH) : ∃ L', m_rows_with [.int 2] L = some (.tup (([1, 1] : List Int).map U.int), L') ∧ Gw L L' := by
  obtain ⟨q, ds, L1, e1, hq, hdl, hds, g1⟩ := from_each_all (m := 2) (by omega) L
  obtain ⟨r0, hd0, hr0⟩ := hds 0 (by omega)
  rw [show 2 - 0 = 2 from rfl, W22] at hr0
  have hi0 : semIx (.ref q) (.int 0) L1 = some (.ref r0, L1) := ix_ref hq (ix_nat (k := 0) (by rw [List.getElem?_map, hd0]; rfl))
  refine ⟨L1, fnN rfl ?_, g1⟩
  unfold b_rows_with
  refine ret_ok ?_
  have e2 : (f2 semIx (fOwn 1 m_ways_from_each (fCons (fVar 0) fNil)) (fC (.int 0))) [some (.int 2)] L = some (.ref r0, L1) := f2_ok (own1 rfl e1) rfl hi0
  show (fCall semTuple (fCons (f2 semIx (fOwn 1 m_ways_from_each (fCons (fVar 0) fNil)) (fC (.int 0))) fNil)) [some (.int 2)] L = _
  rw [fCall_eq, fCons_eq, e2]
  simp only [Option.bind_some, fNil_eq, Option.map_some]
  unfold semTuple
  simp only [seqAt_lst hr0, Option.map_some]
theorem rows_right_ok (hc : c = 0 ∨ c = 1) (a : Int) (L : UH) : ∃ L', m_l_rows_right [.tup [.int a, .int (a + (1 - 2 * c))]] L = some (.bl true, L') ∧ Gw L L' := by
  have hC : ∀ M, ∃ M', m_counts_of [.tup [.int a, .int (a + (1 - 2 * c))]] M = some (.tup [.int 0, .int c], M') ∧ Gw M M' := fun M => by
    obtain ⟨M', e, g⟩ := counts_of_ok [a, a + (1 - 2 * c)] M (by simp)
    rw [cnt_row hc] at e
    exact ⟨M', e, g⟩
  have hS : ∀ M, ∃ M', m_count_of [.tup [.int a, .int (a + (1 - 2 * c))]] M = some (.int c, M') ∧ Gw M M' := fun M => count_of_ok (row := [a, a + (1 - 2 * c)]) (cnt_row hc a) (by simp) M
  have hP : ∀ M, ∃ M', m_place_of_row [.tup ((rowOf c).map U.int)] M = some (.int 0, M') ∧ Gw M M' := fun M => by
    obtain ⟨M', e, g⟩ := place_ok (row := rowOf c) (by simp [rowOf]) M
    rw [ah_rowOf hc] at e
    exact ⟨M', e, g⟩
  obtain ⟨L1, e1, g1⟩ := hC L
  obtain ⟨L2, e2, g2⟩ := hC L1
  obtain ⟨L3, e3, g3⟩ := twice (fa := fVar 0) (δ := [some (.tup [.int a, .int (a + (1 - 2 * c))]), some (.tup [.int 0, .int c]), none, none]) (fun _ => rfl) hS (Pl.int _ _) L2
  obtain ⟨L4, e4, g4⟩ := twice (fa := fVar 1) (δ := [some (.tup [.int a, .int (a + (1 - 2 * c))]), some (.tup [.int 0, .int c]), none, none]) (fun _ => rfl) (row_of_tup hc) (pl_ints _) L3
  obtain ⟨L5, e5, g5⟩ := twice (fa := fC (.int 2)) (δ := [some (.tup [.int a, .int (a + (1 - 2 * c))]), some (.tup [.int 0, .int c]), none, none]) (fun _ => rfl) rows_with_2 (pl_ints _) L4
  obtain ⟨L6, e6, g6⟩ := row_of_tup hc L5
  obtain ⟨L7, e7, g7⟩ := hP L6
  obtain ⟨L8, e8, g8⟩ := hP L7
  obtain ⟨L9, e9, g9⟩ := count_of_ok (row := rowOf c) (cnt_rowOf hc) (by simp [rowOf]) L8
  obtain ⟨L10, e10, g10⟩ := nth_row_ok hc L9
  have s1 : (fAsg (fOwn 1 m_counts_of (fCons (fVar 0) fNil)) (gN 1)) [some (.tup [.int a, .int (a + (1 - 2 * c))]), none, none, none] L = some (.nx [some (.tup [.int a, .int (a + (1 - 2 * c))]), some (.tup [.int 0, .int c]), none, none], L1) := setN (own1 rfl e1)
  have t2 : (fTest (f2 semNe (fOwn 1 m_counts_of (fCons (fVar 0) fNil)) (fVar 1))) [some (.tup [.int a, .int (a + (1 - 2 * c))]), some (.tup [.int 0, .int c]), none, none] L1 = some (false, L2) := test_ok (f2_ok (own1 rfl e2) rfl (ne_self [0, c] L2))
  have s4 : (fAsg (fOwn 1 m_row_of (fCons (fVar 1) fNil)) (gN 2)) [some (.tup [.int a, .int (a + (1 - 2 * c))]), some (.tup [.int 0, .int c]), none, none] L5 = some (.nx [some (.tup [.int a, .int (a + (1 - 2 * c))]), some (.tup [.int 0, .int c]), some (.tup ((rowOf c).map U.int)), none], L6) := setN (own1 rfl e6)
  have s5 : (fAsg (fOwn 1 m_place_of_row (fCons (fVar 2) fNil)) (gN 3)) [some (.tup [.int a, .int (a + (1 - 2 * c))]), some (.tup [.int 0, .int c]), some (.tup ((rowOf c).map U.int)), none] L6 = some (.nx [some (.tup [.int a, .int (a + (1 - 2 * c))]), some (.tup [.int 0, .int c]), some (.tup ((rowOf c).map U.int)), some (.int 0)], L7) := setN (own1 rfl e7)
  have k1 : (f2 semEq (fOwn 1 m_place_of_row (fCons (fVar 2) fNil)) (fVar 3)) [some (.tup [.int a, .int (a + (1 - 2 * c))]), some (.tup [.int 0, .int c]), some (.tup ((rowOf c).map U.int)), some (.int 0)] L7 = some (.bl true, L8) := f2_ok (own1 rfl e8) rfl rfl
  have k2 : (fOwn 3 m_nth_row (fCons (fC (.int 2)) (fCons (fOwn 1 m_count_of (fCons (fVar 2) fNil)) (fCons (fVar 3) fNil)))) [some (.tup [.int a, .int (a + (1 - 2 * c))]), some (.tup [.int 0, .int c]), some (.tup ((rowOf c).map U.int)), some (.int 0)] L8 = some (.tup ((rowOf c).map U.int), L10) := by
    have h1 : (fOwn 1 m_count_of (fCons (fVar 2) fNil)) [some (.tup [.int a, .int (a + (1 - 2 * c))]), some (.tup [.int 0, .int c]), some (.tup ((rowOf c).map U.int)), some (.int 0)] L8 = some (.int c, L9) := own1 rfl e9
    rw [fOwn_eq, fCons_eq, fC_eq, Option.bind_some, fCons_eq, h1]
    exact e10
  have k3 : (f2 semEq (fOwn 3 m_nth_row (fCons (fC (.int 2)) (fCons (fOwn 1 m_count_of (fCons (fVar 2) fNil)) (fCons (fVar 3) fNil)))) (fVar 2)) [some (.tup [.int a, .int (a + (1 - 2 * c))]), some (.tup [.int 0, .int c]), some (.tup ((rowOf c).map U.int)), some (.int 0)] L8 = some (.bl true, L10) := f2_ok k2 rfl (eq_same (pl_ints _) L10)
  refine ⟨L10, fnN rfl ?_, g1.trans (g2.trans (g3.trans (g4.trans (g5.trans (g6.trans (g7.trans (g8.trans (g9.trans g10))))))))⟩
  unfold b_l_rows_right
  show fSeq _ _ [some (.tup [.int a, .int (a + (1 - 2 * c))]), none, none, none] L = _
  rw [fSeq_nx s1, fSeq_nx (if_no (or_no t2 e3)), fSeq_nx (if_no (or_no e4 e5)), fSeq_nx s4, fSeq_nx s5]
  refine ret_ok ?_
  rw [fAndV_eq, k1]
  exact k3
end
end Lw
set_option Elab.async false
set_option linter.all false
set_option maxRecDepth 100000
set_option maxHeartbeats 1000000
namespace Lw
open PySem L2 MR
theorem pl_tri (ts : List Tri) : Pl 6 (.tup (ts.map triU)) := by
  rw [pl_tup]
  intro u hu
  obtain ⟨t, _, rfl⟩ := List.mem_map.mp hu
  unfold triU
  rw [pl_tup]
  intro w hw
  simp only [List.mem_cons, List.not_mem_nil, or_false] at hw
  rcases hw with rfl | rfl | rfl <;> exact Pl.int _ _
theorem Nm.asc {w : Str} (h : Nm w) : asc w := asc_of fun c hc => by have := h.2.2 c hc; omega
theorem pl_pt {p : Str × (Int × Int)} (h : Nm p.1) (n : Nat) : Pl (n + 1) (ptU p) := by
  unfold ptU
  rw [pl_tup]
  intro u hu
  simp only [List.mem_cons, List.not_mem_nil, or_false] at hu
  have h6 := ok_asc h.asc
  rcases hu with rfl | rfl | rfl
  · cases n <;> simpa [Pl] using h6
  · exact Pl.int _ _
  · exact Pl.int _ _
theorem pl_pts {ps : List (Str × (Int × Int))} (h : ∀ p ∈ ps, Nm p.1) : Pl 6 (.tup (ps.map ptU)) := by
  rw [pl_tup]
  intro u hu
  obtain ⟨p, hp, rfl⟩ := List.mem_map.mp hu
  exact pl_pt (h p hp) 4
noncomputable abbrev Pt := Str × (Int × Int)
theorem pairs_right_ok {ps : List Pt} (hl : ps.length ≤ 60) (L : UH) : ∃ L', m_l_pairs_right [.tup (ps.map ptU)] L = some (.bl true, L') ∧ Gw L L' := by
  obtain ⟨L1, e1, g1⟩ := twice (fa := fVar 0) (δ := [some (.tup (ps.map ptU))]) (fun _ => rfl) (fun M => below_each_ok ps M (by omega)) (pl_intf _ _) L
  obtain ⟨L2, e2, g2⟩ := twice (fa := fVar 0) (δ := [some (.tup (ps.map ptU))]) (fun _ => rfl) (fun M => above_each_ok ps M (by omega)) (pl_intf _ _) L1
  obtain ⟨L3, e3, g3⟩ := twice (fa := fVar 0) (δ := [some (.tup (ps.map ptU))]) (fun _ => rfl) (fun M => pairs_ok ps M (by omega)) (Pl.int _ _) L2
  obtain ⟨L4, e4, g4⟩ := twice (fa := fVar 0) (δ := [some (.tup (ps.map ptU))]) (fun _ => rfl) (fun M => halves_of_ok ps hl M) (pl_tri _) L3
  obtain ⟨L5, e5, g5⟩ := halves_of_ok ps hl L4
  obtain ⟨L6, e6, g6⟩ := halves_of_ok ps hl L5
  have h1 : m_halves_shown [.tup (ps.map ptU), .tup ((hv (sp (ps.map (·.2))) 0 ps.length).map triU)] L5 = some (.bl true, L6) := by
    refine fnN rfl ?_
    unfold b_halves_shown
    exact ret_ok (f2_ok rfl (own1 rfl e6) (eq_same (pl_tri _) L6))
  refine ⟨L6, fnN rfl ?_, g1.trans (g2.trans (g3.trans (g4.trans (g5.trans g6))))⟩
  unfold b_l_pairs_right
  show fSeq _ _ [some (.tup (ps.map ptU))] L = _
  rw [fSeq_nx (if_no (or_no e1 e2)), fSeq_nx (if_no (or_no e3 e4))]
  exact ret_ok (f2_ok (own2 rfl (own1 rfl e5) h1) rfl rfl)
theorem texts_right_ok {p q : Pt} (P : Pts [p, q]) (L : UH) : ∃ L', m_l_texts_right [.tup ([p, q].map ptU)] L = some (.bl true, L') ∧ Gw L L' := by
  have hasc : asc (txt [p, q]) := txt_asc P.nm
  obtain ⟨L1, e1, g1⟩ := shown_ok P.ptl L
  obtain ⟨L2, e2, g2⟩ := shown_ok P.ptl L1
  obtain ⟨L3, e3, g3⟩ := twice (fa := fVar 1) (δ := [some (.tup ([p, q].map ptU)), some (.str (txt [p, q])), none, none]) (fun _ => rfl) (fun M => read_ok P M) (pl_pts P.nm) L2
  obtain ⟨x4, e4⟩ := lies_ok p.2 q.2 L3
  obtain ⟨x5, e5⟩ := lies_ok p.2 q.2 (L3 ++ x4)
  have s1 : (fAsg (fOwn 1 m_points_shown (fCons (fVar 0) fNil)) (gN 1)) [some (.tup ([p, q].map ptU)), none, none, none] L = some (.nx [some (.tup ([p, q].map ptU)), some (.str (txt [p, q])), none, none], L1) := setN (own1 rfl e1)
  have hne : semNe (.str (txt [p, q])) (.str (txt [p, q])) L2 = some (.bl false, L2) := ne_same (ok_asc hasc) L2
  have t2 : (fTest (f2 semNe (fOwn 1 m_points_shown (fCons (fVar 0) fNil)) (fVar 1))) [some (.tup ([p, q].map ptU)), some (.str (txt [p, q])), none, none] L1 = some (false, L2) := test_ok (f2_ok (own1 rfl e2) rfl hne)
  have s3 : (fAsg (fSl semSl (f2 semIx (fVar 0) (fC (.int 0))) (fPart (fC (.int 1))) fNoPart) (gN 2)) [some (.tup ([p, q].map ptU)), some (.str (txt [p, q])), none, none] L3 = some (.nx [some (.tup ([p, q].map ptU)), some (.str (txt [p, q])), some (pr p.2), none], L3) := rfl
  have s4 : (fAsg (fSl semSl (f2 semIx (fVar 0) (fC (.int 1))) (fPart (fC (.int 1))) fNoPart) (gN 3)) [some (.tup ([p, q].map ptU)), some (.str (txt [p, q])), some (pr p.2), none] L3 = some (.nx [some (.tup ([p, q].map ptU)), some (.str (txt [p, q])), some (pr p.2), some (pr q.2)], L3) := rfl
  refine ⟨L3 ++ x4 ++ x5, fnN rfl ?_, g1.trans (g2.trans (g3.trans ⟨x4 ++ x5, by simp⟩))⟩
  unfold b_l_texts_right
  show fSeq _ _ [some (.tup ([p, q].map ptU)), none, none, none] L = _
  rw [fSeq_nx s1, fSeq_nx (if_no (or_no t2 e3)), fSeq_nx s3, fSeq_nx s4]
  exact ret_ok (f2_ok (own2 rfl rfl e4) (own2 rfl rfl e5) (by generalize below p.2 q.2 = b; cases b <;> rfl))
noncomputable def dg (cell : Int) (k : Nat) : Int := cell / (([1, 7, 49, 343] : List Int).getD k 1) % 7 - 3
theorem dg_bound (cell : Int) (k : Nat) : -3 ≤ dg cell k ∧ dg cell k ≤ 3 := by
  unfold dg
  generalize cell / (([1, 7, 49, 343] : List Int).getD k 1) = x
  omega
theorem lst4 (δ : UE) (L : UH) : (fLst (fCons (fC (.int 1)) (fCons (fC (.int 7)) (fCons (fC (.int 49)) (fCons (fC (.int 343)) fNil))))) δ L = some (.ref L.length, L ++ [.lst (([1, 7, 49, 343] : List Int).map U.int)]) := by
  simp only [fLst_eq, fCons_eq, fC_eq, fNil_eq, Option.bind_some, Option.map_some]
  rw [if_pos (small_of (by show 4 ≤ 16777216; decide))]
  rfl
theorem spot_e (cell : Int) {k : Nat} (hk : k < 4) (L : UH) : b_l_spots_1e [some (.int k), some (.int cell)] L = some (.int (dg cell k), L ++ [.lst (([1, 7, 49, 343] : List Int).map U.int)]) := by
  have hat : (L ++ [HU.lst (([1, 7, 49, 343] : List Int).map U.int)])[L.length]? = some (.lst (([1, 7, 49, 343] : List Int).map U.int)) := by simp
  have hix : semIx (.ref L.length) (.int k) (L ++ [.lst (([1, 7, 49, 343] : List Int).map U.int)]) = some (.int (([1, 7, 49, 343] : List Int).getD k 1), L ++ [.lst (([1, 7, 49, 343] : List Int).map U.int)]) := by
    refine ix_ref hat (ix_nat ?_)
    match k, hk with
    | 0, _ => rfl
    | 1, _ => rfl
    | 2, _ => rfl
    | 3, _ => rfl
  have hpos : 0 < (([1, 7, 49, 343] : List Int).getD k 1) ∧ (([1, 7, 49, 343] : List Int).getD k 1) < 1000 := by
    match k, hk with
    | 0, _ => decide
    | 1, _ => decide
    | 2, _ => decide
    | 3, _ => decide
  have hdiv : semDiv (.int cell) (.int (([1, 7, 49, 343] : List Int).getD k 1)) (L ++ [.lst (([1, 7, 49, 343] : List Int).map U.int)]) = some (.int (cell / (([1, 7, 49, 343] : List Int).getD k 1)), L ++ [.lst (([1, 7, 49, 343] : List Int).map U.int)]) := by
    rw [semDiv_int, if_pos (divOk_of hpos.1 (by omega))]
  unfold b_l_spots_1e dg
  generalize (([1, 7, 49, 343] : List Int).getD k 1) = z at hix hdiv
  exact f2_ok (f2_ok (f2_ok rfl (f2_ok (lst4 _ L) rfl hix) hdiv) rfl rfl) rfl rfl
noncomputable def spA (cell : Int) : Pt := ("ab", (dg cell 0, dg cell 1))
noncomputable def spB (cell : Int) : Pt := ("b", (dg cell 2, dg cell 3))
theorem ab_cps : (Str.cps "ab").toList = [97, 98] := by decide +kernel
theorem b_cps : (Str.cps "b").toList = [98] := by decide +kernel
theorem sp_pts (cell : Int) : Pts [spA cell, spB cell] := by
  have na : Nm "ab" := by
    refine ⟨by rw [len_cps, ab_cps]; decide, by rw [len_cps, ab_cps]; decide, fun c hc => ?_⟩
    rw [ab_cps] at hc
    simp at hc; omega
  have nb : Nm "b" := by
    refine ⟨by rw [len_cps, b_cps]; decide, by rw [len_cps, b_cps]; decide, fun c hc => ?_⟩
    rw [b_cps] at hc
    simp at hc; omega
  have d0 := dg_bound cell 0
  have d1 := dg_bound cell 1
  have d2 := dg_bound cell 2
  have d3 := dg_bound cell 3
  refine ⟨fun p hp => ?_, ?_, fun p hp => ?_, by simp⟩
  · rcases List.mem_cons.mp hp with h | h
    · subst h; exact na
    · rw [List.mem_singleton.mp h]; exact nb
  · refine List.nodup_cons.mpr ⟨fun h => ?_, List.nodup_cons.mpr ⟨by simp, List.nodup_nil⟩⟩
    have h : ("ab" : Str) = "b" := by simpa [spA, spB] using h
    have := congrArg (fun s : Str => s.cps.toList) h
    rw [ab_cps, b_cps] at this
    cases this
  · rcases List.mem_cons.mp hp with h | h
    · subst h; exact ⟨⟨by show (-9999999999 : Int) ≤ dg cell 0; omega, by show dg cell 0 ≤ _; omega⟩, by show (-9999999999 : Int) ≤ dg cell 1; omega, by show dg cell 1 ≤ _; omega⟩
    · rw [List.mem_singleton.mp h]; exact ⟨⟨by show (-9999999999 : Int) ≤ dg cell 2; omega, by show dg cell 2 ≤ _; omega⟩, by show (-9999999999 : Int) ≤ dg cell 3; omega, by show dg cell 3 ≤ _; omega⟩
theorem spots_ok (cell : Int) (L : UH) : ∃ L', m_l_spots [.int cell] L = some (.tup ([spA cell, spB cell].map ptU), L') ∧ Gw L L' := by
  have hi : (fRng1 (fCons (fC (.int 4)) fNil)) [some (.int cell), none] L = some (.seq ((List.range 4).map fun (k : Nat) => U.int (k : Int)), L) := rng1_nat (n := 4) rfl (by omega)
  obtain ⟨x, e⟩ := comp_grow (ix := [none, some 0]) (fi := fRng1 (fCons (fC (.int 4)) fNil)) (it := .seq ((List.range 4).map fun (k : Nat) => U.int (k : Int))) (g := gN 0) (tt := none) (fe := b_l_spots_1e) (δ := [some (.int cell), none]) (L := L) (L0 := L)
    (List.range 4) (fun (k : Nat) => U.int (k : Int)) (fun _ => true) (fun k => .int (dg cell k)) (fun δ => ∃ a, δ = [a, some (.int cell)]) hi (by simp [IU.size]) (by simp) ⟨none, rfl⟩
    (fun k x => rfl)
    (fun k δ x hk ⟨y, hδ⟩ => by
      subst hδ
      refine ⟨[some (.int (k : Int)), some (.int cell)], rfl, ⟨_, rfl⟩, [], by simp [testU], fun _ => ⟨[.lst (([1, 7, 49, 343] : List Int).map U.int)], ?_⟩⟩
      simp only [List.append_nil]
      exact spot_e cell (List.mem_range.mp hk) _)
  have hf : ((List.range 4).filter (fun _ => true)).map (fun k => U.int (dg cell k)) = [.int (dg cell 0), .int (dg cell 1), .int (dg cell 2), .int (dg cell 3)] := rfl
  rw [hf] at e
  generalize hM : L ++ x ++ [HU.lst [.int (dg cell 0), .int (dg cell 1), .int (dg cell 2), .int (dg cell 3)]] = M at e
  have hat : M[(L ++ x).length]? = some (.lst [.int (dg cell 0), .int (dg cell 1), .int (dg cell 2), .int (dg cell 3)]) := by rw [← hM]; simp
  have gM : Gw L M := ⟨x ++ [HU.lst [.int (dg cell 0), .int (dg cell 1), .int (dg cell 2), .int (dg cell 3)]], by rw [← hM]; simp⟩
  generalize (L ++ x).length = n at e hat
  have hx : ∀ (k : Nat) (i : Int) (u : U), i = k → [U.int (dg cell 0), .int (dg cell 1), .int (dg cell 2), .int (dg cell 3)][k]? = some u → (f2 semIx (fVar 1) (fC (.int i))) [some (.int cell), some (.ref n)] M = some (u, M) := fun k i u hik h => by subst hik; exact f2_ok rfl rfl (ix_ref hat (ix_nat h))
  have tp : ∀ {s : String} {fa fb : FE} {a b : Int}, fa [some (.int cell), some (.ref n)] M = some (.int a, M) → fb [some (.int cell), some (.ref n)] M = some (.int b, M) → (fTup (fCons (fC (.str s)) (fCons fa (fCons fb fNil)))) [some (.int cell), some (.ref n)] M = some (.tup [.str s, .int a, .int b], M) := fun ha hb => by
    rw [fTup_eq, fCons_eq, fC_eq, Option.bind_some, fCons_eq, ha, Option.bind_some, fCons_eq, hb]
    simp only [Option.bind_some, fNil_eq, Option.map_some]
    rw [if_pos (small_of (by show 3 ≤ 16777216; decide))]
  have p1 := tp (s := "ab") (hx 0 0 _ rfl rfl) (hx 1 1 _ rfl rfl)
  have p2 := tp (s := "b") (hx 2 2 _ rfl rfl) (hx 3 3 _ rfl rfl)
  refine ⟨M, fnN rfl ?_, gM⟩
  unfold b_l_spots
  show fSeq _ _ [some (.int cell), none] L = _
  rw [fSeq_nx (setN e)]
  refine ret_ok ?_
  show (fTup (fCons _ (fCons _ fNil))) [some (.int cell), some (.ref n)] M = _
  rw [fTup_eq, fCons_eq, p1, Option.bind_some, fCons_eq, p2]
  simp only [Option.bind_some, fNil_eq, Option.map_some]
  rw [if_pos (small_of (by show 2 ≤ 16777216; decide))]
  rfl
theorem not_tru {f : FN} {i : Nat} {u : U} {δ : UE} {L L' : UH} (h : fVar i δ L = some (u, L)) (e : f [u] L = some (.bl true, L')) : (fNot (fTru (fOwn 1 f (fCons (fVar i) fNil)))) δ L = some (false, L') := by
  rw [fNot_eq, fTru_eq, own1 h e]; rfl
theorem turn93 (cell : Int) (L : UH) (x0 x2 x3 : Option U) : ∃ y2 y3 L', b_law_1 [x0, some (.int cell), x2, x3] L = some (.nx [x0, some (.int cell), y2, y3], L') ∧ Gw L L' := by
  obtain ⟨L1, e1, g1⟩ := spots_ok cell L
  obtain ⟨L2, e2, g2⟩ := texts_right_ok (sp_pts cell) L1
  obtain ⟨L3, e3, g3⟩ := pairs_right_ok (ps := [spA cell, spB cell]) (by simp) L2
  have s1 : (fAsg (fOwn 1 m_l_spots (fCons (fVar 1) fNil)) (gN 2)) [x0, some (.int cell), x2, x3] L = some (.nx [x0, some (.int cell), some (.tup ([spA cell, spB cell].map ptU)), x3], L1) := setN (own1 rfl e1)
  generalize U.tup ([spA cell, spB cell].map ptU) = pu at s1 e2 e3
  have s3 : (fAsg (f2 semMod (fVar 1) (fC (.int 999983))) (gN 3)) [x0, some (.int cell), some pu, x3] L3 = some (.nx [x0, some (.int cell), some pu, some (.int (cell % 999983))], L3) := rfl
  obtain ⟨c, hc, hv⟩ : ∃ c : Int, (c = 0 ∨ c = 1) ∧ cell / 7 % 2 = c := ⟨cell / 7 % 2, by omega, rfl⟩
  have hl2 : (fLst (fCons (fC (.int 1)) (fCons (fNeg (fC (.int 1))) fNil))) [x0, some (.int cell), some pu, some (.int (cell % 999983))] L3 = some (.ref L3.length, L3 ++ [.lst [.int 1, .int (-1)]]) := by
    simp only [fLst_eq, fCons_eq, fC_eq, fNeg_eq, fNil_eq, Option.bind_some, Option.map_some]
    rw [if_pos (small_of (by show 2 ≤ 16777216; decide))]
  have hat : (L3 ++ [HU.lst [.int 1, .int (-1)]])[L3.length]? = some (.lst [.int 1, .int (-1)]) := by simp
  have hm : (f2 semMod (f2 semDiv (fVar 1) (fC (.int 7))) (fC (.int 2))) [x0, some (.int cell), some pu, some (.int (cell % 999983))] (L3 ++ [.lst [.int 1, .int (-1)]]) = some (.int c, L3 ++ [.lst [.int 1, .int (-1)]]) := by
    rw [← hv]
    exact f2_ok (f2_ok rfl rfl rfl) rfl rfl
  have hix : semIx (.ref L3.length) (.int c) (L3 ++ [.lst [.int 1, .int (-1)]]) = some (.int (1 - 2 * c), L3 ++ [.lst [.int 1, .int (-1)]]) := by
    refine ix_ref hat ?_
    rcases hc with rfl | rfl <;> rfl
  obtain ⟨L4, e4, g4⟩ := rows_right_ok hc (cell % 999983) (L3 ++ [.lst [.int 1, .int (-1)]])
  have a1 : (f2 semAdd (fVar 3) (f2 semIx (fLst (fCons (fC (.int 1)) (fCons (fNeg (fC (.int 1))) fNil))) (f2 semMod (f2 semDiv (fVar 1) (fC (.int 7))) (fC (.int 2))))) [x0, some (.int cell), some pu, some (.int (cell % 999983))] L3 = some (.int (cell % 999983 + (1 - 2 * c)), L3 ++ [.lst [.int 1, .int (-1)]]) := f2_ok rfl (f2_ok hl2 hm hix) rfl
  have a2 : (fTup (fCons (fVar 3) (fCons (f2 semAdd (fVar 3) (f2 semIx (fLst (fCons (fC (.int 1)) (fCons (fNeg (fC (.int 1))) fNil))) (f2 semMod (f2 semDiv (fVar 1) (fC (.int 7))) (fC (.int 2))))) fNil))) [x0, some (.int cell), some pu, some (.int (cell % 999983))] L3 = some (.tup [.int (cell % 999983), .int (cell % 999983 + (1 - 2 * c))], L3 ++ [.lst [.int 1, .int (-1)]]) := by
    have v3 : (fVar 3) [x0, some (.int cell), some pu, some (.int (cell % 999983))] L3 = some (.int (cell % 999983), L3) := rfl
    rw [fTup_eq, fCons_eq, v3, Option.bind_some, fCons_eq, a1]
    simp only [Option.bind_some, fNil_eq, Option.map_some]
    rw [if_pos (small_of (by show 2 ≤ 16777216; decide))]
  refine ⟨some pu, some (.int (cell % 999983)), L4, ?_, g1.trans (g2.trans (g3.trans ((Gw.new L3 _).trans g4)))⟩
  unfold b_law_1
  rw [fSeq_nx s1, fSeq_nx (if_no (or_no (not_tru rfl e2) (not_tru rfl e3))), fSeq_nx s3]
  refine if_no ?_
  rw [fNot_eq, fTru_eq, own1e a2 e4]
  rfl
theorem law_true (ns : List Int) (hl : ns.length ≤ 63) : ∃ L', m_law [.ref 0] [.ro (ns.map U.int)] = some (.bl true, L') := by
  let L1 : UH := [.ro (ns.map U.int)]
  have hs : seqAt L1 0 = some (ns.map U.int) := rfl
  have hcut : cutU (ns.map U.int) none (some 8) = (ns.take 8).map U.int := by
    unfold cutU
    rw [HT.sIx_none, show (some (8 : Int)) = some ((8 : Nat) : Int) from rfl, HT.sIx_nat, List.drop_zero, Nat.sub_zero, List.length_map]
    by_cases h : 8 ≤ ns.length
    · rw [Nat.min_eq_left h, ← List.map_take]
    · rw [Nat.min_eq_right (by omega), ← List.map_take, List.take_of_length_le (Nat.le_refl _), List.take_of_length_le (by omega)]
  let M2 : UH := L1 ++ [.lst ((ns.take 8).map U.int)] ++ [.lst [.int ns.length]]
  have k1 : M2[1]? = some (.lst ((ns.take 8).map U.int)) := rfl
  have k2 : M2[2]? = some (.lst [.int ns.length]) := rfl
  have hadd := cat_ok (n := 1) (m := 2) k1 k2 (by rw [List.length_map, List.length_take]; simp; omega)
  have hz : (ns.take 8).map U.int ++ [.int ns.length] = (ns.take 8 ++ [(ns.length : Int)]).map U.int := by simp
  rw [hz] at hadd
  let M3 : UH := M2 ++ [.lst ((ns.take 8 ++ [(ns.length : Int)]).map U.int)]
  have h3 : seqAt M3 3 = some ((ns.take 8 ++ [(ns.length : Int)]).map U.int) := seqAt_lst rfl
  have hi : (fSeqI (f2 semAdd (fSl semSl (fVar 0) fNoPart (fPart (fC (.int 8)))) (fLst (fCons (fCall semLen (fCons (fVar 0) fNil)) fNil)))) [some (.ref 0), none, none, none] L1 = some (.ref 3, M3) := by
    have ha : (fSl semSl (fVar 0) fNoPart (fPart (fC (.int 8)))) [some (.ref 0), none, none, none] L1 = some (.ref 1, L1 ++ [.lst ((ns.take 8).map U.int)]) := by
      simp [semSl, hs, hcut]
      rfl
    have hlen : (fCall semLen (fCons (fVar 0) fNil)) [some (.ref 0), none, none, none] (L1 ++ [.lst ((ns.take 8).map U.int)]) = some (.int ns.length, L1 ++ [.lst ((ns.take 8).map U.int)]) := by
      have : semLen [.ref 0] (L1 ++ [.lst ((ns.take 8).map U.int)]) = some (.int ns.length, L1 ++ [.lst ((ns.take 8).map U.int)]) := by
        simp only [semLen, lenU, seqAt_app hs, Option.map_some, List.length_map]
      exact this
    have hb : (fLst (fCons (fCall semLen (fCons (fVar 0) fNil)) fNil)) [some (.ref 0), none, none, none] (L1 ++ [.lst ((ns.take 8).map U.int)]) = some (.ref 2, M2) := lst1 _ hlen
    rw [fSeqI_eq, f2_ok ha hb hadd, Option.bind_some]
    show Option.map _ (iSeqU (.ref 3) M3) = _
    rw [iSeqU_ref h3]
    rfl
  obtain ⟨δ5, L5, e5, P5⟩ := for_ref (us := (ns.take 8 ++ [(ns.length : Int)]).map U.int) (n := 3) (body := b_law_1) (g := gN 1) (fun _ δ' L' => (∃ y1 y2 y3, δ' = [some (.ref 0), y1, y2, y3]) ∧ Gw M3 L') hi ⟨⟨_, _, _, rfl⟩, Gw.refl _⟩
    (fun k δ L ⟨_, g⟩ => g.seq h3)
    (fun k u δ M hu ⟨⟨y1, y2, y3, hδ⟩, g⟩ => by
      subst hδ
      rw [List.getElem?_map] at hu
      obtain ⟨c, _, rfl⟩ := Option.map_eq_some_iff.mp hu
      obtain ⟨z2, z3, M', e, gM⟩ := turn93 c M (some (.ref 0)) y2 y3
      exact ⟨_, _, rfl, _, M', .inl e, ⟨_, _, _, rfl⟩, g.trans gM⟩)
  obtain ⟨⟨y1, y2, y3, hδ⟩, _⟩ := P5
  refine ⟨L5, fn1 (n := 3) ?_⟩
  unfold b_law
  show fSeq _ _ [some (.ref 0), none, none, none] L1 = _
  rw [fSeq_nx e5]
  rfl
end Lw
namespace Lw
open PySem L2 MR
set_option maxHeartbeats 4000000
noncomputable def top (i : Nat) : Stmt := PySem.Challenge.pw_belowpoints_k93_points_and_rows_by_names.main.body.getD i (.Pass ⟨0, 0, 0, 0⟩)
noncomputable abbrev s_lies_below : Stmt := top 11
theorem sc_lies_below : FnScope ["one", "other"] ["one", "other"] (defScope s_lies_below) := ⟨rfl, rfl, rfl, by decide +kernel, rfl, by decide +kernel, by decide +kernel⟩
noncomputable abbrev s_many_above : Stmt := top 22
theorem sc_many_above : FnScope ["places", "place"] ["places", "place"] (defScope s_many_above) := ⟨rfl, rfl, rfl, by decide +kernel, rfl, by decide +kernel, by decide +kernel⟩
noncomputable abbrev s_place_of : Stmt := top 12
theorem sc_place_of : FnScope ["point"] ["point"] (defScope s_place_of) := ⟨rfl, rfl, rfl, by decide +kernel, rfl, by decide +kernel, by decide +kernel⟩
noncomputable abbrev s_above_each : Stmt := top 19
theorem sc_above_each : FnScope ["points", "places"] ["points"] (defScope s_above_each) := ⟨rfl, rfl, rfl, by decide +kernel, rfl, by decide +kernel, by decide +kernel⟩
noncomputable abbrev s_many_below : Stmt := top 21
theorem sc_many_below : FnScope ["places", "place"] ["places", "place"] (defScope s_many_below) := ⟨rfl, rfl, rfl, by decide +kernel, rfl, by decide +kernel, by decide +kernel⟩
noncomputable abbrev s_below_each : Stmt := top 18
theorem sc_below_each : FnScope ["points", "places"] ["points"] (defScope s_below_each) := ⟨rfl, rfl, rfl, by decide +kernel, rfl, by decide +kernel, by decide +kernel⟩
noncomputable abbrev s_crossings_of : Stmt := top 27
theorem sc_crossings_of : FnScope ["lower", "upper"] ["lower", "upper"] (defScope s_crossings_of) := ⟨rfl, rfl, rfl, by decide +kernel, rfl, by decide +kernel, by decide +kernel⟩
noncomputable abbrev s_halves_between : Stmt := top 26
theorem sc_halves_between : FnScope ["places", "first", "behind", "many", "middle", "whole"] ["places", "first", "behind"] (defScope s_halves_between) := ⟨rfl, rfl, rfl, by decide +kernel, rfl, by decide +kernel, by decide +kernel⟩
noncomputable abbrev s_halves_of : Stmt := top 24
theorem sc_halves_of : FnScope ["points", "places"] ["points"] (defScope s_halves_of) := ⟨rfl, rfl, rfl, by decide +kernel, rfl, by decide +kernel, by decide +kernel⟩
noncomputable abbrev s_halves_shown : Stmt := top 25
theorem sc_halves_shown : FnScope ["points", "halves"] ["points", "halves"] (defScope s_halves_shown) := ⟨rfl, rfl, rfl, by decide +kernel, rfl, by decide +kernel, by decide +kernel⟩
noncomputable abbrev s_pairs_in_all : Stmt := top 20
theorem sc_pairs_in_all : FnScope ["points"] ["points"] (defScope s_pairs_in_all) := ⟨rfl, rfl, rfl, by decide +kernel, rfl, by decide +kernel, by decide +kernel⟩
noncomputable abbrev s_l_pairs_right : Stmt := top 43
theorem sc_l_pairs_right : FnScope ["spots"] ["spots"] (defScope s_l_pairs_right) := ⟨rfl, rfl, rfl, by decide +kernel, rfl, by decide +kernel, by decide +kernel⟩
noncomputable abbrev s_many_greater : Stmt := top 35
theorem sc_many_greater : FnScope ["numbers", "number"] ["numbers", "number"] (defScope s_many_greater) := ⟨rfl, rfl, rfl, by decide +kernel, rfl, by decide +kernel, by decide +kernel⟩
noncomputable abbrev s_counts_of : Stmt := top 29
theorem sc_counts_of : FnScope ["row"] ["row"] (defScope s_counts_of) := ⟨rfl, rfl, rfl, by decide +kernel, rfl, by decide +kernel, by decide +kernel⟩
noncomputable abbrev s_count_of : Stmt := top 30
theorem sc_count_of : FnScope ["row"] ["row"] (defScope s_count_of) := ⟨rfl, rfl, rfl, by decide +kernel, rfl, by decide +kernel, by decide +kernel⟩
noncomputable abbrev s_need_counts : Stmt := top 36
theorem sc_need_counts : FnScope ["counts", "place", "count"] ["counts"] (defScope s_need_counts) := ⟨rfl, rfl, rfl, by decide +kernel, rfl, by decide +kernel, by decide +kernel⟩
noncomputable abbrev s_row_of : Stmt := top 31
theorem sc_row_of : FnScope ["counts", "left", "backwards", "place"] ["counts"] (defScope s_row_of) := ⟨rfl, rfl, rfl, by decide +kernel, rfl, by decide +kernel, by decide +kernel⟩
noncomputable abbrev s_ways_with_one_more : Stmt := top 38
theorem sc_ways_with_one_more : FnScope ["ways", "most"] ["ways", "most"] (defScope s_ways_with_one_more) := ⟨rfl, rfl, rfl, by decide +kernel, rfl, by decide +kernel, by decide +kernel⟩
noncomputable abbrev s_ways_from_each : Stmt := top 37
theorem sc_ways_from_each : FnScope ["many", "backwards", "place"] ["many"] (defScope s_ways_from_each) := ⟨rfl, rfl, rfl, by decide +kernel, rfl, by decide +kernel, by decide +kernel⟩
noncomputable abbrev s_ways_to : Stmt := top 39
theorem sc_ways_to : FnScope ["ways", "total"] ["ways", "total"] (defScope s_ways_to) := ⟨rfl, rfl, rfl, by decide +kernel, rfl, by decide +kernel, by decide +kernel⟩
noncomputable abbrev s_nth_row : Stmt := top 33
theorem sc_nth_row : FnScope ["many", "count", "place", "ways", "counts", "left", "ahead", "turn", "own"] ["many", "count", "place"] (defScope s_nth_row) := ⟨rfl, rfl, rfl, by decide +kernel, rfl, by decide +kernel, by decide +kernel⟩
noncomputable abbrev s_place_of_row : Stmt := top 34
theorem sc_place_of_row : FnScope ["row", "ways", "counts", "left", "ahead", "turn", "own"] ["row"] (defScope s_place_of_row) := ⟨rfl, rfl, rfl, by decide +kernel, rfl, by decide +kernel, by decide +kernel⟩
noncomputable abbrev s_rows_with : Stmt := top 32
theorem sc_rows_with : FnScope ["many"] ["many"] (defScope s_rows_with) := ⟨rfl, rfl, rfl, by decide +kernel, rfl, by decide +kernel, by decide +kernel⟩
noncomputable abbrev s_l_rows_right : Stmt := top 44
theorem sc_l_rows_right : FnScope ["numbers", "told", "ordered", "at"] ["numbers"] (defScope s_l_rows_right) := ⟨rfl, rfl, rfl, by decide +kernel, rfl, by decide +kernel, by decide +kernel⟩
noncomputable abbrev s_l_spots : Stmt := top 41
theorem sc_l_spots : FnScope ["cell", "digits"] ["cell"] (defScope s_l_spots) := ⟨rfl, rfl, rfl, by decide +kernel, rfl, by decide +kernel, by decide +kernel⟩
noncomputable abbrev s_points_shown : Stmt := top 10
theorem sc_points_shown : FnScope ["points"] ["points"] (defScope s_points_shown) := ⟨rfl, rfl, rfl, by decide +kernel, rfl, by decide +kernel, by decide +kernel⟩
noncomputable abbrev s_holds_only : Stmt := top 16
theorem sc_holds_only : FnScope ["word", "signs"] ["word", "signs"] (defScope s_holds_only) := ⟨rfl, rfl, rfl, by decide +kernel, rfl, by decide +kernel, by decide +kernel⟩
noncomputable abbrev s_is_name : Stmt := top 14
theorem sc_is_name : FnScope ["word"] ["word"] (defScope s_is_name) := ⟨rfl, rfl, rfl, by decide +kernel, rfl, by decide +kernel, by decide +kernel⟩
noncomputable abbrev s_is_number : Stmt := top 15
theorem sc_is_number : FnScope ["word", "figures"] ["word"] (defScope s_is_number) := ⟨rfl, rfl, rfl, by decide +kernel, rfl, by decide +kernel, by decide +kernel⟩
noncomputable abbrev s_point_in : Stmt := top 13
theorem sc_point_in : FnScope ["line", "words"] ["line"] (defScope s_point_in) := ⟨rfl, rfl, rfl, by decide +kernel, rfl, by decide +kernel, by decide +kernel⟩
noncomputable abbrev s_read_points : Stmt := top 9
theorem sc_read_points : FnScope ["text", "points", "known", "row", "line", "point"] ["text"] (defScope s_read_points) := ⟨rfl, rfl, rfl, by decide +kernel, rfl, by decide +kernel, by decide +kernel⟩
noncomputable abbrev s_l_texts_right : Stmt := top 42
theorem sc_l_texts_right : FnScope ["spots", "written", "first", "last"] ["spots"] (defScope s_l_texts_right) := ⟨rfl, rfl, rfl, by decide +kernel, rfl, by decide +kernel, by decide +kernel⟩
noncomputable abbrev s_law : Stmt := top 45
theorem sc_law : FnScope ["script", "cell", "spots", "least"] ["script"] (defScope s_law) := ⟨rfl, rfl, rfl, by decide +kernel, rfl, by decide +kernel, by decide +kernel⟩
set_option genInjectivity false
set_option genSizeOf false
set_option genSizeOfSpec false
structure Defs (K : PySem.W.Frag) (mg : Str → Option Value) where
  f_lies_below : Addr
  d_lies_below : FuncData
  F_lies_below : Fun K "lies_below" "lies_below" s_lies_below f_lies_below d_lies_below
  b_lies_below : Binds K d_lies_below ["one", "other"] []
  g_lies_below : mg "lies_below" = some (.ref f_lies_below)
  kb_lies_below : KBinds K d_lies_below ["one", "other"] ["one", "other"] g0 gV0
  f_many_above : Addr
  d_many_above : FuncData
  F_many_above : Fun K "many_above" "many_above" s_many_above f_many_above d_many_above
  b_many_above : Binds K d_many_above ["places", "place"] []
  g_many_above : mg "many_above" = some (.ref f_many_above)
  f_place_of : Addr
  d_place_of : FuncData
  F_place_of : Fun K "place_of" "place_of" s_place_of f_place_of d_place_of
  b_place_of : Binds K d_place_of ["point"] []
  g_place_of : mg "place_of" = some (.ref f_place_of)
  f_above_each : Addr
  d_above_each : FuncData
  F_above_each : Fun K "above_each" "above_each" s_above_each f_above_each d_above_each
  b_above_each : Binds K d_above_each ["points"] []
  g_above_each : mg "above_each" = some (.ref f_above_each)
  kb_above_each : KBinds K d_above_each ["points"] ["points"] g0 gV0
  f_many_below : Addr
  d_many_below : FuncData
  F_many_below : Fun K "many_below" "many_below" s_many_below f_many_below d_many_below
  b_many_below : Binds K d_many_below ["places", "place"] []
  g_many_below : mg "many_below" = some (.ref f_many_below)
  f_below_each : Addr
  d_below_each : FuncData
  F_below_each : Fun K "below_each" "below_each" s_below_each f_below_each d_below_each
  b_below_each : Binds K d_below_each ["points"] []
  g_below_each : mg "below_each" = some (.ref f_below_each)
  kb_below_each : KBinds K d_below_each ["points"] ["points"] g0 gV0
  f_crossings_of : Addr
  d_crossings_of : FuncData
  F_crossings_of : Fun K "crossings_of" "crossings_of" s_crossings_of f_crossings_of d_crossings_of
  b_crossings_of : Binds K d_crossings_of ["lower", "upper"] []
  g_crossings_of : mg "crossings_of" = some (.ref f_crossings_of)
  f_halves_between : Addr
  d_halves_between : FuncData
  F_halves_between : Fun K "halves_between" "halves_between" s_halves_between f_halves_between d_halves_between
  b_halves_between : Binds K d_halves_between ["places", "first", "behind"] []
  g_halves_between : mg "halves_between" = some (.ref f_halves_between)
  f_halves_of : Addr
  d_halves_of : FuncData
  F_halves_of : Fun K "halves_of" "halves_of" s_halves_of f_halves_of d_halves_of
  b_halves_of : Binds K d_halves_of ["points"] []
  g_halves_of : mg "halves_of" = some (.ref f_halves_of)
  kb_halves_of : KBinds K d_halves_of ["points"] ["points"] g0 gV0
  f_halves_shown : Addr
  d_halves_shown : FuncData
  F_halves_shown : Fun K "halves_shown" "halves_shown" s_halves_shown f_halves_shown d_halves_shown
  b_halves_shown : Binds K d_halves_shown ["points", "halves"] []
  g_halves_shown : mg "halves_shown" = some (.ref f_halves_shown)
  kb_halves_shown : KBinds K d_halves_shown ["points", "halves"] ["points", "halves"] g0 gV0
  f_pairs_in_all : Addr
  d_pairs_in_all : FuncData
  F_pairs_in_all : Fun K "pairs_in_all" "pairs_in_all" s_pairs_in_all f_pairs_in_all d_pairs_in_all
  b_pairs_in_all : Binds K d_pairs_in_all ["points"] []
  g_pairs_in_all : mg "pairs_in_all" = some (.ref f_pairs_in_all)
  kb_pairs_in_all : KBinds K d_pairs_in_all ["points"] ["points"] g0 gV0
  f_l_pairs_right : Addr
  d_l_pairs_right : FuncData
  F_l_pairs_right : Fun K "_law_pairs_right" "_law_pairs_right" s_l_pairs_right f_l_pairs_right d_l_pairs_right
  b_l_pairs_right : Binds K d_l_pairs_right ["spots"] []
  g_l_pairs_right : mg "_law_pairs_right" = some (.ref f_l_pairs_right)
  f_many_greater : Addr
  d_many_greater : FuncData
  F_many_greater : Fun K "many_greater" "many_greater" s_many_greater f_many_greater d_many_greater
  b_many_greater : Binds K d_many_greater ["numbers", "number"] []
  g_many_greater : mg "many_greater" = some (.ref f_many_greater)
  f_counts_of : Addr
  d_counts_of : FuncData
  F_counts_of : Fun K "counts_of" "counts_of" s_counts_of f_counts_of d_counts_of
  b_counts_of : Binds K d_counts_of ["row"] []
  g_counts_of : mg "counts_of" = some (.ref f_counts_of)
  kb_counts_of : KBinds K d_counts_of ["row"] ["row"] g0 gV0
  f_count_of : Addr
  d_count_of : FuncData
  F_count_of : Fun K "count_of" "count_of" s_count_of f_count_of d_count_of
  b_count_of : Binds K d_count_of ["row"] []
  g_count_of : mg "count_of" = some (.ref f_count_of)
  kb_count_of : KBinds K d_count_of ["row"] ["row"] g0 gV0
  f_need_counts : Addr
  d_need_counts : FuncData
  F_need_counts : Fun K "need_counts" "need_counts" s_need_counts f_need_counts d_need_counts
  b_need_counts : Binds K d_need_counts ["counts"] []
  g_need_counts : mg "need_counts" = some (.ref f_need_counts)
  f_row_of : Addr
  d_row_of : FuncData
  F_row_of : Fun K "row_of" "row_of" s_row_of f_row_of d_row_of
  b_row_of : Binds K d_row_of ["counts"] []
  g_row_of : mg "row_of" = some (.ref f_row_of)
  kb_row_of : KBinds K d_row_of ["counts"] ["counts"] g0 gV0
  f_ways_with_one_more : Addr
  d_ways_with_one_more : FuncData
  F_ways_with_one_more : Fun K "ways_with_one_more" "ways_with_one_more" s_ways_with_one_more f_ways_with_one_more d_ways_with_one_more
  b_ways_with_one_more : Binds K d_ways_with_one_more ["ways", "most"] []
  g_ways_with_one_more : mg "ways_with_one_more" = some (.ref f_ways_with_one_more)
  f_ways_from_each : Addr
  d_ways_from_each : FuncData
  F_ways_from_each : Fun K "ways_from_each" "ways_from_each" s_ways_from_each f_ways_from_each d_ways_from_each
  b_ways_from_each : Binds K d_ways_from_each ["many"] []
  g_ways_from_each : mg "ways_from_each" = some (.ref f_ways_from_each)
  f_ways_to : Addr
  d_ways_to : FuncData
  F_ways_to : Fun K "ways_to" "ways_to" s_ways_to f_ways_to d_ways_to
  b_ways_to : Binds K d_ways_to ["ways", "total"] []
  g_ways_to : mg "ways_to" = some (.ref f_ways_to)
  f_nth_row : Addr
  d_nth_row : FuncData
  F_nth_row : Fun K "nth_row" "nth_row" s_nth_row f_nth_row d_nth_row
  b_nth_row : Binds K d_nth_row ["many", "count", "place"] []
  g_nth_row : mg "nth_row" = some (.ref f_nth_row)
  kb_nth_row : KBinds K d_nth_row ["many", "count", "place"] ["many", "count", "place"] g0 gV0
  f_place_of_row : Addr
  d_place_of_row : FuncData
  F_place_of_row : Fun K "place_of_row" "place_of_row" s_place_of_row f_place_of_row d_place_of_row
  b_place_of_row : Binds K d_place_of_row ["row"] []
  g_place_of_row : mg "place_of_row" = some (.ref f_place_of_row)
  kb_place_of_row : KBinds K d_place_of_row ["row"] ["row"] g0 gV0
  f_rows_with : Addr
  d_rows_with : FuncData
  F_rows_with : Fun K "rows_with" "rows_with" s_rows_with f_rows_with d_rows_with
  b_rows_with : Binds K d_rows_with ["many"] []
  g_rows_with : mg "rows_with" = some (.ref f_rows_with)
  kb_rows_with : KBinds K d_rows_with ["many"] ["many"] g0 gV0
  f_l_rows_right : Addr
  d_l_rows_right : FuncData
  F_l_rows_right : Fun K "_law_rows_right" "_law_rows_right" s_l_rows_right f_l_rows_right d_l_rows_right
  b_l_rows_right : Binds K d_l_rows_right ["numbers"] []
  g_l_rows_right : mg "_law_rows_right" = some (.ref f_l_rows_right)
  f_l_spots : Addr
  d_l_spots : FuncData
  F_l_spots : Fun K "_law_spots" "_law_spots" s_l_spots f_l_spots d_l_spots
  b_l_spots : Binds K d_l_spots ["cell"] []
  g_l_spots : mg "_law_spots" = some (.ref f_l_spots)
  f_points_shown : Addr
  d_points_shown : FuncData
  F_points_shown : Fun K "points_shown" "points_shown" s_points_shown f_points_shown d_points_shown
  b_points_shown : Binds K d_points_shown ["points"] []
  g_points_shown : mg "points_shown" = some (.ref f_points_shown)
  kb_points_shown : KBinds K d_points_shown ["points"] ["points"] g0 gV0
  f_holds_only : Addr
  d_holds_only : FuncData
  F_holds_only : Fun K "holds_only" "holds_only" s_holds_only f_holds_only d_holds_only
  b_holds_only : Binds K d_holds_only ["word", "signs"] []
  g_holds_only : mg "holds_only" = some (.ref f_holds_only)
  f_is_name : Addr
  d_is_name : FuncData
  F_is_name : Fun K "is_name" "is_name" s_is_name f_is_name d_is_name
  b_is_name : Binds K d_is_name ["word"] []
  g_is_name : mg "is_name" = some (.ref f_is_name)
  f_is_number : Addr
  d_is_number : FuncData
  F_is_number : Fun K "is_number" "is_number" s_is_number f_is_number d_is_number
  b_is_number : Binds K d_is_number ["word"] []
  g_is_number : mg "is_number" = some (.ref f_is_number)
  f_point_in : Addr
  d_point_in : FuncData
  F_point_in : Fun K "point_in" "point_in" s_point_in f_point_in d_point_in
  b_point_in : Binds K d_point_in ["line"] []
  g_point_in : mg "point_in" = some (.ref f_point_in)
  f_read_points : Addr
  d_read_points : FuncData
  F_read_points : Fun K "read_points" "read_points" s_read_points f_read_points d_read_points
  b_read_points : Binds K d_read_points ["text"] []
  g_read_points : mg "read_points" = some (.ref f_read_points)
  kb_read_points : KBinds K d_read_points ["text"] ["text"] g0 gV0
  f_l_texts_right : Addr
  d_l_texts_right : FuncData
  F_l_texts_right : Fun K "_law_texts_right" "_law_texts_right" s_l_texts_right f_l_texts_right d_l_texts_right
  b_l_texts_right : Binds K d_l_texts_right ["spots"] []
  g_l_texts_right : mg "_law_texts_right" = some (.ref f_l_texts_right)
  f_law : Addr
  d_law : FuncData
  F_law : Fun K "law" "law" s_law f_law d_law
  b_law : Binds K d_law ["script"] []
  g_law : mg "law" = some (.ref f_law)
  v_FIGURES : ∃ t, mg "FIGURES" = some (.str "0123456789" t)
  v_LETTERS : ∃ t, mg "LETTERS" = some (.str "abcdefghijklmnopqrstuvwxyz" t)
  v_LONGEST_NAME : ∃ t, mg "LONGEST_NAME" = some (.int 8 t)
  n_all : mg "all" = none
  n_enumerate : mg "enumerate" = none
  n_int : mg "int" = none
  n_len : mg "len" = none
  n_list : mg "list" = none
  n_max : mg "max" = none
  n_range : mg "range" = none
  n_reversed : mg "reversed" = none
  n_sorted : mg "sorted" = none
  n_sum : mg "sum" = none
  n_tuple : mg "tuple" = none
  n_zip : mg "zip" = none
section
variable {P : Program} {w : World} {K : PySem.W.Frag} {mg : Str → Option Value} {base : Heap}
theorem ok_lies_below (C : Defs K mg) : FnOk P w K mg base CX0 1 C.f_lies_below C.d_lies_below ["one", "other"] (spF K 2 m_lies_below) := by
  refine Fun.okF (N := ["one", "other"]) C.F_lies_below sc_lies_below (fun cdv A outer s H E hr => ?_)
  have hu := hr.units
  exact (psf_one (psf_ret (pf_and (pf_cmp (op_neU hu) sem_ne (pf_v 0) (pf_v 1) (nomark _)) (pf_one (pf_callB (call_allL rfl) sem_all (by rfl) C.n_all PyProof.Rows.boot_all (paf_cons (pf_comp (N' := ["number", "above"]) (ix := [none, none]) ⟨rfl, rfl, rfl, rfl, rfl, rfl⟩ rfl (pif_zipT (by rfl) C.n_zip (paf_cons (pf_v 0) (paf_cons (pf_v 1) paf_nil))) (fun _ _ _ _ _ _ => (pgf_tup rfl (pgsf_cons (pgf_name (i := 0) (show List.Nodup (α := Str) ["number", "above"] by decide +kernel)) (pgsf_cons (pgf_name (i := 1) (show List.Nodup (α := Str) ["number", "above"] by decide +kernel)) pgsf_nil)))) (fun _ _ _ _ _ _ => (pf_cmp op_le sem_le (pf_v 0) (pf_v 1) (nomark _)))) paf_nil))))))
theorem ok_many_above (C : Defs K mg) : FnOk P w K mg base CX0 2 C.f_many_above C.d_many_above ["places", "place"] (spF K 2 m_many_above) := by
  refine Fun.okF (N := ["places", "place"]) C.F_many_above sc_many_above (fun cdv A outer s H E hr => ?_)
  have hu := hr.units
  exact (psf_one (psf_ret (pf_callB call_len sem_len (by rfl) C.n_len PySem.boot_len (paf_cons (pf_compT (N' := ["other", "place"]) (ix := [none, some 1]) ⟨rfl, rfl, rfl, rfl, rfl, rfl⟩ rfl (pif_seq (pf_v 0)) (fun _ _ _ _ _ _ => (pgf_name (i := 0) (show List.Nodup (α := Str) ["other", "place"] by decide +kernel))) (fun _ _ _ _ _ _ => (ptf_tru (pf_call (ok_lies_below C) (hr.mono (by decide)) (by rfl) C.g_lies_below C.F_lies_below.kp C.b_lies_below (paf_cons (pf_v 1) (paf_cons (pf_v 0) paf_nil))))) (fun _ _ _ _ _ _ => (pf_v 0))) paf_nil))))
theorem ok_place_of (C : Defs K mg) : FnOk P w K mg base CX0 1 C.f_place_of C.d_place_of ["point"] (spF K 1 m_place_of) := by
  refine Fun.okF (N := ["point"]) C.F_place_of sc_place_of (fun cdv A outer s H E hr => ?_)
  have hu := hr.units
  exact (psf_one (psf_ret (pf_tup (paf_cons (pf_ix ix_seq sem_ix (pf_v 0) pf_int (fun _ _ => rfl)) (paf_cons (pf_ix ix_seq sem_ix (pf_v 0) pf_int (fun _ _ => rfl)) paf_nil)))))
theorem ok_above_each (C : Defs K mg) : FnOk P w K mg base CX0 3 C.f_above_each C.d_above_each ["points"] (spF K 1 m_above_each) := by
  refine Fun.okF (N := ["points", "places"]) C.F_above_each sc_above_each (fun cdv A outer s H E hr => ?_)
  have hu := hr.units
  refine psf_cons ?s0 ?t0
  case s0 => exact (psf_set (i := 1) (by exact sc_above_each.nd) (pf_comp (N' := ["point"]) (ix := [none]) ⟨rfl, rfl, rfl, rfl, rfl, rfl⟩ rfl (pif_seq (pf_v 0)) (fun _ _ _ _ _ _ => (pgf_name (i := 0) (show List.Nodup (α := Str) ["point"] by decide +kernel))) (fun _ _ _ _ _ _ => (pf_call (ok_place_of C) (hr.mono (by decide)) (by rfl) C.g_place_of C.F_place_of.kp C.b_place_of (paf_cons (pf_v 0) paf_nil)))))
  exact (psf_one (psf_ret (pf_callTy call_tuple_of sem_tuple (by rfl) C.n_tuple (by decide +kernel) (paf_cons (pf_comp (N' := ["place", "places"]) (ix := [none, some 1]) ⟨rfl, rfl, rfl, rfl, rfl, rfl⟩ rfl (pif_seq (pf_v 1)) (fun _ _ _ _ _ _ => (pgf_name (i := 0) (show List.Nodup (α := Str) ["place", "places"] by decide +kernel))) (fun _ _ _ _ _ _ => (pf_call (ok_many_above C) (hr.mono (by decide)) (by rfl) C.g_many_above C.F_many_above.kp C.b_many_above (paf_cons (pf_v 1) (paf_cons (pf_v 0) paf_nil))))) paf_nil))))
theorem ok_many_below (C : Defs K mg) : FnOk P w K mg base CX0 2 C.f_many_below C.d_many_below ["places", "place"] (spF K 2 m_many_below) := by
  refine Fun.okF (N := ["places", "place"]) C.F_many_below sc_many_below (fun cdv A outer s H E hr => ?_)
  have hu := hr.units
  exact (psf_one (psf_ret (pf_callB call_len sem_len (by rfl) C.n_len PySem.boot_len (paf_cons (pf_compT (N' := ["other", "place"]) (ix := [none, some 1]) ⟨rfl, rfl, rfl, rfl, rfl, rfl⟩ rfl (pif_seq (pf_v 0)) (fun _ _ _ _ _ _ => (pgf_name (i := 0) (show List.Nodup (α := Str) ["other", "place"] by decide +kernel))) (fun _ _ _ _ _ _ => (ptf_tru (pf_call (ok_lies_below C) (hr.mono (by decide)) (by rfl) C.g_lies_below C.F_lies_below.kp C.b_lies_below (paf_cons (pf_v 0) (paf_cons (pf_v 1) paf_nil))))) (fun _ _ _ _ _ _ => (pf_v 0))) paf_nil))))
theorem ok_below_each (C : Defs K mg) : FnOk P w K mg base CX0 3 C.f_below_each C.d_below_each ["points"] (spF K 1 m_below_each) := by
  refine Fun.okF (N := ["points", "places"]) C.F_below_each sc_below_each (fun cdv A outer s H E hr => ?_)
  have hu := hr.units
  refine psf_cons ?s0 ?t0
  case s0 => exact (psf_set (i := 1) (by exact sc_below_each.nd) (pf_comp (N' := ["point"]) (ix := [none]) ⟨rfl, rfl, rfl, rfl, rfl, rfl⟩ rfl (pif_seq (pf_v 0)) (fun _ _ _ _ _ _ => (pgf_name (i := 0) (show List.Nodup (α := Str) ["point"] by decide +kernel))) (fun _ _ _ _ _ _ => (pf_call (ok_place_of C) (hr.mono (by decide)) (by rfl) C.g_place_of C.F_place_of.kp C.b_place_of (paf_cons (pf_v 0) paf_nil)))))
  exact (psf_one (psf_ret (pf_callTy call_tuple_of sem_tuple (by rfl) C.n_tuple (by decide +kernel) (paf_cons (pf_comp (N' := ["place", "places"]) (ix := [none, some 1]) ⟨rfl, rfl, rfl, rfl, rfl, rfl⟩ rfl (pif_seq (pf_v 1)) (fun _ _ _ _ _ _ => (pgf_name (i := 0) (show List.Nodup (α := Str) ["place", "places"] by decide +kernel))) (fun _ _ _ _ _ _ => (pf_call (ok_many_below C) (hr.mono (by decide)) (by rfl) C.g_many_below C.F_many_below.kp C.b_many_below (paf_cons (pf_v 1) (paf_cons (pf_v 0) paf_nil))))) paf_nil))))
theorem ok_crossings_of (C : Defs K mg) : FnOk P w K mg base CX0 3 C.f_crossings_of C.d_crossings_of ["lower", "upper"] (spF K 2 m_crossings_of) := by
  refine Fun.okF (N := ["lower", "upper"]) C.F_crossings_of sc_crossings_of (fun cdv A outer s H E hr => ?_)
  have hu := hr.units
  exact (psf_one (psf_ret (pf_callB (call_sumA rfl) sem_sum (by rfl) C.n_sum PyProof.Rows.boot_sum (paf_cons (pf_comp (N' := ["place", "lower"]) (ix := [none, some 0]) ⟨rfl, rfl, rfl, rfl, rfl, rfl⟩ rfl (pif_seq (pf_v 1)) (fun _ _ _ _ _ _ => (pgf_name (i := 0) (show List.Nodup (α := Str) ["place", "lower"] by decide +kernel))) (fun _ _ _ _ _ _ => (pf_call (ok_many_below C) (hr.mono (by decide)) (by rfl) C.g_many_below C.F_many_below.kp C.b_many_below (paf_cons (pf_v 1) (paf_cons (pf_v 0) paf_nil))))) paf_nil))))
theorem okr_halves_between (C : Defs K mg) : ∀ k : Nat, FnOk P w K mg base CX0 (4 + k) C.f_halves_between C.d_halves_between ["places", "first", "behind"] (spF K 3 (m_halves_betweenR k))
  | 0 => ⟨fun _ _ _ _ h => (by obtain ⟨_, _, _, _, _, _, _, _, e, _⟩ := h; cases e), fun _ _ _ _ _ _ _ _ _ _ _ _ _ h => (by obtain ⟨_, _, _, _, _, _, _, _, e, _⟩ := h; cases e)⟩
  | k + 1 => by
    have hR := okr_halves_between C k
    refine Fun.okF (N := ["places", "first", "behind", "many", "middle", "whole"]) C.F_halves_between sc_halves_between (fun cdv A outer s H E hr => ?_)
    have hu := hr.units
    refine psf_cons ?s0 ?t0
    case s0 => exact (psf_set (i := 3) (by exact sc_halves_between.nd) (pf_op op_sub sem_sub (pf_v 2) (pf_v 1)))
    refine psf_cons ?s1 ?t1
    case s1 => exact (psf_if (ptf_cmp op_lt sem_lt (pf_v 3) pf_int (nomark _)) (psf_one (psf_ret (pf_lst paf_nil))) psf_nil)
    refine psf_cons ?s2 ?t2
    case s2 => exact (psf_set (i := 4) (by exact sc_halves_between.nd) (pf_op op_addA sem_add (pf_v 1) (pf_op op_fdivW sem_div (pf_v 3) pf_int)))
    refine psf_cons ?s3 ?t3
    case s3 => exact (psf_set (i := 5) (by exact sc_halves_between.nd) (pf_tup (paf_cons (pf_v 1) (paf_cons (pf_v 2) (paf_cons (pf_call (ok_crossings_of C) (hr.mono (by show _ ≤ _ + k; omega)) (by rfl) C.g_crossings_of C.F_crossings_of.kp C.b_crossings_of (paf_cons (pf_slice sl_all sem_sl (pf_v 0) (pof_some (pf_v 1)) (pof_some (pf_v 4))) (paf_cons (pf_slice sl_all sem_sl (pf_v 0) (pof_some (pf_v 4)) (pof_some (pf_v 2))) paf_nil))) paf_nil)))))
    exact (psf_one (psf_ret (pf_op op_addA sem_add (pf_op op_addA sem_add (pf_lst (paf_cons (pf_v 5) paf_nil)) (pf_call hR hr (by rfl) C.g_halves_between C.F_halves_between.kp C.b_halves_between (paf_cons (pf_v 0) (paf_cons (pf_v 1) (paf_cons (pf_v 4) paf_nil))))) (pf_call hR hr (by rfl) C.g_halves_between C.F_halves_between.kp C.b_halves_between (paf_cons (pf_v 0) (paf_cons (pf_v 4) (paf_cons (pf_v 2) paf_nil)))))))
theorem ok_halves_between (C : Defs K mg) : FnOk P w K mg base CX0 11 C.f_halves_between C.d_halves_between ["places", "first", "behind"] (spF K 3 m_halves_between) := okr_halves_between C 7
theorem ok_halves_of (C : Defs K mg) : FnOk P w K mg base CX0 12 C.f_halves_of C.d_halves_of ["points"] (spF K 1 m_halves_of) := by
  refine Fun.okF (N := ["points", "places"]) C.F_halves_of sc_halves_of (fun cdv A outer s H E hr => ?_)
  have hu := hr.units
  refine psf_cons ?s0 ?t0
  case s0 => exact (psf_set (i := 1) (by exact sc_halves_of.nd) (pf_callB (call_sortT rfl) sem_sortT (by rfl) C.n_sorted PyProof.Rows.boot_sorted (paf_cons (pf_comp (N' := ["point"]) (ix := [none]) ⟨rfl, rfl, rfl, rfl, rfl, rfl⟩ rfl (pif_seq (pf_v 0)) (fun _ _ _ _ _ _ => (pgf_name (i := 0) (show List.Nodup (α := Str) ["point"] by decide +kernel))) (fun _ _ _ _ _ _ => (pf_call (ok_place_of C) (hr.mono (by decide)) (by rfl) C.g_place_of C.F_place_of.kp C.b_place_of (paf_cons (pf_v 0) paf_nil)))) paf_nil)))
  exact (psf_one (psf_ret (pf_callTy call_tuple_of sem_tuple (by rfl) C.n_tuple (by decide +kernel) (paf_cons (pf_call (ok_halves_between C) (hr.mono (by decide)) (by rfl) C.g_halves_between C.F_halves_between.kp C.b_halves_between (paf_cons (pf_v 1) (paf_cons pf_int (paf_cons (pf_callB call_len sem_len (by rfl) C.n_len PySem.boot_len (paf_cons (pf_v 1) paf_nil)) paf_nil)))) paf_nil))))
theorem ok_halves_shown (C : Defs K mg) : FnOk P w K mg base CX0 13 C.f_halves_shown C.d_halves_shown ["points", "halves"] (spF K 2 m_halves_shown) := by
  refine Fun.okF (N := ["points", "halves"]) C.F_halves_shown sc_halves_shown (fun cdv A outer s H E hr => ?_)
  have hu := hr.units
  exact (psf_one (psf_ret (pf_cmp (op_eqU hu) sem_eq (pf_v 1) (pf_call (ok_halves_of C) (hr.mono (by decide)) (by rfl) C.g_halves_of C.F_halves_of.kp C.b_halves_of (paf_cons (pf_v 0) paf_nil)) (nomark _))))
theorem ok_pairs_in_all (C : Defs K mg) : FnOk P w K mg base CX0 4 C.f_pairs_in_all C.d_pairs_in_all ["points"] (spF K 1 m_pairs_in_all) := by
  refine Fun.okF (N := ["points"]) C.F_pairs_in_all sc_pairs_in_all (fun cdv A outer s H E hr => ?_)
  have hu := hr.units
  exact (psf_one (psf_ret (pf_callB (call_sumA rfl) sem_sum (by rfl) C.n_sum PyProof.Rows.boot_sum (paf_cons (pf_call (ok_below_each C) (hr.mono (by decide)) (by rfl) C.g_below_each C.F_below_each.kp C.b_below_each (paf_cons (pf_v 0) paf_nil)) paf_nil))))
theorem ok_l_pairs_right (C : Defs K mg) : FnOk P w K mg base CX0 14 C.f_l_pairs_right C.d_l_pairs_right ["spots"] (spF K 1 m_l_pairs_right) := by
  refine Fun.okF (N := ["spots"]) C.F_l_pairs_right sc_l_pairs_right (fun cdv A outer s H E hr => ?_)
  have hu := hr.units
  refine psf_cons ?s0 ?t0
  case s0 => exact (psf_if (PWF.pt (pwf_or (ptf_cmp (op_neU hu) sem_ne (pf_callK0 (ok_below_each C) (hr.mono (by decide)) (by rfl) C.g_below_each C.F_below_each.kp C.kb_below_each (pkf_cons (pf_v 0) pkf_nil)) (pf_call (ok_below_each C) (hr.mono (by decide)) (by rfl) C.g_below_each C.F_below_each.kp C.b_below_each (paf_cons (pf_v 0) paf_nil)) (nomark _)) (pwf_or1 (ptf_cmp (op_neU hu) sem_ne (pf_callK0 (ok_above_each C) (hr.mono (by decide)) (by rfl) C.g_above_each C.F_above_each.kp C.kb_above_each (pkf_cons (pf_v 0) pkf_nil)) (pf_call (ok_above_each C) (hr.mono (by decide)) (by rfl) C.g_above_each C.F_above_each.kp C.b_above_each (paf_cons (pf_v 0) paf_nil)) (nomark _))))) (psf_one (psf_ret pf_bl)) psf_nil)
  refine psf_cons ?s1 ?t1
  case s1 => exact (psf_if (PWF.pt (pwf_or (ptf_cmp (op_neU hu) sem_ne (pf_callK0 (ok_pairs_in_all C) (hr.mono (by decide)) (by rfl) C.g_pairs_in_all C.F_pairs_in_all.kp C.kb_pairs_in_all (pkf_cons (pf_v 0) pkf_nil)) (pf_call (ok_pairs_in_all C) (hr.mono (by decide)) (by rfl) C.g_pairs_in_all C.F_pairs_in_all.kp C.b_pairs_in_all (paf_cons (pf_v 0) paf_nil)) (nomark _)) (pwf_or1 (ptf_cmp (op_neU hu) sem_ne (pf_callK0 (ok_halves_of C) (hr.mono (by decide)) (by rfl) C.g_halves_of C.F_halves_of.kp C.kb_halves_of (pkf_cons (pf_v 0) pkf_nil)) (pf_call (ok_halves_of C) (hr.mono (by decide)) (by rfl) C.g_halves_of C.F_halves_of.kp C.b_halves_of (paf_cons (pf_v 0) paf_nil)) (nomark _))))) (psf_one (psf_ret pf_bl)) psf_nil)
  exact (psf_one (psf_ret (pf_cmp op_isU (sem_is false) (pf_callK0 (ok_halves_shown C) (hr.mono (by decide)) (by rfl) C.g_halves_shown C.F_halves_shown.kp C.kb_halves_shown (pkf_cons (pf_v 0) (pkf_cons (pf_call (ok_halves_of C) (hr.mono (by decide)) (by rfl) C.g_halves_of C.F_halves_of.kp C.b_halves_of (paf_cons (pf_v 0) paf_nil)) pkf_nil))) pf_bl (nomark _))))
theorem ok_many_greater (C : Defs K mg) : FnOk P w K mg base CX0 1 C.f_many_greater C.d_many_greater ["numbers", "number"] (spF K 2 m_many_greater) := by
  refine Fun.okF (N := ["numbers", "number"]) C.F_many_greater sc_many_greater (fun cdv A outer s H E hr => ?_)
  have hu := hr.units
  exact (psf_one (psf_ret (pf_callB call_len sem_len (by rfl) C.n_len PySem.boot_len (paf_cons (pf_compT (N' := ["other", "number"]) (ix := [none, some 1]) ⟨rfl, rfl, rfl, rfl, rfl, rfl⟩ rfl (pif_seq (pf_v 0)) (fun _ _ _ _ _ _ => (pgf_name (i := 0) (show List.Nodup (α := Str) ["other", "number"] by decide +kernel))) (fun _ _ _ _ _ _ => (ptf_cmp op_gt sem_gt (pf_v 0) (pf_v 1) (nomark _))) (fun _ _ _ _ _ _ => (pf_v 0))) paf_nil))))
theorem ok_counts_of (C : Defs K mg) : FnOk P w K mg base CX0 2 C.f_counts_of C.d_counts_of ["row"] (spF K 1 m_counts_of) := by
  refine Fun.okF (N := ["row"]) C.F_counts_of sc_counts_of (fun cdv A outer s H E hr => ?_)
  have hu := hr.units
  exact (psf_one (psf_ret (pf_callTy call_tuple_of sem_tuple (by rfl) C.n_tuple (by decide +kernel) (paf_cons (pf_comp (N' := ["place", "number", "row"]) (ix := [none, none, some 0]) ⟨rfl, rfl, rfl, rfl, rfl, rfl⟩ rfl (pif_enumA (by rfl) C.n_enumerate (paf_cons (pf_v 0) paf_nil)) (fun _ _ _ _ _ _ => (pgf_tup rfl (pgsf_cons (pgf_name (i := 0) (show List.Nodup (α := Str) ["place", "number", "row"] by decide +kernel)) (pgsf_cons (pgf_name (i := 1) (show List.Nodup (α := Str) ["place", "number", "row"] by decide +kernel)) pgsf_nil)))) (fun _ _ _ _ _ _ => (pf_call (ok_many_greater C) (hr.mono (by decide)) (by rfl) C.g_many_greater C.F_many_greater.kp C.b_many_greater (paf_cons (pf_slice sl_all sem_sl (pf_v 2) pof_none (pof_some (pf_v 0))) (paf_cons (pf_v 1) paf_nil))))) paf_nil))))
theorem ok_count_of (C : Defs K mg) : FnOk P w K mg base CX0 3 C.f_count_of C.d_count_of ["row"] (spF K 1 m_count_of) := by
  refine Fun.okF (N := ["row"]) C.F_count_of sc_count_of (fun cdv A outer s H E hr => ?_)
  have hu := hr.units
  exact (psf_one (psf_ret (pf_callB (call_sumA rfl) sem_sum (by rfl) C.n_sum PyProof.Rows.boot_sum (paf_cons (pf_call (ok_counts_of C) (hr.mono (by decide)) (by rfl) C.g_counts_of C.F_counts_of.kp C.b_counts_of (paf_cons (pf_v 0) paf_nil)) paf_nil))))
theorem ok_need_counts (C : Defs K mg) : FnOk P w K mg base CX0 1 C.f_need_counts C.d_need_counts ["counts"] (spF K 1 m_need_counts) := by
  refine Fun.okF (N := ["counts", "place", "count"]) C.F_need_counts sc_need_counts (fun cdv A outer s H E hr => ?_)
  have hu := hr.units
  exact (psf_one (psf_for PassesOwn.never rfl (pif_enumA (by rfl) C.n_enumerate (paf_cons (pf_v 0) paf_nil)) (pgf_tup rfl (pgsf_cons (pgf_name (i := 1) (by exact sc_need_counts.nd)) (pgsf_cons (pgf_name (i := 2) (by exact sc_need_counts.nd)) pgsf_nil))) (psf_one (psf_if (PWF.pt (pwf_or (ptf_cmp op_lt sem_lt (pf_v 2) pf_int (nomark _)) (pwf_or1 (ptf_cmp op_gt sem_gt (pf_v 2) (pf_v 1) (nomark _))))) (psf_one psf_never) psf_nil))))
theorem ok_row_of (C : Defs K mg) : FnOk P w K mg base CX0 2 C.f_row_of C.d_row_of ["counts"] (spF K 1 m_row_of) := by
  refine Fun.okF (N := ["counts", "left", "backwards", "place"]) C.F_row_of sc_row_of (fun cdv A outer s H E hr => ?_)
  have hu := hr.units
  refine psf_cons ?s0 ?t0
  case s0 => exact (psf_expr (pf_call (ok_need_counts C) (hr.mono (by decide)) (by rfl) C.g_need_counts C.F_need_counts.kp C.b_need_counts (paf_cons (pf_v 0) paf_nil)))
  refine psf_cons ?s1 ?t1
  case s1 => exact (psf_set (i := 1) (by exact sc_row_of.nd) (pf_lrng2 rfl (by rfl) C.n_list (by rfl) C.n_range (paf_cons pf_int (paf_cons (pf_op op_addA sem_add (pf_callB call_len sem_len (by rfl) C.n_len PySem.boot_len (paf_cons (pf_v 0) paf_nil)) pf_int) paf_nil))))
  refine psf_cons ?s2 ?t2
  case s2 => exact (psf_set (i := 2) (by exact sc_row_of.nd) (pf_lst paf_nil))
  refine psf_cons ?s3 ?t3
  case s3 => exact (psf_for PassesOwn.never rfl (pif_rangeD (by rfl) C.n_range (paf_cons (pf_op op_sub sem_sub (pf_callB call_len sem_len (by rfl) C.n_len PySem.boot_len (paf_cons (pf_v 0) paf_nil)) pf_int) (paf_cons (pf_neg pf_int) (paf_cons (pf_neg pf_int) paf_nil)))) (pgf_name (i := 3) (by exact sc_row_of.nd)) (psf_one (psf_expr (pf_bm PySem.F.plainAttrs_list PySem.F.slot_list_append PySem.F.type_list_append mt_append sem_append (pf_v 2) (paf_cons (pf_bm PySem.F.plainAttrs_list PySem.F.slot_list_pop PySem.F.type_list_pop mt_popAt sem_pop (pf_v 1) (paf_cons (pf_op op_sub sem_sub (pf_v 3) (pf_ix ix_seq sem_ix (pf_v 0) (pf_v 3) (fun _ _ => rfl))) paf_nil)) paf_nil)))))
  exact (psf_one (psf_ret (pf_trev rfl (by rfl) C.n_tuple (by rfl) C.n_reversed (paf_cons (pf_v 2) paf_nil))))
theorem ok_ways_with_one_more (C : Defs K mg) : FnOk P w K mg base CX0 1 C.f_ways_with_one_more C.d_ways_with_one_more ["ways", "most"] (spF K 2 m_ways_with_one_more) := by
  refine Fun.okF (N := ["ways", "most"]) C.F_ways_with_one_more sc_ways_with_one_more (fun cdv A outer s H E hr => ?_)
  have hu := hr.units
  exact (psf_one (psf_ret (pf_comp (N' := ["total", "ways", "most"]) (ix := [none, some 0, some 1]) ⟨rfl, rfl, rfl, rfl, rfl, rfl⟩ rfl (pif_range1 (by rfl) C.n_range (paf_cons (pf_op op_addA sem_add (pf_callB call_len sem_len (by rfl) C.n_len PySem.boot_len (paf_cons (pf_v 0) paf_nil)) (pf_v 1)) paf_nil)) (fun _ _ _ _ _ _ => (pgf_name (i := 0) (show List.Nodup (α := Str) ["total", "ways", "most"] by decide +kernel))) (fun _ _ _ _ _ _ => (pf_callB (call_sumA rfl) sem_sum (by rfl) C.n_sum PyProof.Rows.boot_sum (paf_cons (pf_slice sl_all sem_sl (pf_v 1) (pof_some (pf_callB (call_maxA rfl) sem_max (by rfl) C.n_max PyProof.Rows.boot_max (paf_cons pf_int (paf_cons (pf_op op_sub sem_sub (pf_v 0) (pf_v 2)) paf_nil)))) (pof_some (pf_op op_addA sem_add (pf_v 0) pf_int))) paf_nil))))))
theorem ok_ways_from_each (C : Defs K mg) : FnOk P w K mg base CX0 2 C.f_ways_from_each C.d_ways_from_each ["many"] (spF K 1 m_ways_from_each) := by
  refine Fun.okF (N := ["many", "backwards", "place"]) C.F_ways_from_each sc_ways_from_each (fun cdv A outer s H E hr => ?_)
  have hu := hr.units
  refine psf_cons ?s0 ?t0
  case s0 => exact (psf_set (i := 1) (by exact sc_ways_from_each.nd) (pf_lst (paf_cons (pf_lst (paf_cons pf_int paf_nil)) paf_nil)))
  refine psf_cons ?s1 ?t1
  case s1 => exact (psf_for PassesOwn.never rfl (pif_rangeD (by rfl) C.n_range (paf_cons (pf_op op_sub sem_sub (pf_v 0) pf_int) (paf_cons (pf_neg pf_int) (paf_cons (pf_neg pf_int) paf_nil)))) (pgf_name (i := 2) (by exact sc_ways_from_each.nd)) (psf_one (psf_expr (pf_bm PySem.F.plainAttrs_list PySem.F.slot_list_append PySem.F.type_list_append mt_append sem_append (pf_v 1) (paf_cons (pf_call (ok_ways_with_one_more C) (hr.mono (by decide)) (by rfl) C.g_ways_with_one_more C.F_ways_with_one_more.kp C.b_ways_with_one_more (paf_cons (pf_ix ix_seq sem_ix (pf_v 1) (pf_neg pf_int) (fun _ _ => rfl)) (paf_cons (pf_v 2) paf_nil))) paf_nil)))))
  exact (psf_one (psf_ret (pf_lrev rfl (by rfl) C.n_list (by rfl) C.n_reversed (paf_cons (pf_v 1) paf_nil))))
theorem ok_ways_to (C : Defs K mg) : FnOk P w K mg base CX0 1 C.f_ways_to C.d_ways_to ["ways", "total"] (spF K 2 m_ways_to) := by
  refine Fun.okF (N := ["ways", "total"]) C.F_ways_to sc_ways_to (fun cdv A outer s H E hr => ?_)
  have hu := hr.units
  exact (psf_one (psf_ret (pf_if (ptf_chain op_le op_lt sem_le sem_lt pf_int (pf_v 1) (pf_callB call_len sem_len (by rfl) C.n_len PySem.boot_len (paf_cons (pf_v 0) paf_nil))) (pf_ix ix_seq sem_ix (pf_v 0) (pf_v 1) (fun _ _ => rfl)) pf_int)))
theorem ok_nth_row (C : Defs K mg) : FnOk P w K mg base CX0 3 C.f_nth_row C.d_nth_row ["many", "count", "place"] (spF K 3 m_nth_row) := by
  refine Fun.okF (N := ["many", "count", "place", "ways", "counts", "left", "ahead", "turn", "own"]) C.F_nth_row sc_nth_row (fun cdv A outer s H E hr => ?_)
  have hu := hr.units
  refine psf_cons ?s0 ?t0
  case s0 => exact (psf_set (i := 3) (by exact sc_nth_row.nd) (pf_call (ok_ways_from_each C) (hr.mono (by decide)) (by rfl) C.g_ways_from_each C.F_ways_from_each.kp C.b_ways_from_each (paf_cons (pf_v 0) paf_nil)))
  refine psf_cons ?s1 ?t1
  case s1 => exact (psf_if (PWF.pt (pwf_or (ptf_cmp op_lt sem_lt (pf_v 2) pf_int (nomark _)) (pwf_or1 (ptf_cmp op_ge sem_ge (pf_v 2) (pf_call (ok_ways_to C) (hr.mono (by decide)) (by rfl) C.g_ways_to C.F_ways_to.kp C.b_ways_to (paf_cons (pf_ix ix_seq sem_ix (pf_v 3) pf_int (fun _ _ => rfl)) (paf_cons (pf_v 1) paf_nil))) (nomark _))))) (psf_one psf_never) psf_nil)
  refine psf_cons ?s2 ?t2
  case s2 => exact (psf_set (i := 4) (by exact sc_nth_row.nd) (pf_lst paf_nil))
  refine psf_cons ?s3 ?t3
  case s3 => exact (psf_set (i := 5) (by exact sc_nth_row.nd) (pf_v 1))
  refine psf_cons ?s4 ?t4
  case s4 => exact (psf_set (i := 6) (by exact sc_nth_row.nd) (pf_v 2))
  refine psf_cons ?s5 ?t5
  case s5 => exact (psf_for PassesOwn.never rfl (pif_range1 (by rfl) C.n_range (paf_cons (pf_v 0) paf_nil)) (pgf_name (i := 7) (by exact sc_nth_row.nd)) (psf_cons (psf_set (i := 8) (by exact sc_nth_row.nd) pf_int) (psf_cons (psf_while 100000 PassesOwn.never (ptf_cmp op_ge sem_ge (pf_v 6) (pf_call (ok_ways_to C) (hr.mono (by decide)) (by rfl) C.g_ways_to C.F_ways_to.kp C.b_ways_to (paf_cons (pf_ix ix_seq sem_ix (pf_v 3) (pf_op op_addA sem_add (pf_v 7) pf_int) (fun _ _ => rfl)) (paf_cons (pf_op op_sub sem_sub (pf_v 5) (pf_v 8)) paf_nil))) (nomark _)) (psf_cons (psf_set (i := 6) (by exact sc_nth_row.nd) (pf_op op_sub sem_sub (pf_v 6) (pf_call (ok_ways_to C) (hr.mono (by decide)) (by rfl) C.g_ways_to C.F_ways_to.kp C.b_ways_to (paf_cons (pf_ix ix_seq sem_ix (pf_v 3) (pf_op op_addA sem_add (pf_v 7) pf_int) (fun _ _ => rfl)) (paf_cons (pf_op op_sub sem_sub (pf_v 5) (pf_v 8)) paf_nil))))) (psf_one (psf_set (i := 8) (by exact sc_nth_row.nd) (pf_op op_addA sem_add (pf_v 8) pf_int))))) (psf_cons (psf_expr (pf_bm PySem.F.plainAttrs_list PySem.F.slot_list_append PySem.F.type_list_append mt_append sem_append (pf_v 4) (paf_cons (pf_v 8) paf_nil))) (psf_one (psf_set (i := 5) (by exact sc_nth_row.nd) (pf_op op_sub sem_sub (pf_v 5) (pf_v 8))))))))
  exact (psf_one (psf_ret (pf_call (ok_row_of C) (hr.mono (by decide)) (by rfl) C.g_row_of C.F_row_of.kp C.b_row_of (paf_cons (pf_v 4) paf_nil))))
theorem ok_place_of_row (C : Defs K mg) : FnOk P w K mg base CX0 3 C.f_place_of_row C.d_place_of_row ["row"] (spF K 1 m_place_of_row) := by
  refine Fun.okF (N := ["row", "ways", "counts", "left", "ahead", "turn", "own"]) C.F_place_of_row sc_place_of_row (fun cdv A outer s H E hr => ?_)
  have hu := hr.units
  refine psf_cons ?s0 ?t0
  case s0 => exact (psf_set (i := 1) (by exact sc_place_of_row.nd) (pf_call (ok_ways_from_each C) (hr.mono (by decide)) (by rfl) C.g_ways_from_each C.F_ways_from_each.kp C.b_ways_from_each (paf_cons (pf_callB call_len sem_len (by rfl) C.n_len PySem.boot_len (paf_cons (pf_v 0) paf_nil)) paf_nil)))
  refine psf_cons ?s1 ?t1
  case s1 => exact (psf_set (i := 2) (by exact sc_place_of_row.nd) (pf_call (ok_counts_of C) (hr.mono (by decide)) (by rfl) C.g_counts_of C.F_counts_of.kp C.b_counts_of (paf_cons (pf_v 0) paf_nil)))
  refine psf_cons ?s2 ?t2
  case s2 => exact (psf_set (i := 3) (by exact sc_place_of_row.nd) (pf_callB (call_sumA rfl) sem_sum (by rfl) C.n_sum PyProof.Rows.boot_sum (paf_cons (pf_v 2) paf_nil)))
  refine psf_cons ?s3 ?t3
  case s3 => exact (psf_set (i := 4) (by exact sc_place_of_row.nd) pf_int)
  refine psf_cons ?s4 ?t4
  case s4 => exact (psf_for PassesOwn.never rfl (pif_enumA (by rfl) C.n_enumerate (paf_cons (pf_v 2) paf_nil)) (pgf_tup rfl (pgsf_cons (pgf_name (i := 5) (by exact sc_place_of_row.nd)) (pgsf_cons (pgf_name (i := 6) (by exact sc_place_of_row.nd)) pgsf_nil))) (psf_cons (psf_set (i := 4) (by exact sc_place_of_row.nd) (pf_op op_addA sem_add (pf_v 4) (pf_callB (call_sumA rfl) sem_sum (by rfl) C.n_sum PyProof.Rows.boot_sum (paf_cons (pf_comp (N' := ["lesser", "ways", "turn", "left"]) (ix := [none, some 1, some 5, some 3]) ⟨rfl, rfl, rfl, rfl, rfl, rfl⟩ rfl (pif_range1 (by rfl) C.n_range (paf_cons (pf_v 6) paf_nil)) (fun _ _ _ _ _ _ => (pgf_name (i := 0) (show List.Nodup (α := Str) ["lesser", "ways", "turn", "left"] by decide +kernel))) (fun _ _ _ _ _ _ => (pf_call (ok_ways_to C) (hr.mono (by decide)) (by rfl) C.g_ways_to C.F_ways_to.kp C.b_ways_to (paf_cons (pf_ix ix_seq sem_ix (pf_v 1) (pf_op op_addA sem_add (pf_v 2) pf_int) (fun _ _ => rfl)) (paf_cons (pf_op op_sub sem_sub (pf_v 3) (pf_v 0)) paf_nil))))) paf_nil)))) (psf_one (psf_set (i := 3) (by exact sc_place_of_row.nd) (pf_op op_sub sem_sub (pf_v 3) (pf_v 6))))))
  exact (psf_one (psf_ret (pf_v 4)))
theorem ok_rows_with (C : Defs K mg) : FnOk P w K mg base CX0 3 C.f_rows_with C.d_rows_with ["many"] (spF K 1 m_rows_with) := by
  refine Fun.okF (N := ["many"]) C.F_rows_with sc_rows_with (fun cdv A outer s H E hr => ?_)
  have hu := hr.units
  exact (psf_one (psf_ret (pf_callTy call_tuple_of sem_tuple (by rfl) C.n_tuple (by decide +kernel) (paf_cons (pf_ix ix_seq sem_ix (pf_call (ok_ways_from_each C) (hr.mono (by decide)) (by rfl) C.g_ways_from_each C.F_ways_from_each.kp C.b_ways_from_each (paf_cons (pf_v 0) paf_nil)) pf_int (fun _ _ => rfl)) paf_nil))))
theorem ok_l_rows_right (C : Defs K mg) : FnOk P w K mg base CX0 4 C.f_l_rows_right C.d_l_rows_right ["numbers"] (spF K 1 m_l_rows_right) := by
  refine Fun.okF (N := ["numbers", "told", "ordered", "at"]) C.F_l_rows_right sc_l_rows_right (fun cdv A outer s H E hr => ?_)
  have hu := hr.units
  refine psf_cons ?s0 ?t0
  case s0 => exact (psf_set (i := 1) (by exact sc_l_rows_right.nd) (pf_call (ok_counts_of C) (hr.mono (by decide)) (by rfl) C.g_counts_of C.F_counts_of.kp C.b_counts_of (paf_cons (pf_v 0) paf_nil)))
  refine psf_cons ?s1 ?t1
  case s1 => exact (psf_if (PWF.pt (pwf_or (ptf_cmp (op_neU hu) sem_ne (pf_callK0 (ok_counts_of C) (hr.mono (by decide)) (by rfl) C.g_counts_of C.F_counts_of.kp C.kb_counts_of (pkf_cons (pf_v 0) pkf_nil)) (pf_v 1) (nomark _)) (pwf_or1 (ptf_cmp (op_neU hu) sem_ne (pf_callK0 (ok_count_of C) (hr.mono (by decide)) (by rfl) C.g_count_of C.F_count_of.kp C.kb_count_of (pkf_cons (pf_v 0) pkf_nil)) (pf_call (ok_count_of C) (hr.mono (by decide)) (by rfl) C.g_count_of C.F_count_of.kp C.b_count_of (paf_cons (pf_v 0) paf_nil)) (nomark _))))) (psf_one (psf_ret pf_bl)) psf_nil)
  refine psf_cons ?s2 ?t2
  case s2 => exact (psf_if (PWF.pt (pwf_or (ptf_cmp (op_neU hu) sem_ne (pf_callK0 (ok_row_of C) (hr.mono (by decide)) (by rfl) C.g_row_of C.F_row_of.kp C.kb_row_of (pkf_cons (pf_v 1) pkf_nil)) (pf_call (ok_row_of C) (hr.mono (by decide)) (by rfl) C.g_row_of C.F_row_of.kp C.b_row_of (paf_cons (pf_v 1) paf_nil)) (nomark _)) (pwf_or1 (ptf_cmp (op_neU hu) sem_ne (pf_callK0 (ok_rows_with C) (hr.mono (by decide)) (by rfl) C.g_rows_with C.F_rows_with.kp C.kb_rows_with (pkf_cons pf_int pkf_nil)) (pf_call (ok_rows_with C) (hr.mono (by decide)) (by rfl) C.g_rows_with C.F_rows_with.kp C.b_rows_with (paf_cons pf_int paf_nil)) (nomark _))))) (psf_one (psf_ret pf_bl)) psf_nil)
  refine psf_cons ?s3 ?t3
  case s3 => exact (psf_set (i := 2) (by exact sc_l_rows_right.nd) (pf_call (ok_row_of C) (hr.mono (by decide)) (by rfl) C.g_row_of C.F_row_of.kp C.b_row_of (paf_cons (pf_v 1) paf_nil)))
  refine psf_cons ?s4 ?t4
  case s4 => exact (psf_set (i := 3) (by exact sc_l_rows_right.nd) (pf_call (ok_place_of_row C) (hr.mono (by decide)) (by rfl) C.g_place_of_row C.F_place_of_row.kp C.b_place_of_row (paf_cons (pf_v 2) paf_nil)))
  exact (psf_one (psf_ret (pf_and (pf_cmp (op_eqU hu) sem_eq (pf_callK0 (ok_place_of_row C) (hr.mono (by decide)) (by rfl) C.g_place_of_row C.F_place_of_row.kp C.kb_place_of_row (pkf_cons (pf_v 2) pkf_nil)) (pf_v 3) (nomark _)) (pf_one (pf_cmp (op_eqU hu) sem_eq (pf_callK0 (ok_nth_row C) (hr.mono (by decide)) (by rfl) C.g_nth_row C.F_nth_row.kp C.kb_nth_row (pkf_cons pf_int (pkf_cons (pf_call (ok_count_of C) (hr.mono (by decide)) (by rfl) C.g_count_of C.F_count_of.kp C.b_count_of (paf_cons (pf_v 2) paf_nil)) (pkf_cons (pf_v 3) pkf_nil)))) (pf_v 2) (nomark _))))))
theorem ok_l_spots (C : Defs K mg) : FnOk P w K mg base CX0 1 C.f_l_spots C.d_l_spots ["cell"] (spF K 1 m_l_spots) := by
  refine Fun.okF (N := ["cell", "digits"]) C.F_l_spots sc_l_spots (fun cdv A outer s H E hr => ?_)
  have hu := hr.units
  refine psf_cons ?s0 ?t0
  case s0 => exact (psf_comp (i := 1) (N' := ["k", "cell"]) (ix := [none, some 0]) (by exact sc_l_spots.nd) ⟨rfl, rfl, rfl, rfl, rfl, rfl⟩ rfl (pif_range1 (by rfl) C.n_range (paf_cons pf_int paf_nil)) (fun _ _ _ _ _ _ => (pgf_name (i := 0) (show List.Nodup (α := Str) ["k", "cell"] by decide +kernel))) (fun _ _ _ _ _ _ => (pf_op op_sub sem_sub (pf_op op_mod sem_mod (pf_op op_fdivW sem_div (pf_v 1) (pf_ix ix_seq sem_ix (pf_lst (paf_cons pf_int (paf_cons pf_int (paf_cons pf_int (paf_cons pf_int paf_nil))))) (pf_v 0) (fun _ _ => rfl))) pf_int) pf_int)))
  exact (psf_one (psf_ret (pf_tup (paf_cons (pf_tup (paf_cons pf_str (paf_cons (pf_ix ix_seq sem_ix (pf_v 1) pf_int (fun _ _ => rfl)) (paf_cons (pf_ix ix_seq sem_ix (pf_v 1) pf_int (fun _ _ => rfl)) paf_nil)))) (paf_cons (pf_tup (paf_cons pf_str (paf_cons (pf_ix ix_seq sem_ix (pf_v 1) pf_int (fun _ _ => rfl)) (paf_cons (pf_ix ix_seq sem_ix (pf_v 1) pf_int (fun _ _ => rfl)) paf_nil)))) paf_nil)))))
theorem ok_points_shown (C : Defs K mg) : FnOk P w K mg base CX0 1 C.f_points_shown C.d_points_shown ["points"] (spF K 1 m_points_shown) := by
  refine Fun.okF (N := ["points"]) C.F_points_shown sc_points_shown (fun cdv A outer s H E hr => ?_)
  have hu := hr.units
  exact (psf_one (psf_ret (pf_bm PySem.F.plainAttrs_str PySem.F.slot_str_join PySem.F.type_str_join mt_join sem_join pf_str (paf_cons (pf_comp (N' := ["name", "x", "y"]) (ix := [none, none, none]) ⟨rfl, rfl, rfl, rfl, rfl, rfl⟩ rfl (pif_seq (pf_v 0)) (fun _ _ _ _ _ _ => (pgf_tup rfl (pgsf_cons (pgf_name (i := 0) (show List.Nodup (α := Str) ["name", "x", "y"] by decide +kernel)) (pgsf_cons (pgf_name (i := 1) (show List.Nodup (α := Str) ["name", "x", "y"] by decide +kernel)) (pgsf_cons (pgf_name (i := 2) (show List.Nodup (α := Str) ["name", "x", "y"] by decide +kernel)) pgsf_nil))))) (fun _ _ _ _ _ _ => (pf_joined (.cons (pf_fmt (pf_v 0)) (.cons pf_str (.cons (pf_fmt (pf_v 1)) (.cons pf_str (.cons (pf_fmt (pf_v 2)) .nil)))))))) paf_nil))))
theorem ok_holds_only (C : Defs K mg) : FnOk P w K mg base CX0 1 C.f_holds_only C.d_holds_only ["word", "signs"] (spF K 2 m_holds_only) := by
  refine Fun.okF (N := ["word", "signs"]) C.F_holds_only sc_holds_only (fun cdv A outer s H E hr => ?_)
  have hu := hr.units
  exact (psf_one (psf_ret (pf_callB (call_allL rfl) sem_all (by rfl) C.n_all PyProof.Rows.boot_all (paf_cons (pf_comp (N' := ["sign", "signs"]) (ix := [none, some 1]) ⟨rfl, rfl, rfl, rfl, rfl, rfl⟩ rfl (pif_str (pf_v 0)) (fun _ _ _ _ _ _ => (pgf_name (i := 0) (show List.Nodup (α := Str) ["sign", "signs"] by decide +kernel))) (fun _ _ _ _ _ _ => (pf_cmp op_inA (sem_in false) (pf_v 0) (pf_v 1) (by with_unfolding_all rfl)))) paf_nil))))
theorem ok_is_name (C : Defs K mg) : FnOk P w K mg base CX0 2 C.f_is_name C.d_is_name ["word"] (spF K 1 m_is_name) := by
  refine Fun.okF (N := ["word"]) C.F_is_name sc_is_name (fun cdv A outer s H E hr => ?_)
  have hu := hr.units
  exact (psf_one (psf_ret (pf_and (pf_chain op_le op_le sem_le sem_le pf_int (pf_callB call_len sem_len (by rfl) C.n_len PySem.boot_len (paf_cons (pf_v 0) paf_nil)) (pf_globI (by rfl) C.v_LONGEST_NAME)) (pf_one (pf_call (ok_holds_only C) (hr.mono (by decide)) (by rfl) C.g_holds_only C.F_holds_only.kp C.b_holds_only (paf_cons (pf_v 0) (paf_cons (pf_globS (by rfl) C.v_LETTERS) paf_nil)))))))
theorem ok_is_number (C : Defs K mg) : FnOk P w K mg base CX0 2 C.f_is_number C.d_is_number ["word"] (spF K 1 m_is_number) := by
  refine Fun.okF (N := ["word", "figures"]) C.F_is_number sc_is_number (fun cdv A outer s H E hr => ?_)
  have hu := hr.units
  refine psf_cons ?s0 ?t0
  case s0 => exact (psf_set (i := 1) (by exact sc_is_number.nd) (pf_if (ptf_tru (pf_bm PySem.F.plainAttrs_str PySem.F.slot_str_startswith PySem.F.type_str_startswith mt_starts sem_starts (pf_v 0) (paf_cons pf_str paf_nil))) (pf_slice sl_allZ sem_slZ (pf_v 0) (pof_some pf_int) pof_none) (pf_v 0)))
  refine psf_cons ?s1 ?t1
  case s1 => exact (psf_if (PWF.pt (pwf_or (ptf_cmp (op_eqU hu) sem_eq (pf_v 1) pf_str (nomark _)) (pwf_or1 (ptf_not (ptf_tru (pf_call (ok_holds_only C) (hr.mono (by decide)) (by rfl) C.g_holds_only C.F_holds_only.kp C.b_holds_only (paf_cons (pf_v 1) (paf_cons (pf_globS (by rfl) C.v_FIGURES) paf_nil)))))))) (psf_one (psf_ret pf_bl)) psf_nil)
  exact (psf_one (psf_ret (pf_or (pf_cmp (op_neU hu) sem_ne (pf_ix ix_seq sem_ix (pf_v 1) pf_int (fun _ _ => rfl)) pf_str (nomark _)) (pf_one (pf_cmp (op_eqU hu) sem_eq (pf_v 0) pf_str (nomark _))))))
theorem ok_point_in (C : Defs K mg) : FnOk P w K mg base CX0 3 C.f_point_in C.d_point_in ["line"] (spF K 1 m_point_in) := by
  refine Fun.okF (N := ["line", "words"]) C.F_point_in sc_point_in (fun cdv A outer s H E hr => ?_)
  have hu := hr.units
  refine psf_cons ?s0 ?t0
  case s0 => exact (psf_set (i := 1) (by exact sc_point_in.nd) (pf_bm PySem.F.plainAttrs_str PySem.F.slot_str_split PySem.F.type_str_split mt_split sem_split (pf_v 0) (paf_cons pf_str paf_nil)))
  refine psf_cons ?s1 ?t1
  case s1 => exact (psf_if (PWF.pt (pwf_or (ptf_cmp (op_neU hu) sem_ne (pf_callB call_len sem_len (by rfl) C.n_len PySem.boot_len (paf_cons (pf_v 1) paf_nil)) pf_int (nomark _)) (pwf_or1 (ptf_not (ptf_tru (pf_call (ok_is_name C) (hr.mono (by decide)) (by rfl) C.g_is_name C.F_is_name.kp C.b_is_name (paf_cons (pf_ix ix_seq sem_ix (pf_v 1) pf_int (fun _ _ => rfl)) paf_nil))))))) (psf_one (psf_ret pf_non)) psf_nil)
  refine psf_cons ?s2 ?t2
  case s2 => exact (psf_if (PWF.pt (pwf_or (ptf_not (ptf_tru (pf_call (ok_is_number C) (hr.mono (by decide)) (by rfl) C.g_is_number C.F_is_number.kp C.b_is_number (paf_cons (pf_ix ix_seq sem_ix (pf_v 1) pf_int (fun _ _ => rfl)) paf_nil)))) (pwf_or1 (ptf_not (ptf_tru (pf_call (ok_is_number C) (hr.mono (by decide)) (by rfl) C.g_is_number C.F_is_number.kp C.b_is_number (paf_cons (pf_ix ix_seq sem_ix (pf_v 1) pf_int (fun _ _ => rfl)) paf_nil))))))) (psf_one (psf_ret pf_non)) psf_nil)
  exact (psf_one (psf_ret (pf_tup (paf_cons (pf_ix ix_seq sem_ix (pf_v 1) pf_int (fun _ _ => rfl)) (paf_cons (pf_callTy call_intT sem_intT (by rfl) C.n_int (by decide +kernel) (paf_cons (pf_ix ix_seq sem_ix (pf_v 1) pf_int (fun _ _ => rfl)) paf_nil)) (paf_cons (pf_callTy call_intT sem_intT (by rfl) C.n_int (by decide +kernel) (paf_cons (pf_ix ix_seq sem_ix (pf_v 1) pf_int (fun _ _ => rfl)) paf_nil)) paf_nil))))))
theorem ok_read_points (C : Defs K mg) : FnOk P w K mg base CX0 4 C.f_read_points C.d_read_points ["text"] (spF K 1 m_read_points) := by
  refine Fun.okF (N := ["text", "points", "known", "row", "line", "point"]) C.F_read_points sc_read_points (fun cdv A outer s H E hr => ?_)
  have hu := hr.units
  refine psf_cons ?s0 ?t0
  case s0 => exact (psf_if (ptf_cmp (op_eqU hu) sem_eq (pf_v 0) pf_str (nomark _)) (psf_one (psf_ret (pf_tup paf_nil))) psf_nil)
  refine psf_cons ?s1 ?t1
  case s1 => exact (psf_set (i := 1) (by exact sc_read_points.nd) (pf_lst paf_nil))
  refine psf_cons ?s2 ?t2
  case s2 => exact (psf_set (i := 2) (by exact sc_read_points.nd) pf_dnew)
  refine psf_cons ?s3 ?t3
  case s3 => exact (psf_for PassesOwn.never rfl (pif_enumA (by rfl) C.n_enumerate (paf_cons (pf_bm PySem.F.plainAttrs_str PySem.F.slot_str_split PySem.F.type_str_split mt_split sem_split (pf_v 0) (paf_cons pf_str paf_nil)) paf_nil)) (pgf_tup rfl (pgsf_cons (pgf_name (i := 3) (by exact sc_read_points.nd)) (pgsf_cons (pgf_name (i := 4) (by exact sc_read_points.nd)) pgsf_nil))) (psf_cons (psf_set (i := 5) (by exact sc_read_points.nd) (pf_call (ok_point_in C) (hr.mono (by decide)) (by rfl) C.g_point_in C.F_point_in.kp C.b_point_in (paf_cons (pf_v 4) paf_nil))) (psf_cons (psf_if (PWF.pt (pwf_or (ptf_cmp op_isU (sem_is false) (pf_v 5) pf_non (nomark _)) (pwf_or1 (ptf_cmp (op_din hu) sem_din (pf_ix ix_seq sem_ix (pf_v 5) pf_int (fun _ _ => rfl)) (pf_v 2) (by with_unfolding_all rfl))))) (psf_one psf_never) psf_nil) (psf_cons (psf_dput hu (pf_v 2) (pf_ix ix_seq sem_ix (pf_v 5) pf_int (fun _ _ => rfl)) pf_bl) (psf_one (psf_expr (pf_bm PySem.F.plainAttrs_list PySem.F.slot_list_append PySem.F.type_list_append mt_append sem_append (pf_v 1) (paf_cons (pf_v 5) paf_nil))))))))
  exact (psf_one (psf_ret (pf_callTy call_tuple_of sem_tuple (by rfl) C.n_tuple (by decide +kernel) (paf_cons (pf_v 1) paf_nil))))
theorem ok_l_texts_right (C : Defs K mg) : FnOk P w K mg base CX0 5 C.f_l_texts_right C.d_l_texts_right ["spots"] (spF K 1 m_l_texts_right) := by
  refine Fun.okF (N := ["spots", "written", "first", "last"]) C.F_l_texts_right sc_l_texts_right (fun cdv A outer s H E hr => ?_)
  have hu := hr.units
  refine psf_cons ?s0 ?t0
  case s0 => exact (psf_set (i := 1) (by exact sc_l_texts_right.nd) (pf_call (ok_points_shown C) (hr.mono (by decide)) (by rfl) C.g_points_shown C.F_points_shown.kp C.b_points_shown (paf_cons (pf_v 0) paf_nil)))
  refine psf_cons ?s1 ?t1
  case s1 => exact (psf_if (PWF.pt (pwf_or (ptf_cmp (op_neU hu) sem_ne (pf_callK0 (ok_points_shown C) (hr.mono (by decide)) (by rfl) C.g_points_shown C.F_points_shown.kp C.kb_points_shown (pkf_cons (pf_v 0) pkf_nil)) (pf_v 1) (nomark _)) (pwf_or1 (ptf_cmp (op_neU hu) sem_ne (pf_callK0 (ok_read_points C) (hr.mono (by decide)) (by rfl) C.g_read_points C.F_read_points.kp C.kb_read_points (pkf_cons (pf_v 1) pkf_nil)) (pf_call (ok_read_points C) (hr.mono (by decide)) (by rfl) C.g_read_points C.F_read_points.kp C.b_read_points (paf_cons (pf_v 1) paf_nil)) (nomark _))))) (psf_one (psf_ret pf_bl)) psf_nil)
  refine psf_cons ?s2 ?t2
  case s2 => exact (psf_set (i := 2) (by exact sc_l_texts_right.nd) (pf_slice sl_all sem_sl (pf_ix ix_seq sem_ix (pf_v 0) pf_int (fun _ _ => rfl)) (pof_some pf_int) pof_none))
  refine psf_cons ?s3 ?t3
  case s3 => exact (psf_set (i := 3) (by exact sc_l_texts_right.nd) (pf_slice sl_all sem_sl (pf_ix ix_seq sem_ix (pf_v 0) pf_int (fun _ _ => rfl)) (pof_some pf_int) pof_none))
  exact (psf_one (psf_ret (pf_cmp (op_eqU hu) sem_eq (pf_callK0 (ok_lies_below C) (hr.mono (by decide)) (by rfl) C.g_lies_below C.F_lies_below.kp C.kb_lies_below (pkf_cons (pf_v 2) (pkf_cons (pf_v 3) pkf_nil))) (pf_call (ok_lies_below C) (hr.mono (by decide)) (by rfl) C.g_lies_below C.F_lies_below.kp C.b_lies_below (paf_cons (pf_v 2) (paf_cons (pf_v 3) paf_nil))) (nomark _))))
theorem ok_law (C : Defs K mg) : FnOk P w K mg base CX0 15 C.f_law C.d_law ["script"] (spF K 1 m_law) := by
  refine Fun.okF (N := ["script", "cell", "spots", "least"]) C.F_law sc_law (fun cdv A outer s H E hr => ?_)
  have hu := hr.units
  refine psf_cons ?s0 ?t0
  case s0 => exact (psf_for PassesOwn.never rfl (pif_seq (pf_op op_addA sem_add (pf_slice sl_all sem_sl (pf_v 0) pof_none (pof_some pf_int)) (pf_lst (paf_cons (pf_callB call_len sem_len (by rfl) C.n_len PySem.boot_len (paf_cons (pf_v 0) paf_nil)) paf_nil)))) (pgf_name (i := 1) (by exact sc_law.nd)) (psf_cons (psf_set (i := 2) (by exact sc_law.nd) (pf_call (ok_l_spots C) (hr.mono (by decide)) (by rfl) C.g_l_spots C.F_l_spots.kp C.b_l_spots (paf_cons (pf_v 1) paf_nil))) (psf_cons (psf_if (PWF.pt (pwf_or (ptf_not (ptf_tru (pf_call (ok_l_texts_right C) (hr.mono (by decide)) (by rfl) C.g_l_texts_right C.F_l_texts_right.kp C.b_l_texts_right (paf_cons (pf_v 2) paf_nil)))) (pwf_or1 (ptf_not (ptf_tru (pf_call (ok_l_pairs_right C) (hr.mono (by decide)) (by rfl) C.g_l_pairs_right C.F_l_pairs_right.kp C.b_l_pairs_right (paf_cons (pf_v 2) paf_nil))))))) (psf_one (psf_ret pf_bl)) psf_nil) (psf_cons (psf_set (i := 3) (by exact sc_law.nd) (pf_op op_mod sem_mod (pf_v 1) pf_int)) (psf_one (psf_if (ptf_not (ptf_tru (pf_call (ok_l_rows_right C) (hr.mono (by decide)) (by rfl) C.g_l_rows_right C.F_l_rows_right.kp C.b_l_rows_right (paf_cons (pf_tup (paf_cons (pf_v 3) (paf_cons (pf_op op_addA sem_add (pf_v 3) (pf_ix ix_seq sem_ix (pf_lst (paf_cons pf_int (paf_cons (pf_neg pf_int) paf_nil))) (pf_op op_mod sem_mod (pf_op op_fdivW sem_div (pf_v 1) pf_int) pf_int) (fun _ _ => rfl))) paf_nil))) paf_nil)))) (psf_one (psf_ret pf_bl)) psf_nil))))))
  exact (psf_one (psf_ret pf_bl))
end
theorem all_mk {l : PySem.W.OpenLaw} {w : World} {K : PySem.W.Frag} {h : Heap} {mg : Str → Option Value} {fa : Addr} (X : K.In h) (G : h.Ns mainGlobals mg) (hfa : mg "law" = some (.ref fa))
    {od0 an0 : Option Addr} {sl0 : Array (Option Value)} {oc0 kV0 dc0 pm0 cd0 ct0 : Value} {f0 : Addr} {od1 an1 : Option Addr} {sl1 : Array (Option Value)} {oc1 kV1 dc1 pm1 cd1 ct1 : Value} {f1 : Addr} {od2 an2 : Option Addr} {sl2 : Array (Option Value)} {oc2 kV2 dc2 pm2 cd2 ct2 : Value} {f2 : Addr} {od3 an3 : Option Addr} {sl3 : Array (Option Value)} {oc3 kV3 dc3 pm3 cd3 ct3 : Value} {f3 : Addr} {od4 an4 : Option Addr} {sl4 : Array (Option Value)} {oc4 kV4 dc4 pm4 cd4 ct4 : Value} {f4 : Addr} {od5 an5 : Option Addr} {sl5 : Array (Option Value)} {oc5 kV5 dc5 pm5 cd5 ct5 : Value} {f5 : Addr} {od6 an6 : Option Addr} {sl6 : Array (Option Value)} {oc6 kV6 dc6 pm6 cd6 ct6 : Value} {f6 : Addr} {od7 an7 : Option Addr} {sl7 : Array (Option Value)} {oc7 kV7 dc7 pm7 cd7 ct7 : Value} {f7 : Addr} {od8 an8 : Option Addr} {sl8 : Array (Option Value)} {oc8 kV8 dc8 pm8 cd8 ct8 : Value} {f8 : Addr} {od9 an9 : Option Addr} {sl9 : Array (Option Value)} {oc9 kV9 dc9 pm9 cd9 ct9 : Value} {f9 : Addr} {od10 an10 : Option Addr} {sl10 : Array (Option Value)} {oc10 kV10 dc10 pm10 cd10 ct10 : Value} {f10 : Addr} {od11 an11 : Option Addr} {sl11 : Array (Option Value)} {oc11 kV11 dc11 pm11 cd11 ct11 : Value} {f11 : Addr} {od12 an12 : Option Addr} {sl12 : Array (Option Value)} {oc12 kV12 dc12 pm12 cd12 ct12 : Value} {f12 : Addr} {od13 an13 : Option Addr} {sl13 : Array (Option Value)} {oc13 kV13 dc13 pm13 cd13 ct13 : Value} {f13 : Addr} {od14 an14 : Option Addr} {sl14 : Array (Option Value)} {oc14 kV14 dc14 pm14 cd14 ct14 : Value} {f14 : Addr} {od15 an15 : Option Addr} {sl15 : Array (Option Value)} {oc15 kV15 dc15 pm15 cd15 ct15 : Value} {f15 : Addr} {od16 an16 : Option Addr} {sl16 : Array (Option Value)} {oc16 kV16 dc16 pm16 cd16 ct16 : Value} {f16 : Addr} {od17 an17 : Option Addr} {sl17 : Array (Option Value)} {oc17 kV17 dc17 pm17 cd17 ct17 : Value} {f17 : Addr} {od18 an18 : Option Addr} {sl18 : Array (Option Value)} {oc18 kV18 dc18 pm18 cd18 ct18 : Value} {f18 : Addr} {od19 an19 : Option Addr} {sl19 : Array (Option Value)} {oc19 kV19 dc19 pm19 cd19 ct19 : Value} {f19 : Addr} {od20 an20 : Option Addr} {sl20 : Array (Option Value)} {oc20 kV20 dc20 pm20 cd20 ct20 : Value} {f20 : Addr} {od21 an21 : Option Addr} {sl21 : Array (Option Value)} {oc21 kV21 dc21 pm21 cd21 ct21 : Value} {f21 : Addr} {od22 an22 : Option Addr} {sl22 : Array (Option Value)} {oc22 kV22 dc22 pm22 cd22 ct22 : Value} {f22 : Addr} {od23 an23 : Option Addr} {sl23 : Array (Option Value)} {oc23 kV23 dc23 pm23 cd23 ct23 : Value} {f23 : Addr} {od24 an24 : Option Addr} {sl24 : Array (Option Value)} {oc24 kV24 dc24 pm24 cd24 ct24 : Value} {f24 : Addr} {od25 an25 : Option Addr} {sl25 : Array (Option Value)} {oc25 kV25 dc25 pm25 cd25 ct25 : Value} {f25 : Addr} {od26 an26 : Option Addr} {sl26 : Array (Option Value)} {oc26 kV26 dc26 pm26 cd26 ct26 : Value} {f26 : Addr} {od27 an27 : Option Addr} {sl27 : Array (Option Value)} {oc27 kV27 dc27 pm27 cd27 ct27 : Value} {f27 : Addr} {od28 an28 : Option Addr} {sl28 : Array (Option Value)} {oc28 kV28 dc28 pm28 cd28 ct28 : Value} {f28 : Addr} {od29 an29 : Option Addr} {sl29 : Array (Option Value)} {oc29 kV29 dc29 pm29 cd29 ct29 : Value} {f29 : Addr} {od30 an30 : Option Addr} {sl30 : Array (Option Value)} {oc30 kV30 dc30 pm30 cd30 ct30 : Value} {f30 : Addr} {od31 an31 : Option Addr} {sl31 : Array (Option Value)} {oc31 kV31 dc31 pm31 cd31 ct31 : Value} {f31 : Addr} {od32 an32 : Option Addr} {sl32 : Array (Option Value)} {oc32 kV32 dc32 pm32 cd32 ct32 : Value} {f32 : Addr}
    (a0 : PySem.W.nsIn K mainGlobals "lies_below" = some (some (.ref f0))) (l0 : K.lookup f0 = some ⟨oc0, od0, .func (PySem.W.fnOf "lies_below" "lies_below" (defArgs s_lies_below) (defBody s_lies_below) (defScope s_lies_below) .none kV0 dc0 pm0 an0 cd0 ct0), sl0⟩) (c0 : PySem.W.codeIn K cd0 "lies_below" = true) (k0 : PySem.W.keepIn K (.ref f0) = true)
    (a1 : PySem.W.nsIn K mainGlobals "many_above" = some (some (.ref f1))) (l1 : K.lookup f1 = some ⟨oc1, od1, .func (PySem.W.fnOf "many_above" "many_above" (defArgs s_many_above) (defBody s_many_above) (defScope s_many_above) .none kV1 dc1 pm1 an1 cd1 ct1), sl1⟩) (c1 : PySem.W.codeIn K cd1 "many_above" = true) (k1 : PySem.W.keepIn K (.ref f1) = true)
    (a2 : PySem.W.nsIn K mainGlobals "place_of" = some (some (.ref f2))) (l2 : K.lookup f2 = some ⟨oc2, od2, .func (PySem.W.fnOf "place_of" "place_of" (defArgs s_place_of) (defBody s_place_of) (defScope s_place_of) .none kV2 dc2 pm2 an2 cd2 ct2), sl2⟩) (c2 : PySem.W.codeIn K cd2 "place_of" = true) (k2 : PySem.W.keepIn K (.ref f2) = true)
    (a3 : PySem.W.nsIn K mainGlobals "above_each" = some (some (.ref f3))) (l3 : K.lookup f3 = some ⟨oc3, od3, .func (PySem.W.fnOf "above_each" "above_each" (defArgs s_above_each) (defBody s_above_each) (defScope s_above_each) .none kV3 dc3 pm3 an3 cd3 ct3), sl3⟩) (c3 : PySem.W.codeIn K cd3 "above_each" = true) (k3 : PySem.W.keepIn K (.ref f3) = true)
    (a4 : PySem.W.nsIn K mainGlobals "many_below" = some (some (.ref f4))) (l4 : K.lookup f4 = some ⟨oc4, od4, .func (PySem.W.fnOf "many_below" "many_below" (defArgs s_many_below) (defBody s_many_below) (defScope s_many_below) .none kV4 dc4 pm4 an4 cd4 ct4), sl4⟩) (c4 : PySem.W.codeIn K cd4 "many_below" = true) (k4 : PySem.W.keepIn K (.ref f4) = true)
    (a5 : PySem.W.nsIn K mainGlobals "below_each" = some (some (.ref f5))) (l5 : K.lookup f5 = some ⟨oc5, od5, .func (PySem.W.fnOf "below_each" "below_each" (defArgs s_below_each) (defBody s_below_each) (defScope s_below_each) .none kV5 dc5 pm5 an5 cd5 ct5), sl5⟩) (c5 : PySem.W.codeIn K cd5 "below_each" = true) (k5 : PySem.W.keepIn K (.ref f5) = true)
    (a6 : PySem.W.nsIn K mainGlobals "crossings_of" = some (some (.ref f6))) (l6 : K.lookup f6 = some ⟨oc6, od6, .func (PySem.W.fnOf "crossings_of" "crossings_of" (defArgs s_crossings_of) (defBody s_crossings_of) (defScope s_crossings_of) .none kV6 dc6 pm6 an6 cd6 ct6), sl6⟩) (c6 : PySem.W.codeIn K cd6 "crossings_of" = true) (k6 : PySem.W.keepIn K (.ref f6) = true)
    (a7 : PySem.W.nsIn K mainGlobals "halves_between" = some (some (.ref f7))) (l7 : K.lookup f7 = some ⟨oc7, od7, .func (PySem.W.fnOf "halves_between" "halves_between" (defArgs s_halves_between) (defBody s_halves_between) (defScope s_halves_between) .none kV7 dc7 pm7 an7 cd7 ct7), sl7⟩) (c7 : PySem.W.codeIn K cd7 "halves_between" = true) (k7 : PySem.W.keepIn K (.ref f7) = true)
    (a8 : PySem.W.nsIn K mainGlobals "halves_of" = some (some (.ref f8))) (l8 : K.lookup f8 = some ⟨oc8, od8, .func (PySem.W.fnOf "halves_of" "halves_of" (defArgs s_halves_of) (defBody s_halves_of) (defScope s_halves_of) .none kV8 dc8 pm8 an8 cd8 ct8), sl8⟩) (c8 : PySem.W.codeIn K cd8 "halves_of" = true) (k8 : PySem.W.keepIn K (.ref f8) = true)
    (a9 : PySem.W.nsIn K mainGlobals "halves_shown" = some (some (.ref f9))) (l9 : K.lookup f9 = some ⟨oc9, od9, .func (PySem.W.fnOf "halves_shown" "halves_shown" (defArgs s_halves_shown) (defBody s_halves_shown) (defScope s_halves_shown) .none kV9 dc9 pm9 an9 cd9 ct9), sl9⟩) (c9 : PySem.W.codeIn K cd9 "halves_shown" = true) (k9 : PySem.W.keepIn K (.ref f9) = true)
    (a10 : PySem.W.nsIn K mainGlobals "pairs_in_all" = some (some (.ref f10))) (l10 : K.lookup f10 = some ⟨oc10, od10, .func (PySem.W.fnOf "pairs_in_all" "pairs_in_all" (defArgs s_pairs_in_all) (defBody s_pairs_in_all) (defScope s_pairs_in_all) .none kV10 dc10 pm10 an10 cd10 ct10), sl10⟩) (c10 : PySem.W.codeIn K cd10 "pairs_in_all" = true) (k10 : PySem.W.keepIn K (.ref f10) = true)
    (a11 : PySem.W.nsIn K mainGlobals "_law_pairs_right" = some (some (.ref f11))) (l11 : K.lookup f11 = some ⟨oc11, od11, .func (PySem.W.fnOf "_law_pairs_right" "_law_pairs_right" (defArgs s_l_pairs_right) (defBody s_l_pairs_right) (defScope s_l_pairs_right) .none kV11 dc11 pm11 an11 cd11 ct11), sl11⟩) (c11 : PySem.W.codeIn K cd11 "_law_pairs_right" = true) (k11 : PySem.W.keepIn K (.ref f11) = true)
    (a12 : PySem.W.nsIn K mainGlobals "many_greater" = some (some (.ref f12))) (l12 : K.lookup f12 = some ⟨oc12, od12, .func (PySem.W.fnOf "many_greater" "many_greater" (defArgs s_many_greater) (defBody s_many_greater) (defScope s_many_greater) .none kV12 dc12 pm12 an12 cd12 ct12), sl12⟩) (c12 : PySem.W.codeIn K cd12 "many_greater" = true) (k12 : PySem.W.keepIn K (.ref f12) = true)
    (a13 : PySem.W.nsIn K mainGlobals "counts_of" = some (some (.ref f13))) (l13 : K.lookup f13 = some ⟨oc13, od13, .func (PySem.W.fnOf "counts_of" "counts_of" (defArgs s_counts_of) (defBody s_counts_of) (defScope s_counts_of) .none kV13 dc13 pm13 an13 cd13 ct13), sl13⟩) (c13 : PySem.W.codeIn K cd13 "counts_of" = true) (k13 : PySem.W.keepIn K (.ref f13) = true)
    (a14 : PySem.W.nsIn K mainGlobals "count_of" = some (some (.ref f14))) (l14 : K.lookup f14 = some ⟨oc14, od14, .func (PySem.W.fnOf "count_of" "count_of" (defArgs s_count_of) (defBody s_count_of) (defScope s_count_of) .none kV14 dc14 pm14 an14 cd14 ct14), sl14⟩) (c14 : PySem.W.codeIn K cd14 "count_of" = true) (k14 : PySem.W.keepIn K (.ref f14) = true)
    (a15 : PySem.W.nsIn K mainGlobals "need_counts" = some (some (.ref f15))) (l15 : K.lookup f15 = some ⟨oc15, od15, .func (PySem.W.fnOf "need_counts" "need_counts" (defArgs s_need_counts) (defBody s_need_counts) (defScope s_need_counts) .none kV15 dc15 pm15 an15 cd15 ct15), sl15⟩) (c15 : PySem.W.codeIn K cd15 "need_counts" = true) (k15 : PySem.W.keepIn K (.ref f15) = true)
    (a16 : PySem.W.nsIn K mainGlobals "row_of" = some (some (.ref f16))) (l16 : K.lookup f16 = some ⟨oc16, od16, .func (PySem.W.fnOf "row_of" "row_of" (defArgs s_row_of) (defBody s_row_of) (defScope s_row_of) .none kV16 dc16 pm16 an16 cd16 ct16), sl16⟩) (c16 : PySem.W.codeIn K cd16 "row_of" = true) (k16 : PySem.W.keepIn K (.ref f16) = true)
    (a17 : PySem.W.nsIn K mainGlobals "ways_with_one_more" = some (some (.ref f17))) (l17 : K.lookup f17 = some ⟨oc17, od17, .func (PySem.W.fnOf "ways_with_one_more" "ways_with_one_more" (defArgs s_ways_with_one_more) (defBody s_ways_with_one_more) (defScope s_ways_with_one_more) .none kV17 dc17 pm17 an17 cd17 ct17), sl17⟩) (c17 : PySem.W.codeIn K cd17 "ways_with_one_more" = true) (k17 : PySem.W.keepIn K (.ref f17) = true)
    (a18 : PySem.W.nsIn K mainGlobals "ways_from_each" = some (some (.ref f18))) (l18 : K.lookup f18 = some ⟨oc18, od18, .func (PySem.W.fnOf "ways_from_each" "ways_from_each" (defArgs s_ways_from_each) (defBody s_ways_from_each) (defScope s_ways_from_each) .none kV18 dc18 pm18 an18 cd18 ct18), sl18⟩) (c18 : PySem.W.codeIn K cd18 "ways_from_each" = true) (k18 : PySem.W.keepIn K (.ref f18) = true)
    (a19 : PySem.W.nsIn K mainGlobals "ways_to" = some (some (.ref f19))) (l19 : K.lookup f19 = some ⟨oc19, od19, .func (PySem.W.fnOf "ways_to" "ways_to" (defArgs s_ways_to) (defBody s_ways_to) (defScope s_ways_to) .none kV19 dc19 pm19 an19 cd19 ct19), sl19⟩) (c19 : PySem.W.codeIn K cd19 "ways_to" = true) (k19 : PySem.W.keepIn K (.ref f19) = true)
    (a20 : PySem.W.nsIn K mainGlobals "nth_row" = some (some (.ref f20))) (l20 : K.lookup f20 = some ⟨oc20, od20, .func (PySem.W.fnOf "nth_row" "nth_row" (defArgs s_nth_row) (defBody s_nth_row) (defScope s_nth_row) .none kV20 dc20 pm20 an20 cd20 ct20), sl20⟩) (c20 : PySem.W.codeIn K cd20 "nth_row" = true) (k20 : PySem.W.keepIn K (.ref f20) = true)
    (a21 : PySem.W.nsIn K mainGlobals "place_of_row" = some (some (.ref f21))) (l21 : K.lookup f21 = some ⟨oc21, od21, .func (PySem.W.fnOf "place_of_row" "place_of_row" (defArgs s_place_of_row) (defBody s_place_of_row) (defScope s_place_of_row) .none kV21 dc21 pm21 an21 cd21 ct21), sl21⟩) (c21 : PySem.W.codeIn K cd21 "place_of_row" = true) (k21 : PySem.W.keepIn K (.ref f21) = true)
    (a22 : PySem.W.nsIn K mainGlobals "rows_with" = some (some (.ref f22))) (l22 : K.lookup f22 = some ⟨oc22, od22, .func (PySem.W.fnOf "rows_with" "rows_with" (defArgs s_rows_with) (defBody s_rows_with) (defScope s_rows_with) .none kV22 dc22 pm22 an22 cd22 ct22), sl22⟩) (c22 : PySem.W.codeIn K cd22 "rows_with" = true) (k22 : PySem.W.keepIn K (.ref f22) = true)
    (a23 : PySem.W.nsIn K mainGlobals "_law_rows_right" = some (some (.ref f23))) (l23 : K.lookup f23 = some ⟨oc23, od23, .func (PySem.W.fnOf "_law_rows_right" "_law_rows_right" (defArgs s_l_rows_right) (defBody s_l_rows_right) (defScope s_l_rows_right) .none kV23 dc23 pm23 an23 cd23 ct23), sl23⟩) (c23 : PySem.W.codeIn K cd23 "_law_rows_right" = true) (k23 : PySem.W.keepIn K (.ref f23) = true)
    (a24 : PySem.W.nsIn K mainGlobals "_law_spots" = some (some (.ref f24))) (l24 : K.lookup f24 = some ⟨oc24, od24, .func (PySem.W.fnOf "_law_spots" "_law_spots" (defArgs s_l_spots) (defBody s_l_spots) (defScope s_l_spots) .none kV24 dc24 pm24 an24 cd24 ct24), sl24⟩) (c24 : PySem.W.codeIn K cd24 "_law_spots" = true) (k24 : PySem.W.keepIn K (.ref f24) = true)
    (a25 : PySem.W.nsIn K mainGlobals "points_shown" = some (some (.ref f25))) (l25 : K.lookup f25 = some ⟨oc25, od25, .func (PySem.W.fnOf "points_shown" "points_shown" (defArgs s_points_shown) (defBody s_points_shown) (defScope s_points_shown) .none kV25 dc25 pm25 an25 cd25 ct25), sl25⟩) (c25 : PySem.W.codeIn K cd25 "points_shown" = true) (k25 : PySem.W.keepIn K (.ref f25) = true)
    (a26 : PySem.W.nsIn K mainGlobals "holds_only" = some (some (.ref f26))) (l26 : K.lookup f26 = some ⟨oc26, od26, .func (PySem.W.fnOf "holds_only" "holds_only" (defArgs s_holds_only) (defBody s_holds_only) (defScope s_holds_only) .none kV26 dc26 pm26 an26 cd26 ct26), sl26⟩) (c26 : PySem.W.codeIn K cd26 "holds_only" = true) (k26 : PySem.W.keepIn K (.ref f26) = true)
    (a27 : PySem.W.nsIn K mainGlobals "is_name" = some (some (.ref f27))) (l27 : K.lookup f27 = some ⟨oc27, od27, .func (PySem.W.fnOf "is_name" "is_name" (defArgs s_is_name) (defBody s_is_name) (defScope s_is_name) .none kV27 dc27 pm27 an27 cd27 ct27), sl27⟩) (c27 : PySem.W.codeIn K cd27 "is_name" = true) (k27 : PySem.W.keepIn K (.ref f27) = true)
    (a28 : PySem.W.nsIn K mainGlobals "is_number" = some (some (.ref f28))) (l28 : K.lookup f28 = some ⟨oc28, od28, .func (PySem.W.fnOf "is_number" "is_number" (defArgs s_is_number) (defBody s_is_number) (defScope s_is_number) .none kV28 dc28 pm28 an28 cd28 ct28), sl28⟩) (c28 : PySem.W.codeIn K cd28 "is_number" = true) (k28 : PySem.W.keepIn K (.ref f28) = true)
    (a29 : PySem.W.nsIn K mainGlobals "point_in" = some (some (.ref f29))) (l29 : K.lookup f29 = some ⟨oc29, od29, .func (PySem.W.fnOf "point_in" "point_in" (defArgs s_point_in) (defBody s_point_in) (defScope s_point_in) .none kV29 dc29 pm29 an29 cd29 ct29), sl29⟩) (c29 : PySem.W.codeIn K cd29 "point_in" = true) (k29 : PySem.W.keepIn K (.ref f29) = true)
    (a30 : PySem.W.nsIn K mainGlobals "read_points" = some (some (.ref f30))) (l30 : K.lookup f30 = some ⟨oc30, od30, .func (PySem.W.fnOf "read_points" "read_points" (defArgs s_read_points) (defBody s_read_points) (defScope s_read_points) .none kV30 dc30 pm30 an30 cd30 ct30), sl30⟩) (c30 : PySem.W.codeIn K cd30 "read_points" = true) (k30 : PySem.W.keepIn K (.ref f30) = true)
    (a31 : PySem.W.nsIn K mainGlobals "_law_texts_right" = some (some (.ref f31))) (l31 : K.lookup f31 = some ⟨oc31, od31, .func (PySem.W.fnOf "_law_texts_right" "_law_texts_right" (defArgs s_l_texts_right) (defBody s_l_texts_right) (defScope s_l_texts_right) .none kV31 dc31 pm31 an31 cd31 ct31), sl31⟩) (c31 : PySem.W.codeIn K cd31 "_law_texts_right" = true) (k31 : PySem.W.keepIn K (.ref f31) = true)
    (a32 : PySem.W.nsIn K mainGlobals "law" = some (some (.ref f32))) (l32 : K.lookup f32 = some ⟨oc32, od32, .func (PySem.W.fnOf "law" "law" (defArgs s_law) (defBody s_law) (defScope s_law) .none kV32 dc32 pm32 an32 cd32 ct32), sl32⟩) (c32 : PySem.W.codeIn K cd32 "law" = true) (k32 : PySem.W.keepIn K (.ref f32) = true)
    {tk_FIGURES : Tok} (v_FIGURES : PySem.W.nsIn K mainGlobals "FIGURES" = some (some (.str "0123456789" tk_FIGURES)))
    {tk_LETTERS : Tok} (v_LETTERS : PySem.W.nsIn K mainGlobals "LETTERS" = some (some (.str "abcdefghijklmnopqrstuvwxyz" tk_LETTERS)))
    {tk_LONGEST_NAME : Tok} (v_LONGEST_NAME : PySem.W.nsIn K mainGlobals "LONGEST_NAME" = some (some (.int 8 tk_LONGEST_NAME)))
    (z_all : PySem.W.nsIn K mainGlobals "all" = some none)
    (z_enumerate : PySem.W.nsIn K mainGlobals "enumerate" = some none)
    (z_int : PySem.W.nsIn K mainGlobals "int" = some none)
    (z_len : PySem.W.nsIn K mainGlobals "len" = some none)
    (z_list : PySem.W.nsIn K mainGlobals "list" = some none)
    (z_max : PySem.W.nsIn K mainGlobals "max" = some none)
    (z_range : PySem.W.nsIn K mainGlobals "range" = some none)
    (z_reversed : PySem.W.nsIn K mainGlobals "reversed" = some none)
    (z_sorted : PySem.W.nsIn K mainGlobals "sorted" = some none)
    (z_sum : PySem.W.nsIn K mainGlobals "sum" = some none)
    (z_tuple : PySem.W.nsIn K mainGlobals "tuple" = some none)
    (z_zip : PySem.W.nsIn K mainGlobals "zip" = some none) :
    ∃ fd : FuncData, (∀ (s : Shared) (v : Value), BindsTo s fd ⟨[v], []⟩ [("script", v)]) ∧ ∀ base : Heap, K.In base → base.Ns mainGlobals mg → FnOk l.prog w K mg base CX0 15 fa fd ["script"] (spF K 1 m_law) := by
  have e := hfa.symm.trans (PySem.W.mg_of X G a32)
  cases e
  have F0 := fun_mk (st := s_lies_below) l0 c0 k0
  have b0 := F0.binds (ps := ["one", "other"]) fun _ _ _ _ _ _ => all2 (fun _ _ => rfl)
  have kb0 := kbinds0 (K := K) (fd := PySem.W.fnOf "lies_below" "lies_below" (defArgs s_lies_below) (defBody s_lies_below) (defScope s_lies_below) .none kV0 dc0 pm0 an0 cd0 ct0) (p := "one") (ps := ["other"]) (all2 (fun _ _ => rfl))
  have F1 := fun_mk (st := s_many_above) l1 c1 k1
  have b1 := F1.binds (ps := ["places", "place"]) fun _ _ _ _ _ _ => all2 (fun _ _ => rfl)
  have F2 := fun_mk (st := s_place_of) l2 c2 k2
  have b2 := F2.binds (ps := ["point"]) fun _ _ _ _ _ _ => all1 (fun _ => rfl)
  have F3 := fun_mk (st := s_above_each) l3 c3 k3
  have b3 := F3.binds (ps := ["points"]) fun _ _ _ _ _ _ => all1 (fun _ => rfl)
  have kb3 := kbinds0 (K := K) (fd := PySem.W.fnOf "above_each" "above_each" (defArgs s_above_each) (defBody s_above_each) (defScope s_above_each) .none kV3 dc3 pm3 an3 cd3 ct3) (p := "points") (ps := []) (all1 (fun _ => rfl))
  have F4 := fun_mk (st := s_many_below) l4 c4 k4
  have b4 := F4.binds (ps := ["places", "place"]) fun _ _ _ _ _ _ => all2 (fun _ _ => rfl)
  have F5 := fun_mk (st := s_below_each) l5 c5 k5
  have b5 := F5.binds (ps := ["points"]) fun _ _ _ _ _ _ => all1 (fun _ => rfl)
  have kb5 := kbinds0 (K := K) (fd := PySem.W.fnOf "below_each" "below_each" (defArgs s_below_each) (defBody s_below_each) (defScope s_below_each) .none kV5 dc5 pm5 an5 cd5 ct5) (p := "points") (ps := []) (all1 (fun _ => rfl))
  have F6 := fun_mk (st := s_crossings_of) l6 c6 k6
  have b6 := F6.binds (ps := ["lower", "upper"]) fun _ _ _ _ _ _ => all2 (fun _ _ => rfl)
  have F7 := fun_mk (st := s_halves_between) l7 c7 k7
  have b7 := F7.binds (ps := ["places", "first", "behind"]) fun _ _ _ _ _ _ => all3 (fun _ _ _ => rfl)
  have F8 := fun_mk (st := s_halves_of) l8 c8 k8
  have b8 := F8.binds (ps := ["points"]) fun _ _ _ _ _ _ => all1 (fun _ => rfl)
  have kb8 := kbinds0 (K := K) (fd := PySem.W.fnOf "halves_of" "halves_of" (defArgs s_halves_of) (defBody s_halves_of) (defScope s_halves_of) .none kV8 dc8 pm8 an8 cd8 ct8) (p := "points") (ps := []) (all1 (fun _ => rfl))
  have F9 := fun_mk (st := s_halves_shown) l9 c9 k9
  have b9 := F9.binds (ps := ["points", "halves"]) fun _ _ _ _ _ _ => all2 (fun _ _ => rfl)
  have kb9 := kbinds0 (K := K) (fd := PySem.W.fnOf "halves_shown" "halves_shown" (defArgs s_halves_shown) (defBody s_halves_shown) (defScope s_halves_shown) .none kV9 dc9 pm9 an9 cd9 ct9) (p := "points") (ps := ["halves"]) (all2 (fun _ _ => rfl))
  have F10 := fun_mk (st := s_pairs_in_all) l10 c10 k10
  have b10 := F10.binds (ps := ["points"]) fun _ _ _ _ _ _ => all1 (fun _ => rfl)
  have kb10 := kbinds0 (K := K) (fd := PySem.W.fnOf "pairs_in_all" "pairs_in_all" (defArgs s_pairs_in_all) (defBody s_pairs_in_all) (defScope s_pairs_in_all) .none kV10 dc10 pm10 an10 cd10 ct10) (p := "points") (ps := []) (all1 (fun _ => rfl))
  have F11 := fun_mk (st := s_l_pairs_right) l11 c11 k11
  have b11 := F11.binds (ps := ["spots"]) fun _ _ _ _ _ _ => all1 (fun _ => rfl)
  have F12 := fun_mk (st := s_many_greater) l12 c12 k12
  have b12 := F12.binds (ps := ["numbers", "number"]) fun _ _ _ _ _ _ => all2 (fun _ _ => rfl)
  have F13 := fun_mk (st := s_counts_of) l13 c13 k13
  have b13 := F13.binds (ps := ["row"]) fun _ _ _ _ _ _ => all1 (fun _ => rfl)
  have kb13 := kbinds0 (K := K) (fd := PySem.W.fnOf "counts_of" "counts_of" (defArgs s_counts_of) (defBody s_counts_of) (defScope s_counts_of) .none kV13 dc13 pm13 an13 cd13 ct13) (p := "row") (ps := []) (all1 (fun _ => rfl))
  have F14 := fun_mk (st := s_count_of) l14 c14 k14
  have b14 := F14.binds (ps := ["row"]) fun _ _ _ _ _ _ => all1 (fun _ => rfl)
  have kb14 := kbinds0 (K := K) (fd := PySem.W.fnOf "count_of" "count_of" (defArgs s_count_of) (defBody s_count_of) (defScope s_count_of) .none kV14 dc14 pm14 an14 cd14 ct14) (p := "row") (ps := []) (all1 (fun _ => rfl))
  have F15 := fun_mk (st := s_need_counts) l15 c15 k15
  have b15 := F15.binds (ps := ["counts"]) fun _ _ _ _ _ _ => all1 (fun _ => rfl)
  have F16 := fun_mk (st := s_row_of) l16 c16 k16
  have b16 := F16.binds (ps := ["counts"]) fun _ _ _ _ _ _ => all1 (fun _ => rfl)
  have kb16 := kbinds0 (K := K) (fd := PySem.W.fnOf "row_of" "row_of" (defArgs s_row_of) (defBody s_row_of) (defScope s_row_of) .none kV16 dc16 pm16 an16 cd16 ct16) (p := "counts") (ps := []) (all1 (fun _ => rfl))
  have F17 := fun_mk (st := s_ways_with_one_more) l17 c17 k17
  have b17 := F17.binds (ps := ["ways", "most"]) fun _ _ _ _ _ _ => all2 (fun _ _ => rfl)
  have F18 := fun_mk (st := s_ways_from_each) l18 c18 k18
  have b18 := F18.binds (ps := ["many"]) fun _ _ _ _ _ _ => all1 (fun _ => rfl)
  have F19 := fun_mk (st := s_ways_to) l19 c19 k19
  have b19 := F19.binds (ps := ["ways", "total"]) fun _ _ _ _ _ _ => all2 (fun _ _ => rfl)
  have F20 := fun_mk (st := s_nth_row) l20 c20 k20
  have b20 := F20.binds (ps := ["many", "count", "place"]) fun _ _ _ _ _ _ => all3 (fun _ _ _ => rfl)
  have kb20 := kbinds0 (K := K) (fd := PySem.W.fnOf "nth_row" "nth_row" (defArgs s_nth_row) (defBody s_nth_row) (defScope s_nth_row) .none kV20 dc20 pm20 an20 cd20 ct20) (p := "many") (ps := ["count", "place"]) (all3 (fun _ _ _ => rfl))
  have F21 := fun_mk (st := s_place_of_row) l21 c21 k21
  have b21 := F21.binds (ps := ["row"]) fun _ _ _ _ _ _ => all1 (fun _ => rfl)
  have kb21 := kbinds0 (K := K) (fd := PySem.W.fnOf "place_of_row" "place_of_row" (defArgs s_place_of_row) (defBody s_place_of_row) (defScope s_place_of_row) .none kV21 dc21 pm21 an21 cd21 ct21) (p := "row") (ps := []) (all1 (fun _ => rfl))
  have F22 := fun_mk (st := s_rows_with) l22 c22 k22
  have b22 := F22.binds (ps := ["many"]) fun _ _ _ _ _ _ => all1 (fun _ => rfl)
  have kb22 := kbinds0 (K := K) (fd := PySem.W.fnOf "rows_with" "rows_with" (defArgs s_rows_with) (defBody s_rows_with) (defScope s_rows_with) .none kV22 dc22 pm22 an22 cd22 ct22) (p := "many") (ps := []) (all1 (fun _ => rfl))
  have F23 := fun_mk (st := s_l_rows_right) l23 c23 k23
  have b23 := F23.binds (ps := ["numbers"]) fun _ _ _ _ _ _ => all1 (fun _ => rfl)
  have F24 := fun_mk (st := s_l_spots) l24 c24 k24
  have b24 := F24.binds (ps := ["cell"]) fun _ _ _ _ _ _ => all1 (fun _ => rfl)
  have F25 := fun_mk (st := s_points_shown) l25 c25 k25
  have b25 := F25.binds (ps := ["points"]) fun _ _ _ _ _ _ => all1 (fun _ => rfl)
  have kb25 := kbinds0 (K := K) (fd := PySem.W.fnOf "points_shown" "points_shown" (defArgs s_points_shown) (defBody s_points_shown) (defScope s_points_shown) .none kV25 dc25 pm25 an25 cd25 ct25) (p := "points") (ps := []) (all1 (fun _ => rfl))
  have F26 := fun_mk (st := s_holds_only) l26 c26 k26
  have b26 := F26.binds (ps := ["word", "signs"]) fun _ _ _ _ _ _ => all2 (fun _ _ => rfl)
  have F27 := fun_mk (st := s_is_name) l27 c27 k27
  have b27 := F27.binds (ps := ["word"]) fun _ _ _ _ _ _ => all1 (fun _ => rfl)
  have F28 := fun_mk (st := s_is_number) l28 c28 k28
  have b28 := F28.binds (ps := ["word"]) fun _ _ _ _ _ _ => all1 (fun _ => rfl)
  have F29 := fun_mk (st := s_point_in) l29 c29 k29
  have b29 := F29.binds (ps := ["line"]) fun _ _ _ _ _ _ => all1 (fun _ => rfl)
  have F30 := fun_mk (st := s_read_points) l30 c30 k30
  have b30 := F30.binds (ps := ["text"]) fun _ _ _ _ _ _ => all1 (fun _ => rfl)
  have kb30 := kbinds0 (K := K) (fd := PySem.W.fnOf "read_points" "read_points" (defArgs s_read_points) (defBody s_read_points) (defScope s_read_points) .none kV30 dc30 pm30 an30 cd30 ct30) (p := "text") (ps := []) (all1 (fun _ => rfl))
  have F31 := fun_mk (st := s_l_texts_right) l31 c31 k31
  have b31 := F31.binds (ps := ["spots"]) fun _ _ _ _ _ _ => all1 (fun _ => rfl)
  have F32 := fun_mk (st := s_law) l32 c32 k32
  have b32 := F32.binds (ps := ["script"]) fun _ _ _ _ _ _ => all1 (fun _ => rfl)
  let C : Defs K mg := { f_lies_below := _, d_lies_below := _, F_lies_below := F0, b_lies_below := b0, g_lies_below := PySem.W.mg_of X G a0, kb_lies_below := kb0, f_many_above := _, d_many_above := _, F_many_above := F1, b_many_above := b1, g_many_above := PySem.W.mg_of X G a1, f_place_of := _, d_place_of := _, F_place_of := F2, b_place_of := b2, g_place_of := PySem.W.mg_of X G a2, f_above_each := _, d_above_each := _, F_above_each := F3, b_above_each := b3, g_above_each := PySem.W.mg_of X G a3, kb_above_each := kb3, f_many_below := _, d_many_below := _, F_many_below := F4, b_many_below := b4, g_many_below := PySem.W.mg_of X G a4, f_below_each := _, d_below_each := _, F_below_each := F5, b_below_each := b5, g_below_each := PySem.W.mg_of X G a5, kb_below_each := kb5, f_crossings_of := _, d_crossings_of := _, F_crossings_of := F6, b_crossings_of := b6, g_crossings_of := PySem.W.mg_of X G a6, f_halves_between := _, d_halves_between := _, F_halves_between := F7, b_halves_between := b7, g_halves_between := PySem.W.mg_of X G a7, f_halves_of := _, d_halves_of := _, F_halves_of := F8, b_halves_of := b8, g_halves_of := PySem.W.mg_of X G a8, kb_halves_of := kb8, f_halves_shown := _, d_halves_shown := _, F_halves_shown := F9, b_halves_shown := b9, g_halves_shown := PySem.W.mg_of X G a9, kb_halves_shown := kb9, f_pairs_in_all := _, d_pairs_in_all := _, F_pairs_in_all := F10, b_pairs_in_all := b10, g_pairs_in_all := PySem.W.mg_of X G a10, kb_pairs_in_all := kb10, f_l_pairs_right := _, d_l_pairs_right := _, F_l_pairs_right := F11, b_l_pairs_right := b11, g_l_pairs_right := PySem.W.mg_of X G a11, f_many_greater := _, d_many_greater := _, F_many_greater := F12, b_many_greater := b12, g_many_greater := PySem.W.mg_of X G a12, f_counts_of := _, d_counts_of := _, F_counts_of := F13, b_counts_of := b13, g_counts_of := PySem.W.mg_of X G a13, kb_counts_of := kb13, f_count_of := _, d_count_of := _, F_count_of := F14, b_count_of := b14, g_count_of := PySem.W.mg_of X G a14, kb_count_of := kb14, f_need_counts := _, d_need_counts := _, F_need_counts := F15, b_need_counts := b15, g_need_counts := PySem.W.mg_of X G a15, f_row_of := _, d_row_of := _, F_row_of := F16, b_row_of := b16, g_row_of := PySem.W.mg_of X G a16, kb_row_of := kb16, f_ways_with_one_more := _, d_ways_with_one_more := _, F_ways_with_one_more := F17, b_ways_with_one_more := b17, g_ways_with_one_more := PySem.W.mg_of X G a17, f_ways_from_each := _, d_ways_from_each := _, F_ways_from_each := F18, b_ways_from_each := b18, g_ways_from_each := PySem.W.mg_of X G a18, f_ways_to := _, d_ways_to := _, F_ways_to := F19, b_ways_to := b19, g_ways_to := PySem.W.mg_of X G a19, f_nth_row := _, d_nth_row := _, F_nth_row := F20, b_nth_row := b20, g_nth_row := PySem.W.mg_of X G a20, kb_nth_row := kb20, f_place_of_row := _, d_place_of_row := _, F_place_of_row := F21, b_place_of_row := b21, g_place_of_row := PySem.W.mg_of X G a21, kb_place_of_row := kb21, f_rows_with := _, d_rows_with := _, F_rows_with := F22, b_rows_with := b22, g_rows_with := PySem.W.mg_of X G a22, kb_rows_with := kb22, f_l_rows_right := _, d_l_rows_right := _, F_l_rows_right := F23, b_l_rows_right := b23, g_l_rows_right := PySem.W.mg_of X G a23, f_l_spots := _, d_l_spots := _, F_l_spots := F24, b_l_spots := b24, g_l_spots := PySem.W.mg_of X G a24, f_points_shown := _, d_points_shown := _, F_points_shown := F25, b_points_shown := b25, g_points_shown := PySem.W.mg_of X G a25, kb_points_shown := kb25, f_holds_only := _, d_holds_only := _, F_holds_only := F26, b_holds_only := b26, g_holds_only := PySem.W.mg_of X G a26, f_is_name := _, d_is_name := _, F_is_name := F27, b_is_name := b27, g_is_name := PySem.W.mg_of X G a27, f_is_number := _, d_is_number := _, F_is_number := F28, b_is_number := b28, g_is_number := PySem.W.mg_of X G a28, f_point_in := _, d_point_in := _, F_point_in := F29, b_point_in := b29, g_point_in := PySem.W.mg_of X G a29, f_read_points := _, d_read_points := _, F_read_points := F30, b_read_points := b30, g_read_points := PySem.W.mg_of X G a30, kb_read_points := kb30, f_l_texts_right := _, d_l_texts_right := _, F_l_texts_right := F31, b_l_texts_right := b31, g_l_texts_right := PySem.W.mg_of X G a31, f_law := _, d_law := _, F_law := F32, b_law := b32, g_law := PySem.W.mg_of X G a32, v_FIGURES := ⟨_, PySem.W.mg_of X G v_FIGURES⟩, v_LETTERS := ⟨_, PySem.W.mg_of X G v_LETTERS⟩, v_LONGEST_NAME := ⟨_, PySem.W.mg_of X G v_LONGEST_NAME⟩, n_all := PySem.W.mg_none_of X G z_all, n_enumerate := PySem.W.mg_none_of X G z_enumerate, n_int := PySem.W.mg_none_of X G z_int, n_len := PySem.W.mg_none_of X G z_len, n_list := PySem.W.mg_none_of X G z_list, n_max := PySem.W.mg_none_of X G z_max, n_range := PySem.W.mg_none_of X G z_range, n_reversed := PySem.W.mg_none_of X G z_reversed, n_sorted := PySem.W.mg_none_of X G z_sorted, n_sum := PySem.W.mg_none_of X G z_sum, n_tuple := PySem.W.mg_none_of X G z_tuple, n_zip := PySem.W.mg_none_of X G z_zip }
  refine ⟨PySem.W.fnOf "law" "law" (defArgs s_law) (defBody s_law) (defScope s_law) .none kV32 dc32 pm32 an32 cd32 ct32, fun s v => .of_eq rfl, fun base _ _ => ?_⟩
  exact ok_law C
theorem walk {l : PySem.W.OpenLaw} {q : Program} {loose : List Str} {XP : (Str → Option Value) → Heap → Prop} {YP : World → Heap → Prop} {d : DefRec} {K : Params → PySem.W.Frag} (hn : l.most = some 63) (hdf : d.params.defaults = [])
    (hY : ∀ (w : World) (h : Heap), YP w h → (K w.params).In h)
    (F : ∀ (w : World) (mg : Str → Option Value) (fa : Addr) (h : Heap), (K w.params).In h → h.Ns mainGlobals mg → mg d.name = some (.ref fa) →
      ∃ fd : FuncData, (∀ (s : Shared) (u : Value), BindsTo s fd ⟨[u], []⟩ [("script", u)]) ∧ ∀ base : Heap, (K w.params).In base → base.Ns mainGlobals mg → FnOk l.prog w (K w.params) mg base CX0 15 fa fd ["script"] (spF (K w.params) 1 m_law)) :
    PySem.W.WalkO q loose XP YP l.row.toRowW d [] (fun f vs => PySem.call f vs) :=
  L2.walk_of (n := 63) (k := 15) (x := "script") (CX := fun _ => CX0) (sp := fun w => spF (K w.params) 1 m_law) hn (by decide) hdf ⟨rfl, by decide, by decide⟩ hY F (fun w H a ns hl ho hS => law_sp ho hS (law_true ns hl)) fun _ _ _ _ _ z => z
end Lw
open PySem PySem.W PyProof.Rows
set_option maxRecDepth 100000 in
set_option maxHeartbeats 0 in
theorem PySem.Challenge.cw_belowpoints_k93_points_and_rows_by_names_holds : PySem.Challenge.rw_belowpoints_k93_points_and_rows_by_names.Holds := by
  w_on; o_law; k_head; (case hw => w_witness2)
  k_fill
  refine Lw.walk (l := PySem.Challenge.rw_belowpoints_k93_points_and_rows_by_names) rfl rfl (fun w h Y => PySem.W.kIn_of Y) ?F
  case F =>
    intro w mg fa h KX G hmg
    refine' Lw.all_mk KX G hmg  ?a0 ?l0 ?c0 ?k0 ?a1 ?l1 ?c1 ?k1 ?a2 ?l2 ?c2 ?k2 ?a3 ?l3 ?c3 ?k3 ?a4 ?l4 ?c4 ?k4 ?a5 ?l5 ?c5 ?k5 ?a6 ?l6 ?c6 ?k6 ?a7 ?l7 ?c7 ?k7 ?a8 ?l8 ?c8 ?k8 ?a9 ?l9 ?c9 ?k9 ?a10 ?l10 ?c10 ?k10 ?a11 ?l11 ?c11 ?k11 ?a12 ?l12 ?c12 ?k12 ?a13 ?l13 ?c13 ?k13 ?a14 ?l14 ?c14 ?k14 ?a15 ?l15 ?c15 ?k15 ?a16 ?l16 ?c16 ?k16 ?a17 ?l17 ?c17 ?k17 ?a18 ?l18 ?c18 ?k18 ?a19 ?l19 ?c19 ?k19 ?a20 ?l20 ?c20 ?k20 ?a21 ?l21 ?c21 ?k21 ?a22 ?l22 ?c22 ?k22 ?a23 ?l23 ?c23 ?k23 ?a24 ?l24 ?c24 ?k24 ?a25 ?l25 ?c25 ?k25 ?a26 ?l26 ?c26 ?k26 ?a27 ?l27 ?c27 ?k27 ?a28 ?l28 ?c28 ?k28 ?a29 ?l29 ?c29 ?k29 ?a30 ?l30 ?c30 ?k30 ?a31 ?l31 ?c31 ?k31 ?a32 ?l32 ?c32 ?k32 ?v_FIGURES ?v_LETTERS ?v_LONGEST_NAME ?z_all ?z_enumerate ?z_int ?z_len ?z_list ?z_max ?z_range ?z_reversed ?z_sorted ?z_sum ?z_tuple ?z_zip
    (case a0 => k_is); (case l0 => k_is); (case c0 => k_is); (case k0 => k_is)
    (case a1 => k_is); (case l1 => k_is); (case c1 => k_is); (case k1 => k_is)
    (case a2 => k_is); (case l2 => k_is); (case c2 => k_is); (case k2 => k_is)
    (case a3 => k_is); (case l3 => k_is); (case c3 => k_is); (case k3 => k_is)
    (case a4 => k_is); (case l4 => k_is); (case c4 => k_is); (case k4 => k_is)
    (case a5 => k_is); (case l5 => k_is); (case c5 => k_is); (case k5 => k_is)
    (case a6 => k_is); (case l6 => k_is); (case c6 => k_is); (case k6 => k_is)
    (case a7 => k_is); (case l7 => k_is); (case c7 => k_is); (case k7 => k_is)
    (case a8 => k_is); (case l8 => k_is); (case c8 => k_is); (case k8 => k_is)
    (case a9 => k_is); (case l9 => k_is); (case c9 => k_is); (case k9 => k_is)
    (case a10 => k_is); (case l10 => k_is); (case c10 => k_is); (case k10 => k_is)
    (case a11 => k_is); (case l11 => k_is); (case c11 => k_is); (case k11 => k_is)
    (case a12 => k_is); (case l12 => k_is); (case c12 => k_is); (case k12 => k_is)
    (case a13 => k_is); (case l13 => k_is); (case c13 => k_is); (case k13 => k_is)
    (case a14 => k_is); (case l14 => k_is); (case c14 => k_is); (case k14 => k_is)
    (case a15 => k_is); (case l15 => k_is); (case c15 => k_is); (case k15 => k_is)
    (case a16 => k_is); (case l16 => k_is); (case c16 => k_is); (case k16 => k_is)
    (case a17 => k_is); (case l17 => k_is); (case c17 => k_is); (case k17 => k_is)
    (case a18 => k_is); (case l18 => k_is); (case c18 => k_is); (case k18 => k_is)
    (case a19 => k_is); (case l19 => k_is); (case c19 => k_is); (case k19 => k_is)
    (case a20 => k_is); (case l20 => k_is); (case c20 => k_is); (case k20 => k_is)
    (case a21 => k_is); (case l21 => k_is); (case c21 => k_is); (case k21 => k_is)
    (case a22 => k_is); (case l22 => k_is); (case c22 => k_is); (case k22 => k_is)
    (case a23 => k_is); (case l23 => k_is); (case c23 => k_is); (case k23 => k_is)
    (case a24 => k_is); (case l24 => k_is); (case c24 => k_is); (case k24 => k_is)
    (case a25 => k_is); (case l25 => k_is); (case c25 => k_is); (case k25 => k_is)
    (case a26 => k_is); (case l26 => k_is); (case c26 => k_is); (case k26 => k_is)
    (case a27 => k_is); (case l27 => k_is); (case c27 => k_is); (case k27 => k_is)
    (case a28 => k_is); (case l28 => k_is); (case c28 => k_is); (case k28 => k_is)
    (case a29 => k_is); (case l29 => k_is); (case c29 => k_is); (case k29 => k_is)
    (case a30 => k_is); (case l30 => k_is); (case c30 => k_is); (case k30 => k_is)
    (case a31 => k_is); (case l31 => k_is); (case c31 => k_is); (case k31 => k_is)
    (case a32 => k_is); (case l32 => k_is); (case c32 => k_is); (case k32 => k_is)
    (case v_FIGURES => k_is)
    (case v_LETTERS => k_is)
    (case v_LONGEST_NAME => k_is)
    (case z_all => k_is)
    (case z_enumerate => k_is)
    (case z_int => k_is)
    (case z_len => k_is)
    (case z_list => k_is)
    (case z_max => k_is)
    (case z_range => k_is)
    (case z_reversed => k_is)
    (case z_sorted => k_is)
    (case z_sum => k_is)
    (case z_tuple => k_is)
    (case z_zip => k_is)

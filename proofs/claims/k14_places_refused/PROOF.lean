import PyProof.Rows.All
import Wide.All
import OpenK.AllK
import Wide.FinOn
import Lean
import PyProof.EqAt
import PyProof.EqKinds
import PyProof.TupleCall
import KE.KIntText
import KE.KTryMore
import PyProof.ExcInit
import KE.KIsNot
import PySem.Challenge.RW_belowpoints_k14_places_refused
set_option Elab.async false
set_option linter.all false
set_option maxRecDepth 100000
namespace L2
open PySem PySem.Spec PyProof.Rows
abbrev Key := Sum Int Str
def keyIs : Key → Value → Bool
  | .inl k, v => Value.isInt k v
  | .inr x, v => Value.isStrOf x v
def keyH (w : World) : Key → Int
  | .inl k => hashInt k
  | .inr x => hashStr w x
theorem keyIs_shape : ∀ {k : Key} {v : Value}, keyIs k v = true → (∃ i t, k = Sum.inl i ∧ v = Value.int i t) ∨ (∃ x t, k = Sum.inr x ∧ v = Value.str x t)
  | .inl i, v, h => by
    obtain ⟨t, e⟩ := Value.isInt_shape (k := i) (v := v) h
    exact .inl ⟨i, t, rfl, e⟩
  | .inr x, v, h => by
    obtain ⟨t, e⟩ := Value.isStrOf_shape (x := x) (v := v) h
    exact .inr ⟨x, t, rfl, e⟩
theorem key_ll (a b : Int) : decide ((Sum.inl a : Key) = Sum.inl b) = (a == b) := by
  by_cases e : a = b
  · subst e; simp
  · have h : ¬ (Sum.inl a : Key) = Sum.inl b := fun q => e (Sum.inl.inj q)
    rw [decide_eq_false h]
    exact (beq_eq_false_iff_ne.mpr e).symm
theorem key_rr (a b : Str) : decide ((Sum.inr a : Key) = Sum.inr b) = decide (a = b) := by
  by_cases e : a = b
  · subst e; simp
  · have h : ¬ (Sum.inr a : Key) = Sum.inr b := fun q => e (Sum.inr.inj q)
    rw [decide_eq_false h, decide_eq_false e]
theorem key_lr (a : Int) (b : Str) : decide ((Sum.inl a : Key) = Sum.inr b) = false := decide_eq_false (fun q => nomatch q)
theorem key_rl (a : Str) (b : Int) : decide ((Sum.inr a : Key) = Sum.inl b) = false := decide_eq_false (fun q => nomatch q)
def mixKind (prog : Program) (w : World) : PySem.KeyKind prog w Key where
  is := keyIs
  hash := keyH w
  inj := fun v a b ha hb => by
    rcases keyIs_shape ha with ⟨i, t, rfl, rfl⟩ | ⟨x, t, rfl, rfl⟩
    · rcases keyIs_shape hb with ⟨j, u, rfl, e⟩ | ⟨y, u, rfl, e⟩
      · injection e with e1 _; rw [e1]
      · exact nomatch e
    · rcases keyIs_shape hb with ⟨j, u, rfl, e⟩ | ⟨y, u, rfl, e⟩
      · exact nomatch e
      · injection e with e1 _; rw [e1]
  byValue := fun k v h => by
    rcases keyIs_shape h with ⟨i, t, rfl, rfl⟩ | ⟨x, t, rfl, rfl⟩ <;> rfl
  pyHash := fun hv h => by
    rcases keyIs_shape hv with ⟨i, t, rfl, rfl⟩ | ⟨x, t, rfl, rfl⟩
    · exact wpAny_pyHash_int h
    · exact wpAny_pyHash_str h
  eqBool := fun hu hv h => by
    rcases keyIs_shape hu with ⟨i, t, rfl, rfl⟩ | ⟨x, t, rfl, rfl⟩
    · rcases keyIs_shape hv with ⟨j, u, rfl, rfl⟩ | ⟨y, u, rfl, rfl⟩
      · rw [key_ll] at h; exact wpAny_eqBool_int h
      · rw [key_lr] at h; exact SeqAt.EqAt.int_str i t y u _ _ _ _ h
    · rcases keyIs_shape hv with ⟨j, u, rfl, rfl⟩ | ⟨y, u, rfl, rfl⟩
      · rw [key_rl] at h; exact SeqAt.EqAt.str_int x t j u _ _ _ _ h
      · rw [key_rr] at h; exact wpAny_eqBool_str h
  «strs» := fun k x t v h => by
    rcases keyIs_shape h with ⟨i, u, rfl, e⟩ | ⟨y, u, rfl, e⟩
    · exact nomatch e
    · injection e with e1 _
      subst e1
      cases v <;> rfl
end L2
namespace L2
open PySem PySem.Spec PyProof.Rows
inductive V where
  | non | bl (b : Bool) | int (i : Int) | str (x : Str) | byt (b : Array UInt8) | flt (b : UInt64) | ref (a : Addr) | ty (n : String)
  deriving DecidableEq
def RelV : V → Value → Prop
  | .non, u => u = Value.none
  | .bl b, u => u = Value.bool b
  | .int i, u => ∃ t, u = Value.int i t
  | .str x, u => ∃ t, u = Value.str x t
  | .byt b, u => ∃ t, u = Value.bytes b t
  | .flt b, u => ∃ t, u = Value.float b t
  | .ref a, u => u = Value.ref a
  | .ty n, u => u = Value.type n
abbrev Vals : List V → List Value → Prop := Paired RelV
theorem Vals.length {xs : List V} {us : List Value} (r : Vals xs us) : xs.length = us.length := Paired.length r
theorem Vals.get : ∀ {xs : List V} {us : List Value} {i : Nat} {x : V}, Vals xs us → xs[i]? = some x → ∃ u, us[i]? = some u ∧ RelV x u
  | _, _, _, _, .nil, e => by simp at e
  | _, _, 0, _, .cons r _, e => by simp at e; subst e; exact ⟨_, rfl, r⟩
  | _, _, i + 1, x, .cons _ t, e => by
    obtain ⟨u, h1, h2⟩ := Vals.get (i := i) (x := x) t (by simpa using e)
    exact ⟨u, by simpa using h1, h2⟩
theorem Vals.set {x : V} {u : Value} (r : RelV x u) : ∀ {xs : List V} {us : List Value} (i : Nat), Vals xs us → Vals (xs.set i x) (us.set i u)
  | _, _, _, .nil => .nil
  | _, _, 0, .cons _ t => .cons r t
  | _, _, i + 1, .cons q t => .cons q (Vals.set r i t)
theorem Vals.append : ∀ {xs ys : List V} {us ws : List Value}, Vals xs us → Vals ys ws → Vals (xs ++ ys) (us ++ ws)
  | _, _, _, _, .nil, s => s
  | _, _, _, _, .cons r t, s => .cons r (Vals.append t s)
theorem Vals.take : ∀ {xs : List V} {us : List Value} (n : Nat), Vals xs us → Vals (xs.take n) (us.take n)
  | _, _, 0, _ => .nil
  | _, _, _ + 1, .nil => .nil
  | _, _, n + 1, .cons r t => .cons r (Vals.take n t)
theorem Vals.drop : ∀ {xs : List V} {us : List Value} (n : Nat), Vals xs us → Vals (xs.drop n) (us.drop n)
  | _, _, 0, r => r
  | _, _, _ + 1, .nil => .nil
  | _, _, n + 1, .cons _ t => Vals.drop n t
theorem Vals.none_of : ∀ {xs : List V} {us : List Value} {i : Nat}, Vals xs us → xs[i]? = none → us[i]? = none := fun {xs us i} r e => by
  have h1 := r.length
  have h2 : xs.length ≤ i := List.getElem?_eq_none_iff.mp e
  exact List.getElem?_eq_none_iff.mpr (by omega)
def RelO : Option V → Option Value → Prop
  | some v, some u => RelV v u
  | none, none => True
  | _, _ => False
def KV {κ : Type} : List (κ × V) → List (κ × Value) → Prop := Paired fun (p : κ × V) (q : κ × Value) => p.1 = q.1 ∧ RelV p.2 q.2
def kV : Key → V
  | .inl i => .int i
  | .inr x => .str x
inductive HO where
  | lst (xs : List V)
  | tup (xs : List V)
  | dK (kvs : List (Key × V)) | dT (kvs : List (List Key × V))
  | set (S : Int → Bool) (n : Nat)
  | ins (C dx : Addr) (fs : List (Str × V))
  | own (x : Addr)
  | xd (fs : List (Str × V))
  | met (f x : Addr)
  | rng (lo hi : Int)
  | frz (o : Obj) (u : HO)
  | tbl (ps : Array Value)
  | ext (φ : Heap → Prop)
abbrev Hp := Addr → Option HO
def upd (H : Hp) (a : Addr) (o : HO) : Hp := fun b => if b = a then some o else H b
theorem upd_same {H : Hp} {a : Addr} {o : HO} : upd H a o a = some o := by unfold upd; rw [if_pos rfl]
theorem upd_ne {H : Hp} {a b : Addr} {o : HO} (h : b ≠ a) : upd H a o b = H b := by unfold upd; rw [if_neg h]
theorem ne_of {H : Hp} {a b : Addr} {o u : HO} (h : H a = some o) (h' : H b = some u) (d : o ≠ u) : a ≠ b := by
  intro e; subst e; rw [h] at h'; exact d (Option.some.inj h')
theorem ne_of_none {H : Hp} {a b : Addr} {o : HO} (h : H a = some o) (h' : H b = none) : a ≠ b := by
  intro e; subst e; rw [h] at h'; cases h'
section
variable (P : Program) (w : World)
def ObjOk (H : Hp) (h : Heap) (a : Addr) : HO → Prop
  | .lst xs => xs.length ≤ sizeLine ∧ ∃ (its : List Value) (n : Nat), Vals xs its ∧ h.get? a = some { cls := .type "list", data := .seq its.toArray n }
  | .tup xs => xs.length ≤ sizeLine ∧ ∃ its : List Value, Vals xs its ∧ IsTup h a its.toArray
  | .dK kvs => kvs.length ≤ sizeLine ∧ (a == sysModules) = false ∧ ∃ vs, KV kvs vs ∧ h.DictOf (mixKind P w) a vs
  | .dT kvs => kvs.length ≤ sizeLine ∧ (a == sysModules) = false ∧ ∃ xs : List (List Key × Addr × Value),
      Paired (fun (p : List Key × V) (q : List Key × Addr × Value) => p.1 = q.1 ∧ H q.2.1 = some (.tup (p.1.map kV)) ∧ RelV p.2 q.2.2) kvs xs ∧
      ∃ o es ep, h.get? a = some o ∧ o.ExactDict ∧ o.data = .dict es ep ∧ es.toList = xs.map (entryOfKey (tupleKind (mixKind P w))) ∧ (xs.map (·.1)).Nodup
  | .set S n => h.SetOf (intKind P w) a S n
  | .ins C dx fs => H dx = some (.own a) ∧ fs.length ≤ 1000 ∧ dx ≠ a ∧ h.get? a = some (PySem.W.instObj C dx) ∧
      ∃ mA, h.Ns1 dx mA ∧ (∀ f, RelO (fs.lookup f) (mA f)) ∧ PySem.Within mA (fs.map (·.1))
  | .own _ => ∃ o, h.get? a = some o
  | .xd fs => ∃ mA, h.Ns1 a mA ∧ ∀ f, RelO (fs.lookup f) (mA f)
  | .rng lo hi => ∃ t u v, h.get? a = some { cls := .type "range", data := .fields #[.int lo t, .int hi u, .int 1 v] }
  | .frz o u => h.get? a = some o ∧ ObjOk H h a u
  | .tbl ps => h.get? a = some { cls := .none, data := .fields ps }
  | .met f x => h.get? a = some (PySem.W.methodObj (.ref f) (.ref x))
  | .ext φ => φ h ∧ (∃ o, h.get? a = some o) ∧ ∀ h1 h2 : Heap, φ h1 → (∀ o, h1.get? a = some o → h2.get? a = some o) → φ h2
def HOk (H : Hp) (h : Heap) : Prop := ∀ a o, H a = some o → ObjOk P w H h a o
end
section
variable {P : Program} {w : World} {H H' : Hp} {h h' : Heap} {a : Addr} {o : HO}
theorem ObjOk.lt (x : ObjOk P w H h a o) : a < h.objs.size := by
  cases o with
  | lst xs => obtain ⟨_, _, _, _, e⟩ := x; exact Heap.lt_size e
  | tup xs => obtain ⟨_, _, _, p⟩ := x; exact p.lt
  | dK kvs => obtain ⟨_, _, _, _, o, _, _, e, _⟩ := x; exact Heap.lt_size e
  | dT kvs => obtain ⟨_, _, _, _, o, _, _, e, _⟩ := x; exact Heap.lt_size e
  | set S n => obtain ⟨o, _, _, _, e, _⟩ := x; exact Heap.lt_size e
  | ins C dx fs => obtain ⟨_, _, _, e, _⟩ := x; exact Heap.lt_size e
  | own y => obtain ⟨_, e⟩ := x; exact Heap.lt_size e
  | xd fs => obtain ⟨_, ⟨_, _, _, e, _⟩, _⟩ := x; exact Heap.lt_size e
  | rng lo hi => obtain ⟨_, _, _, e⟩ := x; exact Heap.lt_size e
  | frz ob u => obtain ⟨e, _⟩ := x; exact Heap.lt_size e
  | tbl ps => exact Heap.lt_size (show h.get? a = some _ from x)
  | met f y => exact Heap.lt_size (show h.get? a = some _ from x)
  | ext φ => obtain ⟨_, ⟨_, e⟩, _⟩ := x; exact Heap.lt_size e
theorem Paired.mapP {α β : Type} {F G : α → β → Prop} : ∀ {l₁ : List α} {l₂ : List β}, Paired F l₁ l₂ → (∀ a b, F a b → G a b) → Paired G l₁ l₂
  | _, _, .nil, _ => .nil
  | _, _, .cons r t, f => .cons (f _ _ r) (Paired.mapP t f)
theorem ObjOk.stay (x : ObjOk P w H h a o) (k : ∀ b u, (b = a ∨ H b = some (.own a)) → h.get? b = some u → h'.get? b = some u)
    (ho : ∀ b, H b = some (.own a) → H' b = some (.own a)) (ht : ∀ b xs, H b = some (.tup xs) → H' b = some (.tup xs)) : ObjOk P w H' h' a o := by
  induction o with
  | lst xs => obtain ⟨z, its, n, r, e⟩ := x; exact ⟨z, its, n, r, k _ _ (.inl rfl) e⟩
  | tup xs => obtain ⟨z, its, r, ob, e, c⟩ := x; exact ⟨z, its, r, ob, k _ _ (.inl rfl) e, c⟩
  | dK kvs => obtain ⟨z, y, vs, r, ob, es, ep, e, c⟩ := x; exact ⟨z, y, vs, r, ob, es, ep, k _ _ (.inl rfl) e, c⟩
  | dT kvs =>
    obtain ⟨z, y, xs, r, ob, es, ep, e, c⟩ := x
    exact ⟨z, y, xs, Paired.mapP r fun p q z => ⟨z.1, ht _ _ z.2.1, z.2.2⟩, ob, es, ep, k _ _ (.inl rfl) e, c⟩
  | set S n => obtain ⟨ob, es, ep, t, e, c⟩ := x; exact ⟨ob, es, ep, t, k _ _ (.inl rfl) e, c⟩
  | ins C dx fs =>
    obtain ⟨d, z, ne, e, mA, ⟨od, es, ep, e2, c⟩, r⟩ := x
    exact ⟨ho _ d, z, ne, k _ _ (.inl rfl) e, mA, ⟨od, es, ep, k _ _ (.inr d) e2, c⟩, r⟩
  | own y => obtain ⟨ob, e⟩ := x; exact ⟨ob, k _ _ (.inl rfl) e⟩
  | xd fs => obtain ⟨mA, ⟨od, es, ep, e, c⟩, r⟩ := x; exact ⟨mA, ⟨od, es, ep, k _ _ (.inl rfl) e, c⟩, r⟩
  | rng lo hi => obtain ⟨t, u, v, e⟩ := x; exact ⟨t, u, v, k _ _ (.inl rfl) e⟩
  | frz ob u ih => obtain ⟨e, q⟩ := x; exact ⟨k _ _ (.inl rfl) e, ih q⟩
  | tbl ps =>
    have e : h.get? a = some { cls := .none, data := .fields ps } := x
    show h'.get? a = some { cls := .none, data := .fields ps }
    exact k a _ (.inl rfl) e
  | met f y =>
    have e : h.get? a = some (PySem.W.methodObj (.ref f) (.ref y)) := x
    show h'.get? a = some (PySem.W.methodObj (.ref f) (.ref y))
    exact k a _ (.inl rfl) e
  | ext φ => obtain ⟨p, ⟨o, e⟩, st⟩ := x; exact ⟨st _ _ p fun o q => k _ _ (.inl rfl) q, ⟨o, k _ _ (.inl rfl) e⟩, st⟩
theorem HOk.lt (x : HOk P w H h) (e : H a = some o) : a < h.objs.size := (x a o e).lt
theorem HOk.fresh (x : HOk P w H h) (e : h.objs.size ≤ a) : H a = none := by
  cases q : H a with
  | none => rfl
  | some u => exact absurd (Nat.lt_of_lt_of_le (x.lt q) e) (Nat.lt_irrefl _)
theorem HOk.kept (x : HOk P w H h) (k : ∀ b u, h.get? b = some u → h'.get? b = some u) : HOk P w H h' := fun a o e =>
  (x a o e).stay (fun b u _ q => k b u q) (fun _ q => q) fun _ _ q => q
theorem HOk.laid (x : HOk P w H h) (k : ∀ b u, h.get? b = some u → h'.get? b = some u) (hp : h.objs.size ≤ a) (new : ObjOk P w (upd H a o) h' a o) : HOk P w (upd H a o) h' := fun b u e => by
  have hn := x.fresh hp
  by_cases hb : b = a
  · subst hb; rw [upd_same] at e; cases e; exact new
  · rw [upd_ne hb] at e
    exact (x b u e).stay (fun c v _ q => k c v q) (fun c q => by rw [upd_ne (ne_of_none q hn)]; exact q) fun c xs q => by rw [upd_ne (ne_of_none q hn)]; exact q
end
def Rd (H : Hp) (a : Addr) (u : HO) : Prop := H a = some u ∨ ∃ o, H a = some (.frz o u)
theorem Rd.of {H : Hp} {a : Addr} {u : HO} (h : H a = some u) : Rd H a u := .inl h
theorem Rd.ok {P : Program} {w : World} {H : Hp} {h : Heap} {a : Addr} {u : HO} (r : Rd H a u) (x : HOk P w H h) : ObjOk P w H h a u := by
  rcases r with r | ⟨o, r⟩
  · exact x a u r
  · obtain ⟨_, q⟩ := x a _ r
    exact q
def Mut : Option HO → Prop
  | some (.lst _) => True
  | some (.dK _) => True
  | some (.dT _) => True
  | some (.set _ _) => True
  | some (.ins _ _ _) => True
  | some (.ext _) => True
  | _ => False
section
variable {P : Program} {w : World} {H : Hp} {h h' : Heap} {x e : Addr} {o' : HO}
theorem HOk.write (ok : HOk P w H h) (mu : Mut (H x)) (he : e = x ∨ H e = some (.own x)) (k : ∀ b u, b ≠ e → h.get? b = some u → h'.get? b = some u) (heo : ∃ u, h'.get? e = some u)
    (new : ObjOk P w (upd H x o') h' x o') : HOk P w (upd H x o') h' := fun b u q => by
  have nown : ∀ c y, H c = some (.own y) → c ≠ x := fun c y r z => by subst z; rw [r] at mu; exact mu
  have ntup : ∀ c xs, H c = some (.tup xs) → c ≠ x := fun c xs r z => by subst z; rw [r] at mu; exact mu
  by_cases hb : b = x
  · subst hb; rw [upd_same] at q; cases q; exact new
  · rw [upd_ne hb] at q
    by_cases hbe : b = e
    · have q' : H b = some (.own x) := by
        rcases he with z | z
        · exact absurd (hbe.trans z) hb
        · rw [hbe]; exact z
      rw [q] at q'; cases q'
      obtain ⟨v, hv⟩ := heo
      exact ⟨v, by rw [hbe]; exact hv⟩
    · refine (ok b u q).stay (fun c v hc r => k c v ?_ r) (fun c r => by rw [upd_ne (nown c b r)]; exact r) fun c xs r => by rw [upd_ne (ntup c xs r)]; exact r
      rcases hc with rfl | hc
      · exact hbe
      · rintro rfl
        rcases he with z | z
        · exact nown c b hc z
        · rw [hc] at z; cases z; exact hb rfl
end
structure Un (fs ex : List Addr) (H H' : Hp) (h h' : Heap) : Prop where
  keep : ∀ b o, h.get? b = some o → H b = none → b ∉ fs → b ∉ ex → h'.get? b = some o
  slot : ∀ b o, h.get? b = some o → H b = none → b ∈ fs → b ∉ ex → ∃ sl, h'.get? b = some { o with slots := sl }
  free : ∀ b o, h.get? b = some o → H b = none → b ∉ ex → H' b = none
  there : ∀ b o, h.get? b = some o → b ∉ ex → ∃ o', h'.get? b = some o'
  tups : ∀ b xs, H b = some (.tup xs) → H' b = some (.tup xs)
  frzs : ∀ b o u, H b = some (.frz o u) → H' b = some (.frz o u)
  tbls : ∀ b ps, H b = some (.tbl ps) → ∃ more, H' b = some (.tbl (ps ++ more))
section
variable {fs fs' ex ex' : List Addr} {H H1 H2 : Hp} {h h1 h2 h' : Heap} {a x e : Addr} {o : HO}
theorem Un.any (u : Un fs ex H H1 h h1) {b : Addr} {ob : Obj} (q : h.get? b = some ob) (n : H b = none) (hx : b ∉ ex) : ∃ sl, h1.get? b = some { ob with slots := sl } := by
  by_cases hb : b ∈ fs
  · exact u.slot b ob q n hb hx
  · exact ⟨ob.slots, u.keep b ob q n hb hx⟩
theorem Un.trans (a : Un fs ex H H1 h h1) (b : Un fs ex H1 H2 h1 h2) : Un fs ex H H2 h h2 where
  keep := fun c ob q n hc hx => b.keep c ob (a.keep c ob q n hc hx) (a.free c ob q n hx) hc hx
  slot := fun c ob q n hc hx => by
    obtain ⟨sl, e1⟩ := a.slot c ob q n hc hx
    obtain ⟨sl', e2⟩ := b.slot c _ e1 (a.free c ob q n hx) hc hx
    exact ⟨sl', e2⟩
  free := fun c ob q n hx => by
    obtain ⟨o', e1⟩ := a.there c ob q hx
    exact b.free c o' e1 (a.free c ob q n hx) hx
  there := fun c ob q hx => by
    obtain ⟨o', e1⟩ := a.there c ob q hx
    exact b.there c o' e1 hx
  tups := fun c xs q => b.tups c xs (a.tups c xs q)
  frzs := fun c ob xs q => b.frzs c ob xs (a.frzs c ob xs q)
  tbls := fun c ps q => by
    obtain ⟨m1, e1⟩ := a.tbls c ps q
    obtain ⟨m2, e2⟩ := b.tbls c _ e1
    exact ⟨m1 ++ m2, by rw [e2, Array.append_assoc]⟩
theorem Un.kept (k : ∀ b u, h.get? b = some u → h'.get? b = some u) : Un fs ex H H h h' :=
  ⟨fun b ob q _ _ _ => k b ob q, fun b ob q _ _ _ => ⟨ob.slots, k b ob q⟩, fun _ _ _ n _ => n, fun b ob q _ => ⟨ob, k b ob q⟩, fun _ _ q => q, fun _ _ _ q => q, fun _ ps q => ⟨#[], by rw [q]; simp⟩⟩
theorem Un.refl : Un fs ex H H h h := Un.kept fun _ _ q => q
theorem Un.laid (k : ∀ b u, h.get? b = some u → h'.get? b = some u) (hp : h.objs.size ≤ a) (hn : H a = none) : Un fs ex H (upd H a o) h h' where
  keep := fun b u q _ _ _ => k b u q
  slot := fun b u q _ _ _ => ⟨u.slots, k b u q⟩
  free := fun b u q n _ => by rw [upd_ne (Nat.ne_of_lt (Nat.lt_of_lt_of_le (Heap.lt_size q) hp))]; exact n
  there := fun b u q _ => ⟨u, k b u q⟩
  tups := fun b xs q => by rw [upd_ne (ne_of_none q hn)]; exact q
  frzs := fun b u xs q => by rw [upd_ne (ne_of_none q hn)]; exact q
  tbls := fun b ps q => ⟨#[], by rw [upd_ne (ne_of_none q hn), q]; simp⟩
theorem Un.write (mu : Mut (H x)) (he : e = x ∨ H e = some (.own x)) (k : ∀ b u, b ≠ e → h.get? b = some u → h'.get? b = some u) (heo : ∃ u, h'.get? e = some u) : Un fs ex H (upd H x o) h h' := by
  have hx : ∀ b, H b = none → b ≠ x := fun b n z => by subst z; rw [n] at mu; exact mu
  have hb : ∀ b, H b = none → b ≠ e := fun b n z => by
    subst z
    rcases he with r | r
    · exact hx b n r
    · rw [n] at r; cases r
  have hm : ∀ b u, H b = some u → ¬ Mut (some u) → b ≠ x := fun b u q nm z => by subst z; rw [q] at mu; exact nm mu
  refine ⟨fun b u q n _ _ => k b u (hb b n) q, fun b u q n _ _ => ⟨u.slots, k b u (hb b n) q⟩, fun b u q n _ => by rw [upd_ne (hx b n)]; exact n, fun b u q _ => ?_,
    fun b xs q => by rw [upd_ne (hm b _ q fun z => z)]; exact q, fun b u xs q => by rw [upd_ne (hm b _ q fun z => z)]; exact q, fun b ps q => ⟨#[], by rw [upd_ne (hm b _ q fun z => z), q]; simp⟩⟩
  by_cases hbe : b = e
  · subst hbe; exact heo
  · exact ⟨u, k b u hbe q⟩
theorem Un.mono (u : Un fs ex H H1 h h1) (hs : ∀ b ∈ fs, b ∈ fs') (hx : ∀ b ∈ ex, b ∈ ex') : Un fs' ex' H H1 h h1 :=
  ⟨fun b ob q n hb he => u.keep b ob q n (fun z => hb (hs b z)) fun z => he (hx b z), fun _ _ q n _ he => u.any q n fun z => he (hx _ z), fun b ob q n he => u.free b ob q n fun z => he (hx b z), fun b ob q he => u.there b ob q fun z => he (hx b z), u.tups, u.frzs, u.tbls⟩
end
def trk (h : Heap) (H : Hp) : List Addr := (List.range h.objs.size).filter fun a => (H a).isSome
def hidT (h : Heap) (H : Hp) : Heap := PySem.W.hideAll h (trk h H)
theorem hidT_size (h : Heap) (H : Hp) : (hidT h H).objs.size = h.objs.size := PySem.W.hideAll_size _ _
theorem hidT_get {h : Heap} {H : Hp} {b : Addr} {o : Obj} (e : h.get? b = some o) (n : H b = none) : (hidT h H).get? b = some o :=
  PySem.W.hideAll_get _ e fun hm => by
    have q : (H b).isSome = true := (List.mem_filter.mp hm).2
    rw [n] at q; simp at q
theorem of_hidT {h : Heap} {H : Hp} {b : Addr} {o : Obj} (e : (hidT h H).get? b = some o) : h.get? b = some o ∧ H b = none := by
  have e' : h.get? b = some o := PySem.W.of_hideAll (trk h H) e
  refine ⟨e', ?_⟩
  cases q : H b with
  | none => rfl
  | some x =>
    have hm : b ∈ trk h H := List.mem_filter.mpr ⟨List.mem_range.mpr (Heap.lt_size e'), by simp [q]⟩
    have z : (hidT h H).get? b = none := PySem.W.hideAll_none (trk h H) hm
    rw [z] at e; cases e
def allNews (g h : Heap) (L : Addr) : List (Addr × Obj) := (List.range h.objs.size).filterMap fun a => if a = L ∨ (g.get? a).isSome = true then none else (h.get? a).map fun o => (a, o)
def rest (g h : Heap) (L d : Addr) : List (Addr × Obj) := (allNews g h L).filter fun p => decide (p.1 ≠ d)
end L2
namespace L2
open PySem PySem.Spec PyProof.Rows
structure Mod (K : PySem.W.Frag) (mg : Str → Option Value) (base : Heap) : Prop where
  kin : K.In base
  glob : base.Ns mainGlobals mg
  blt : ∃ mb, base.Ns builtinsNs mb ∧ ∀ x : Str, x ≠ "__name__" → mb x = bootBuiltins x
  nolimit : base.NoLimit
structure Cx where
  prog : Program
  w : World
  K : PySem.W.Frag
  mg : Str → Option Value
  base : Heap
  A : Around
  N : List Str
  s₀ : Shared
  H₀ : Hp
  env : Env
  outer : List Env
  stack : List Env
  ex : List Addr
  fn : Str → Bool
  calm : Bool
  pn : List (Addr × Obj)
  xe : Value → Shared → Prop
def frs (l : List Env) : List Addr := l.filterMap (·.frame)
abbrev Cx.fs (X : Cx) : List Addr := frs X.outer
def Vis (sc : Scope) (x : Str) : Prop := sc.names.lookup x = some .local ∨ sc.names.lookup x = some .cell ∨ sc.names.lookup x = some .free
def Loc (sc : Scope) (x : Str) : Prop := sc.names.lookup x = some .local ∨ sc.names.lookup x = some .cell
def Look (env : Env) (h : Heap) (m : Str → Option Value) (x : Str) (u : Value) : Prop :=
  (env.kindOf x = some .local ∧ m x = some u) ∨ ((env.kindOf x = some .cell ∨ env.kindOf x = some .free) ∧ ∃ c, env.cells.lookup x = some c ∧ h.IsCell c (some u))
structure Cx.Ok (X : Cx) : Prop where
  mod : Mod X.K X.mg X.base
  kind : X.env.scope.kind = .function
  glob : X.env.globals = mainGlobals
  blt : X.env.builtins = builtinsNs
  above : X.s₀.heap.objs.size ≤ X.env.locals
  inj : ∀ x y c, X.env.cells.lookup x = some c → X.env.cells.lookup y = some c → x = y
  has : ∀ x, (X.env.kindOf x = some .cell ∨ X.env.kindOf x = some .free) → ∃ c, X.env.cells.lookup x = some c
  cab : ∀ x c, X.fn x = true → X.env.cells.lookup x = some c → X.s₀.heap.objs.size ≤ c
  hd : X.calm = true → X.A.handled = none
  frames : X.A.frames = some X.stack
  stk : X.stack = X.outer ∨ (X.stack = X.env :: X.outer ∧ X.env.frame = some X.env.locals)
  exf : ∀ b ∈ X.ex, b ≠ X.env.locals ∧ ∀ x c, X.env.cells.lookup x = some c → c ≠ b
  bs : ∀ b o, X.base.get? b = some o → X.s₀.heap.get? b = some o ∧ X.H₀ b = none
  bsz : X.base.objs.size ≤ X.s₀.heap.objs.size
  noex : ∀ b o, X.base.get? b = some o → b ∉ X.ex
  exfs : ∀ b ∈ X.ex, b ∉ X.fs
  funs : X.s₀.heap.FunFrames X.base X.outer
  frf : ∀ b ∈ X.fs, X.H₀ b = none
structure Inv (X : Cx) (pins : List (Addr × Obj)) (σ : List (Option V)) (H : Hp) (s : Shared) : Prop where
  ok : X.Ok
  os : s.os = X.s₀.os
  bare : AllBare s.gens
  base : Un X.fs X.ex X.H₀ H X.s₀.heap s.heap
  loc : ∃ m, s.heap.Ns X.env.locals m ∧ ∀ (i : Nat) (x : Str) (v : V), X.N[i]? = some x → σ[i]? = some (some v) → Vis X.env.scope x → ∃ u, RelV v u ∧ Look X.env s.heap m x u
  cell : ∀ x c, X.env.cells.lookup x = some c → ∃ v, s.heap.IsCell c v
  free : H X.env.locals = none
  freeC : ∀ x c, X.env.cells.lookup x = some c → H c = none
  pin : ∀ p ∈ X.pn ++ pins, s.heap.get? p.1 = some p.2 ∧ H p.1 = none ∧ p.1 ≠ X.env.locals ∧ p.1 ∉ X.fs ∧ ∀ v, p.2.data ≠ .cell v
  hok : HOk X.prog X.w H s.heap
  len : σ.length = X.N.length
section
variable {X : Cx} {pins : List (Addr × Obj)} {σ : List (Option V)} {H H' : Hp} {s : Shared} {h' : Heap}
theorem Cx.Ok.nofr (ok : X.Ok) {b : Addr} {o : Obj} (e : X.base.get? b = some o) : b ∉ X.fs := fun hb => by
  have := (ok.funs.mem hb).1
  rw [e] at this; cases this
theorem Inv.bs (I : Inv X pins σ H s) : ∀ b o, X.base.get? b = some o → s.heap.get? b = some o ∧ H b = none := fun b o e =>
  ⟨I.base.keep b o (I.ok.bs b o e).1 (I.ok.bs b o e).2 (I.ok.nofr e) (I.ok.noex b o e), I.base.free b o (I.ok.bs b o e).1 (I.ok.bs b o e).2 (I.ok.noex b o e)⟩
theorem Inv.bk (I : Inv X pins σ H s) : ∀ b o, X.base.get? b = some o → s.heap.get? b = some o := fun b o e => (I.bs b o e).1
theorem Inv.mod (I : Inv X pins σ H s) : Mod X.K X.mg X.base := I.ok.mod
theorem Inv.kIn (I : Inv X pins σ H s) : X.K.In s.heap := I.ok.mod.kin.keeps I.bk
theorem Inv.nolimit (I : Inv X pins σ H s) : s.heap.NoLimit := I.ok.mod.nolimit.keeps I.bk
theorem Inv.fr (I : Inv X pins σ H s) : ∃ m, Fr X.base X.env.locals s.heap m :=
  let ⟨m, hn, _⟩ := I.loc
  ⟨m, hn, I.bk, Nat.le_trans I.ok.bsz I.ok.above⟩
theorem Inv.lt (I : Inv X pins σ H s) : X.env.locals < s.heap.objs.size := let ⟨_, hn, _⟩ := I.loc; hn.lt
theorem Inv.sz (I : Inv X pins σ H s) : X.s₀.heap.objs.size ≤ s.heap.objs.size := Nat.le_trans I.ok.above (Nat.le_of_lt I.lt)
theorem Inv.nofs (I : Inv X pins σ H s) {a : Addr} (h : s.heap.objs.size ≤ a) : a ∉ X.fs := fun hb => by
  obtain ⟨_, o, ho, _⟩ := I.ok.funs.mem hb
  exact absurd (Nat.lt_of_lt_of_le (Heap.lt_size ho) (Nat.le_trans I.sz h)) (Nat.lt_irrefl _)
theorem Inv.cne (I : Inv X pins σ H s) : ∀ x c, X.env.cells.lookup x = some c → c ≠ X.env.locals := fun x c e z => by
  obtain ⟨v, o, ho, hd⟩ := I.cell x c e
  obtain ⟨m, ⟨o', es, ep, ho', hd', _⟩, _⟩ := I.loc
  rw [z, ho'] at ho; cases ho; rw [hd'] at hd; cases hd
theorem Inv.funs (I : Inv X pins σ H s) : s.heap.FunFrames X.base X.outer := by
  have all : ∀ (l : List Env), (∀ b ∈ frs l, b ∈ X.fs) → X.s₀.heap.FunFrames X.base l → s.heap.FunFrames X.base l := by
    intro l
    induction l with
    | nil => intro _ _; trivial
    | cons env r ih =>
      intro hs hl
      obtain ⟨hk, ⟨L, o, hf, hn, ho, hd⟩, hr⟩ := hl
      have hL : L ∈ X.fs := hs L (by unfold frs; rw [List.filterMap_cons, hf]; exact List.mem_cons_self)
      obtain ⟨sl, e⟩ := I.base.slot L o ho (I.ok.frf L hL) hL fun z => I.ok.exfs L z hL
      exact ⟨hk, ⟨L, _, hf, hn, e, hd⟩, ih (fun b hb => hs b (by unfold frs; rw [List.filterMap_cons, hf]; exact List.mem_cons_of_mem _ hb)) hr⟩
  exact all X.outer (fun _ hb => hb) I.ok.funs
theorem Inv.stack (I : Inv X pins σ H s) : s.heap.FunFrames X.base X.stack := by
  rcases I.ok.stk with e | ⟨e, hf⟩
  · rw [e]; exact I.funs
  · rw [e]
    obtain ⟨m, hn, _⟩ := I.loc
    refine .cons (by rw [I.ok.kind]; decide) hf hn ?_ I.funs
    exact Heap.get?_none_of_le (Nat.le_trans I.ok.bsz I.ok.above)
theorem Inv.stkSub (I : Inv X pins σ H s) : ∀ b ∈ frs X.stack, b ∈ X.env.locals :: X.fs := fun b hb => by
  rcases I.ok.stk with e | ⟨e, hf⟩
  · rw [e] at hb; exact List.mem_cons_of_mem _ hb
  · rw [e] at hb
    unfold frs at hb
    rw [List.filterMap_cons, hf] at hb
    exact hb
theorem Inv.stkFree (I : Inv X pins σ H s) : ∀ b ∈ frs X.stack, H b = none := fun b hb => by
  rcases List.mem_cons.mp (I.stkSub b hb) with e | hb
  · rw [e]; exact I.free
  · obtain ⟨_, o, ho, _⟩ := I.ok.funs.mem hb
    exact I.base.free b o ho (I.ok.frf b hb) fun z => I.ok.exfs b z hb
theorem Inv.step {g' : Array GenState} {t' : Nat} {d' : Drawn} {ch : List Addr} (I : Inv X pins σ H s)
    (hch : ∀ b ∈ ch, (b ∈ X.ex ∨ X.s₀.heap.objs.size ≤ b) ∧ b ≠ X.env.locals ∧ (∀ x c, X.env.cells.lookup x = some c → c ≠ b) ∧ ∀ p ∈ X.pn ++ pins, p.1 ≠ b)
    (keep : ∀ b o, b ≠ X.env.locals → b ∉ X.fs → b ∉ ch → s.heap.get? b = some o → H b = none → h'.get? b = some o)
    (slot : ∀ b o, b ≠ X.env.locals → b ∈ X.fs → b ∉ ch → s.heap.get? b = some o → H b = none → ∃ sl, h'.get? b = some { o with slots := sl }) (free : ∀ b o, b ∉ ch → s.heap.get? b = some o → H b = none → H' b = none)
    (there : ∀ b o, b ∉ ch → s.heap.get? b = some o → ∃ o', h'.get? b = some o')
    (tups : ∀ b xs, H b = some (.tup xs) → H' b = some (.tup xs)) (frzs : ∀ b o u, H b = some (.frz o u) → H' b = some (.frz o u)) (tbls : ∀ b ps, H b = some (.tbl ps) → ∃ more, H' b = some (.tbl (ps ++ more)))
    (ns : ∀ m, s.heap.Ns X.env.locals m → h'.Ns X.env.locals m) (hok : HOk X.prog X.w H' h') (hg : AllBare g') :
    Inv X pins σ H' { s with heap := h', gens := g', drawn := d', toks := t' } := by
  have neL : ∀ b o, X.s₀.heap.get? b = some o → b ≠ X.env.locals := fun b o e => Nat.ne_of_lt (Nat.lt_of_lt_of_le (Heap.lt_size e) I.ok.above)
  have neC : ∀ b o, X.s₀.heap.get? b = some o → b ∉ X.ex → b ∉ ch := fun b o e hx hb => by
    rcases (hch b hb).1 with z | z
    · exact hx z
    · exact absurd (Nat.lt_of_lt_of_le (Heap.lt_size e) z) (Nat.lt_irrefl _)
  have cellK : ∀ x c, X.env.cells.lookup x = some c → ∀ v, s.heap.IsCell c v → h'.IsCell c v := fun x c e v ⟨o, ho, hd⟩ => by
    have nch : c ∉ ch := fun z => (hch c z).2.2.1 x c e rfl
    by_cases hc : c ∈ X.fs
    · obtain ⟨sl, q⟩ := slot c o (I.cne x c e) hc nch ho (I.freeC x c e)
      exact ⟨_, q, hd⟩
    · exact ⟨o, keep c o (I.cne x c e) hc nch ho (I.freeC x c e), hd⟩
  refine ⟨I.ok, I.os, hg, ⟨fun b o e n hb hx => ?_, fun b o e n hb hx => ?_, fun b o e n hx => ?_, fun b o e hx => ?_, fun b xs e => tups b xs (I.base.tups b xs e), fun b o xs e => frzs b o xs (I.base.frzs b o xs e), fun b ps e => ?_⟩, ?_, fun x c e => ?_, ?_, fun x c e => ?_, fun p hp => ?_, hok, I.len⟩
  · exact keep b o (neL b o e) hb (neC b o e hx) (I.base.keep b o e n hb hx) (I.base.free b o e n hx)
  · obtain ⟨sl, e1⟩ := I.base.slot b o e n hb hx
    obtain ⟨sl', e2⟩ := slot b _ (neL b o e) hb (neC b o e hx) e1 (I.base.free b o e n hx)
    exact ⟨sl', e2⟩
  · obtain ⟨o', e1⟩ := I.base.there b o e hx
    exact free b o' (neC b o e hx) e1 (I.base.free b o e n hx)
  · obtain ⟨o', e1⟩ := I.base.there b o e hx
    exact there b o' (neC b o e hx) e1
  · obtain ⟨m1, e1⟩ := I.base.tbls b ps e
    obtain ⟨m2, e2⟩ := tbls b _ e1
    exact ⟨m1 ++ m2, by rw [e2, Array.append_assoc]⟩
  · obtain ⟨m, hn, hl⟩ := I.loc
    refine ⟨m, ns m hn, fun i x v e1 e2 e3 => ?_⟩
    obtain ⟨u, r, l⟩ := hl i x v e1 e2 e3
    refine ⟨u, r, ?_⟩
    rcases l with l | ⟨k, c, e, z⟩
    · exact .inl l
    · exact .inr ⟨k, c, e, cellK x c e _ z⟩
  · obtain ⟨v, z⟩ := I.cell x c e
    exact ⟨v, cellK x c e v z⟩
  · obtain ⟨m, ⟨o, _, _, ho, _⟩, _⟩ := I.loc
    exact free _ o (fun z => (hch _ z).2.1 rfl) ho I.free
  · obtain ⟨v, o, ho, hd⟩ := I.cell x c e
    exact free c o (fun z => (hch c z).2.2.1 x c e rfl) ho (I.freeC x c e)
  · obtain ⟨e, n, ne, nf, d⟩ := I.pin p hp
    have nch : p.1 ∉ ch := fun z => (hch p.1 z).2.2.2 p hp rfl
    exact ⟨keep p.1 p.2 ne nf nch e n, free p.1 p.2 nch e n, ne, nf, d⟩
theorem Inv.un {t' : Nat} (I : Inv X pins σ H s) (u : Un X.fs [] H H' s.heap h') (hok : HOk X.prog X.w H' h') : Inv X pins σ H' { s with heap := h', toks := t' } := by
  obtain ⟨m, ⟨o, es, ep, ho, r⟩, _⟩ := id I.loc
  obtain ⟨sl, hL⟩ := u.any ho I.free (by simp)
  exact I.step (g' := s.gens) (d' := s.drawn) (ch := []) (fun _ z => nomatch z) (fun b o _ hb _ e n => u.keep b o e n hb (by simp)) (fun b o _ hb _ e n => u.slot b o e n hb (by simp)) (fun b o _ e n => u.free b o e n (by simp)) (fun b o _ e => u.there b o e (by simp)) u.tups u.frzs u.tbls (fun m' hm => by
    obtain ⟨o', es', ep', ho', r'⟩ := hm
    rw [ho] at ho'; cases ho'
    exact ⟨_, es', ep', hL, r'⟩) hok I.bare
theorem Inv.call {g' : Array GenState} {t' : Nat} {d' : Drawn} {ch : List Addr} (I : Inv X pins σ H s) (u : Un (frs X.stack) ch H H' s.heap h') (hok : HOk X.prog X.w H' h') (hg : AllBare g')
    (hch : ∀ b ∈ ch, (b ∈ X.ex ∨ X.s₀.heap.objs.size ≤ b) ∧ b ≠ X.env.locals ∧ (∀ x c, X.env.cells.lookup x = some c → c ≠ b) ∧ ∀ p ∈ X.pn ++ pins, p.1 ≠ b) :
    Inv X pins σ H' { s with heap := h', gens := g', drawn := d', toks := t' } := by
  obtain ⟨m, ⟨o, es, ep, ho, r⟩, _⟩ := id I.loc
  obtain ⟨sl, hL⟩ := u.any ho I.free fun z => (hch _ z).2.1 rfl
  exact I.step (ch := ch) hch (fun b o hL hb hc e n => u.keep b o e n (fun z => (List.mem_cons.mp (I.stkSub b z)).elim hL hb) hc) (fun b o _ _ hc e n => u.any e n hc) (fun b o hc e n => u.free b o e n hc) (fun b o hc e => u.there b o e hc) u.tups u.frzs u.tbls (fun m' hm => by
    obtain ⟨o', es', ep', ho', r'⟩ := hm
    rw [ho] at ho'; cases ho'
    exact ⟨_, es', ep', hL, r'⟩) hok hg
theorem Inv.turned {t' : Nat} {it : Addr} (I : Inv X pins σ H s) (k : ∀ b o, b ≠ it → s.heap.get? b = some o → h'.get? b = some o) (hn : H it = none) (hL : it ≠ X.env.locals)
    (h1 : it ∈ X.ex ∨ X.s₀.heap.objs.size ≤ it) (h2 : ∀ x c, X.env.cells.lookup x = some c → c ≠ it) (h3 : ∀ p ∈ X.pn ++ pins, p.1 ≠ it) : Inv X pins σ H { s with heap := h', toks := t' } := by
  have nit : ∀ b u, H b = some u → b ≠ it := fun b u e z => by rw [z, hn] at e; cases e
  refine I.step (g' := s.gens) (d' := s.drawn) (ch := [it]) (fun b hb => ?_) (fun b o _ _ hc e _ => k b o (fun z => hc (by simp [z])) e) (fun b o _ _ hc e _ => ⟨o.slots, k b o (fun z => hc (by simp [z])) e⟩) (fun _ _ _ _ n => n)
    (fun b o hc e => ⟨o, k b o (fun z => hc (by simp [z])) e⟩) (fun _ _ e => e) (fun _ _ _ e => e) (fun b ps e => ⟨#[], by rw [e]; simp⟩) (fun m hm => ?_) (fun b u e => ?_) I.bare
  · have e : b = it := by simpa using hb
    subst e
    exact ⟨h1, hL, h2, h3⟩
  · obtain ⟨o, es, ep, ho, r⟩ := hm
    exact ⟨o, es, ep, k _ o (Ne.symm hL) ho, r⟩
  · refine (I.hok b u e).stay (fun c v hc q => k c v ?_ q) (fun _ q => q) fun _ _ q => q
    rcases hc with z | z
    · rw [z]; exact nit b u e
    · exact nit c _ z
theorem Inv.tok (I : Inv X pins σ H s) (t : Nat) : Inv X pins σ H { s with toks := t } := I.un (h' := s.heap) (t' := t) Un.refl I.hok
theorem Inv.kept {t' : Nat} (I : Inv X pins σ H s) (k : ∀ b u, s.heap.get? b = some u → h'.get? b = some u) : Inv X pins σ H { s with heap := h', toks := t' } := I.un (Un.kept k) (I.hok.kept k)
theorem Inv.laid {a : Addr} {o : HO} {t' : Nat} (I : Inv X pins σ H s) (k : ∀ b u, s.heap.get? b = some u → h'.get? b = some u) (hp : s.heap.objs.size ≤ a) (new : ObjOk X.prog X.w (upd H a o) h' a o) :
    Inv X pins σ (upd H a o) { s with heap := h', toks := t' } := I.un (Un.laid k hp (I.hok.fresh hp)) (I.hok.laid k hp new)
theorem Inv.write {x e : Addr} {o : HO} {t' : Nat} (I : Inv X pins σ H s) (mu : Mut (H x)) (he : e = x ∨ H e = some (.own x)) (k : ∀ b u, b ≠ e → s.heap.get? b = some u → h'.get? b = some u) (heo : ∃ u, h'.get? e = some u)
    (new : ObjOk X.prog X.w (upd H x o) h' x o) : Inv X pins σ (upd H x o) { s with heap := h', toks := t' } := I.un (Un.write mu he k heo) (I.hok.write mu he k heo new)
theorem Inv.pins_of {pins' : List (Addr × Obj)} (I : Inv X pins σ H s) (h : ∀ p ∈ pins', s.heap.get? p.1 = some p.2 ∧ H p.1 = none ∧ p.1 ≠ X.env.locals ∧ p.1 ∉ X.fs ∧ ∀ v, p.2.data ≠ .cell v) : Inv X pins' σ H s :=
  ⟨I.ok, I.os, I.bare, I.base, I.loc, I.cell, I.free, I.freeC, fun p hp => (List.mem_append.mp hp).elim (fun z => I.pin p (List.mem_append_left _ z)) (h p), I.hok, I.len⟩
theorem nodup_ix {N : List Str} (hN : N.Nodup) {i j : Nat} {x : Str} (a : N[i]? = some x) (b : N[j]? = some x) : i = j := by
  obtain ⟨h1, e1⟩ := List.getElem?_eq_some_iff.mp a
  obtain ⟨h2, e2⟩ := List.getElem?_eq_some_iff.mp b
  exact (List.getElem_inj hN).mp (e1.trans e2.symm)
theorem store_ok2 {M : Model} {A : Around} {E : Value → Shared → Prop} {i : Nat} {x : Str} {v : V} {u : Value} {Q : Unit → Shared → Prop} (I : Inv X pins σ H s) (hN : X.N.Nodup) (hi : X.N[i]? = some x) (hx : Loc X.env.scope x) (r : RelV v u)
    (h : ∀ s', Inv X pins (σ.set i (some v)) H s' → (∃ a, Heap.SameBut a s.heap s'.heap ∧ (a = X.env.locals ∨ X.env.cells.lookup x = some a)) → Q () s') (hf : X.fn x = true ∨ X.env.scope.names.lookup x = some .local := by first | exact .inl rfl | exact .inr rfl | assumption) : wpAny M A (storeName X.env x u) Q E s := by
  obtain ⟨m, hn, hl⟩ := id I.loc
  have hcls : (X.env.scope.kind == .class || (X.env.scope.kind == .module && X.env.locals != X.env.globals)) = false := by rw [I.ok.kind]; rfl
  have hiσ : i < σ.length := by rw [I.len]; exact (List.getElem?_eq_some_iff.mp hi).1
  have cne := I.cne
  have tracked : ∀ {a : Addr} {h' : Heap}, (∃ o, s.heap.get? a = some o ∧ H a = none) → Heap.SameBut a s.heap h' → HOk X.prog X.w H h' := fun {a h'} ha hs b ob e => by
    obtain ⟨_, _, hfree⟩ := ha
    refine (I.hok b ob e).stay (fun c w' hc q => (hs.2 c ?_).trans q) (fun _ q => q) fun _ _ q => q
    rintro rfl
    rcases hc with rfl | hc
    · rw [hfree] at e; cases e
    · rw [hfree] at hc; cases hc
  rcases hx with hk | hk
  · refine wpAny_storeName_local hk hn (fun h' hn' hs => ?_) hcls
    obtain ⟨oL, _, _, hoL, _⟩ := id hn
    refine h _ ⟨I.ok, I.os, I.bare, ⟨fun b o e n hb hx => ?_, fun b o e n hb hx => ?_, I.base.free, fun b o e hx => ?_, I.base.tups, I.base.frzs, I.base.tbls⟩, ⟨_, hn', fun j y v' e1 e2 e3 => ?_⟩, fun y c e => ?_, I.free, I.freeC, fun p hp => ?_, tracked ⟨oL, hoL, I.free⟩ hs, by simpa using I.len⟩ ⟨_, hs, .inl rfl⟩
    · exact (hs.2 b (Nat.ne_of_lt (Nat.lt_of_lt_of_le (Heap.lt_size e) I.ok.above))).trans (I.base.keep b o e n hb hx)
    · obtain ⟨sl, e1⟩ := I.base.slot b o e n hb hx
      exact ⟨sl, (hs.2 b (Nat.ne_of_lt (Nat.lt_of_lt_of_le (Heap.lt_size e) I.ok.above))).trans e1⟩
    · obtain ⟨o', e1⟩ := I.base.there b o e hx
      exact ⟨o', (hs.2 b (Nat.ne_of_lt (Nat.lt_of_lt_of_le (Heap.lt_size e) I.ok.above))).trans e1⟩
    · by_cases hj : j = i
      · subst hj
        rw [hi] at e1; cases e1
        rw [List.getElem?_set_self hiσ] at e2
        cases e2
        exact ⟨u, r, .inl ⟨hk, by simp⟩⟩
      · rw [List.getElem?_set_ne (Ne.symm hj)] at e2
        obtain ⟨u', r', q⟩ := hl j y v' e1 e2 e3
        refine ⟨u', r', ?_⟩
        rcases q with ⟨k, e⟩ | ⟨k, c, e, z⟩
        · refine .inl ⟨k, ?_⟩
          have : y ≠ x := fun e => hj (nodup_ix hN e1 (e ▸ hi))
          simp [this, e]
        · exact .inr ⟨k, c, e, z.sameBut hs (cne y c e)⟩
    · obtain ⟨w', z⟩ := I.cell y c e
      exact ⟨w', z.sameBut hs (cne y c e)⟩
    · obtain ⟨e, n, ne, nf, d⟩ := I.pin p hp
      exact ⟨(hs.2 p.1 ne).trans e, n, ne, nf, d⟩
  · have hfn : X.fn x = true := by
      rcases hf with z | z
      · exact z
      · rw [z] at hk; cases hk
    obtain ⟨c, hc⟩ := I.ok.has x (.inl hk)
    obtain ⟨w', z⟩ := I.cell x c hc
    refine wpAny_storeName_cell I.ok.kind hk hc z (fun h' hc' hs => ?_)
    obtain ⟨oc, hoc, hocd⟩ := id z
    refine h { s with heap := h' } ⟨I.ok, I.os, I.bare, ⟨fun b o e n hb hx => ?_, fun b o e n hb hx => ?_, I.base.free, fun b o e hx => ?_, I.base.tups, I.base.frzs, I.base.tbls⟩, ⟨m, hn.sameBut hs (Ne.symm (cne x c hc)), fun j y v' e1 e2 e3 => ?_⟩, fun y c' e => ?_, I.free, I.freeC, fun p hp => ?_, tracked ⟨oc, hoc, I.freeC x c hc⟩ hs, by simpa using I.len⟩ ⟨c, hs, .inr hc⟩
    · exact (hs.2 b (Nat.ne_of_lt (Nat.lt_of_lt_of_le (Heap.lt_size e) (I.ok.cab x c hfn hc)))).trans (I.base.keep b o e n hb hx)
    · obtain ⟨sl, e1⟩ := I.base.slot b o e n hb hx
      exact ⟨sl, (hs.2 b (Nat.ne_of_lt (Nat.lt_of_lt_of_le (Heap.lt_size e) (I.ok.cab x c hfn hc)))).trans e1⟩
    · obtain ⟨o', e1⟩ := I.base.there b o e hx
      exact ⟨o', (hs.2 b (Nat.ne_of_lt (Nat.lt_of_lt_of_le (Heap.lt_size e) (I.ok.cab x c hfn hc)))).trans e1⟩
    · by_cases hj : j = i
      · subst hj
        rw [hi] at e1; cases e1
        rw [List.getElem?_set_self hiσ] at e2
        cases e2
        exact ⟨u, r, .inr ⟨.inl hk, c, hc, hc'⟩⟩
      · rw [List.getElem?_set_ne (Ne.symm hj)] at e2
        obtain ⟨u', r', q⟩ := hl j y v' e1 e2 e3
        refine ⟨u', r', ?_⟩
        rcases q with q | ⟨k, c', e, z'⟩
        · exact .inl q
        · refine .inr ⟨k, c', e, z'.sameBut hs ?_⟩
          rintro rfl
          exact hj (nodup_ix hN e1 (I.ok.inj _ _ _ e hc ▸ hi))
    · by_cases hcc : c' = c
      · subst hcc; exact ⟨_, hc'⟩
      · obtain ⟨w2, z2⟩ := I.cell y c' e
        exact ⟨w2, z2.sameBut hs hcc⟩
    · obtain ⟨e, n, ne, nf, d⟩ := I.pin p hp
      refine ⟨(hs.2 p.1 ?_).trans e, n, ne, nf, d⟩
      intro q
      rw [q, hoc] at e
      have q' : oc = p.2 := Option.some.inj e
      exact d w' (by rw [← q']; exact hocd)
theorem store_ok {M : Model} {A : Around} {E : Value → Shared → Prop} {i : Nat} {x : Str} {v : V} {u : Value} {Q : Unit → Shared → Prop} (I : Inv X pins σ H s) (hN : X.N.Nodup) (hi : X.N[i]? = some x) (hx : Loc X.env.scope x) (r : RelV v u)
    (h : ∀ s', Inv X pins (σ.set i (some v)) H s' → Q () s') (hf : X.fn x = true ∨ X.env.scope.names.lookup x = some .local := by first | exact .inl rfl | exact .inr rfl | assumption) : wpAny M A (storeName X.env x u) Q E s :=
  store_ok2 I hN hi hx r (fun s' I' _ => h s' I') hf
theorem Inv.call' {s' : Shared} {ch : List Addr} (I : Inv X pins σ H s) (ho : s'.os = s.os) (u : Un (frs X.stack) ch H H' s.heap s'.heap) (hok : HOk X.prog X.w H' s'.heap) (hg : AllBare s'.gens)
    (hch : ∀ b ∈ ch, (b ∈ X.ex ∨ X.s₀.heap.objs.size ≤ b) ∧ b ≠ X.env.locals ∧ (∀ x c, X.env.cells.lookup x = some c → c ≠ b) ∧ ∀ p ∈ X.pn ++ pins, p.1 ≠ b) : Inv X pins σ H' s' := by
  obtain ⟨h', g', d', t', o'⟩ := s'
  have e : o' = s.os := ho
  subst e
  exact I.call (g' := g') (t' := t') (d' := d') u hok hg hch
end
abbrev XK := Value → Option Addr → Hp → Prop
abbrev St := List (Option V)
abbrev VK := V → Hp → Prop
abbrev TE := St → Hp → VK → Prop
abbrev TT := St → Hp → (Bool → Hp → Prop) → Prop
abbrev TA := St → Hp → (List V → Hp → Prop) → Prop
structure Ends where
  nx : St → Hp → Prop
  rt : VK
  bk : St → Hp → Prop := fun _ _ => False
  ct : St → Hp → Prop := fun _ _ => False
abbrev TS := Ends → St → Hp → Prop
def EP (X : Cx) (pins : List (Addr × Obj)) (σ : St) (Q : VK) (u : Value) (s' : Shared) : Prop := ∃ v H', Inv X pins σ H' s' ∧ RelV v u ∧ Q v H'
def TP (X : Cx) (pins : List (Addr × Obj)) (σ : St) (Q : Bool → Hp → Prop) (b : Bool) (s' : Shared) : Prop := ∃ H', Inv X pins σ H' s' ∧ Q b H'
def AP (X : Cx) (pins : List (Addr × Obj)) (σ : St) (Q : List V → Hp → Prop) (us : List Value) (s' : Shared) : Prop := ∃ vs H', Inv X pins σ H' s' ∧ Vals vs us ∧ Q vs H'
def SP (X : Cx) (pins : List (Addr × Obj)) (D : Ends) (f : Flow) (s' : Shared) : Prop :=
  match f with
  | .next => ∃ σ' H', Inv X pins σ' H' s' ∧ D.nx σ' H'
  | .brk => ∃ σ' H', Inv X pins σ' H' s' ∧ D.bk σ' H'
  | .cont => ∃ σ' H', Inv X pins σ' H' s' ∧ D.ct σ' H'
  | .ret u => ∃ v σ' H', Inv X pins σ' H' s' ∧ RelV v u ∧ D.rt v H'
def PE (X : Cx) (e : Expr) (t : TE) : Prop :=
  ∀ (pins : List (Addr × Obj)) (s : Shared) (σ : St) (H : Hp) (Q : VK), Inv X pins σ H s → t σ H Q → wpAny (model X.prog X.w) X.A (eval e X.env) (EP X pins σ Q) X.xe s
def PT (X : Cx) (e : Expr) (t : TT) : Prop :=
  ∀ (pins : List (Addr × Obj)) (s : Shared) (σ : St) (H : Hp) (Q : Bool → Hp → Prop), Inv X pins σ H s → t σ H Q → wpAny (model X.prog X.w) X.A (isTrue e X.env (eval e X.env)) (TP X pins σ Q) X.xe s
def PW (X : Cx) (e : Expr) (t : TT) : Prop :=
  ∀ (whole : Sem Value) (pins : List (Addr × Obj)) (s : Shared) (σ : St) (H : Hp) (Q : Bool → Hp → Prop), Inv X pins σ H s → t σ H Q → wpAny (model X.prog X.w) X.A (isTrue e X.env whole) (TP X pins σ Q) X.xe s
theorem PW.pt {X : Cx} {e : Expr} {t : TT} (h : PW X e t) : PT X e t := h _
def PA (X : Cx) (es : List Expr) (t : TA) : Prop :=
  ∀ (pos : Pos) (pins : List (Addr × Obj)) (s : Shared) (σ : St) (H : Hp) (Q : List V → Hp → Prop), Inv X pins σ H s → t σ H Q → wpAny (model X.prog X.w) X.A (spliced (backTo pos (starEach es X.env))) (AP X pins σ Q) X.xe s
def PS (X : Cx) (st : Stmt) (t : TS) : Prop :=
  ∀ (pins : List (Addr × Obj)) (s : Shared) (σ : St) (H : Hp) (D : Ends), Inv X pins σ H s → t D σ H → wpAny (model X.prog X.w) X.A (exec st X.env) (SP X pins D) X.xe s
def PSs (X : Cx) (st : List Stmt) (t : TS) : Prop :=
  ∀ (pins : List (Addr × Obj)) (s : Shared) (σ : St) (H : Hp) (D : Ends), Inv X pins σ H s → t D σ H → wpAny (model X.prog X.w) X.A (execs st X.env) (SP X pins D) X.xe s
theorem thn {α : Type} {t : Sem α} {Q Q' : α → Shared → Prop} {M : Model} {A : Around} {E : Value → Shared → Prop} {s : Shared} (h : wpAny M A t Q E s) (hQ : ∀ a s, Q a s → Q' a s) : wpAny M A t Q' E s := wpAny_mono h hQ fun _ _ x => x
end L2
namespace L2
open PySem PySem.Spec PyProof.Rows
section
variable {X : Cx}
def tVar (i : Nat) : TE := fun σ H Q => ∃ v, σ[i]? = some (some v) ∧ Q v H
def tC (v : V) : TE := fun _ H Q => Q v H
theorem pe_var {i : Nat} {x : Str} {pos : Pos} (hN : X.N[i]? = some x) (hv : Vis X.env.scope x) (hd : (x == ("__debug__" : Str)) = false := by decide) (hcd : (x == ("__classdict__" : Str)) = false := by decide) : PE X (.Name x pos) (tVar i) := by
  intro pins s σ H Q I h
  obtain ⟨v, e, h⟩ := h
  obtain ⟨m, hn, hl⟩ := I.loc
  obtain ⟨u, r, l⟩ := hl i x v hN e hv
  have fin : EP X pins σ Q u s := ⟨v, H, I, r, h⟩
  rcases l with ⟨hk, hm⟩ | ⟨hk, c, hc, hcell⟩
  · exact wpAny_Name (wpAny_loadName_local I.ok.kind hk hn hm fin) hd
  · rcases hk with hk | hk
    · exact wpAny_Name (wpAny_loadName_cell I.ok.kind hk hc hcell fin) hd
    · exact wpAny_Name (wpAny_loadName_free I.ok.kind hk hc hcell fin hcd) hd
theorem pe_int {i j pos} : PE X (.Constant (.int i) j pos) (tC (.int i)) := fun _ _ _ H _ I h => wpAny_Constant_int ⟨.int i, H, I.tok _, ⟨_, rfl⟩, h⟩
theorem pe_bl {b j pos} : PE X (.Constant (.bool b) j pos) (tC (.bl b)) := fun _ _ _ H _ I h => Constant_bool ⟨.bl b, H, I, rfl, h⟩
theorem pe_non {j pos} : PE X (.Constant .none j pos) (tC .non) := fun _ _ _ H _ I h => Constant_none ⟨.non, H, I, rfl, h⟩
theorem pe_str {x j pos} : PE X (.Constant (.str x) j pos) (tC (.str x)) := fun _ _ _ H _ I h => Calls.Constant_str ⟨.str x, H, I.tok _, ⟨_, rfl⟩, h⟩
def Gl (X : Cx) (x : Str) : Prop := X.env.kindOf x = some .globalImplicit
theorem ld_glob {E : Value → Shared → Prop} {pins : List (Addr × Obj)} {s : Shared} {σ : St} {H : Hp} {x : Str} {u : Value} {pos : Pos} {Q : Value → Shared → Prop} (I : Inv X pins σ H s) (hg : Gl X x) (hm : X.mg x = some u) (h : Q u s)
    (hd : (x == ("__debug__" : Str)) = false := by decide) : wpAny (model X.prog X.w) X.A (eval (.Name x pos) X.env) Q E s :=
  Calls.Name_function_global I.ok.kind hg (Calls.loadGlobal_global (by rw [I.ok.glob]; exact I.mod.glob.keeps I.bk) hm h) hd
theorem ld_blt {E : Value → Shared → Prop} {pins : List (Addr × Obj)} {s : Shared} {σ : St} {H : Hp} {x : Str} {u : Value} {pos : Pos} {Q : Value → Shared → Prop} (I : Inv X pins σ H s) (hg : Gl X x) (hm : X.mg x = none) (hv : bootBuiltins x = some u) (h : Q u s)
    (hn : x ≠ "__name__" := by decide) (hd : (x == ("__debug__" : Str)) = false := by decide) : wpAny (model X.prog X.w) X.A (eval (.Name x pos) X.env) Q E s := by
  obtain ⟨mb, h1, h2⟩ := I.mod.blt
  exact Calls.Name_function_global I.ok.kind hg (Calls.loadGlobal_builtin (by rw [I.ok.glob]; exact I.mod.glob.keeps I.bk) hm (by rw [I.ok.blt]; exact h1.keeps I.bk) ((h2 x hn).trans hv) h) hd
theorem pe_glob {x : Str} {v : V} {u : Value} {pos : Pos} (hg : Gl X x) (hm : X.mg x = some u) (r : RelV v u) (hd : (x == ("__debug__" : Str)) = false := by decide) : PE X (.Name x pos) (tC v) :=
  fun _ _ _ H _ I h => ld_glob I hg hm ⟨v, H, I, r, h⟩ hd
theorem pe_bltn {x : Str} {v : V} {u : Value} {pos : Pos} (hg : Gl X x) (hm : X.mg x = none) (hv : bootBuiltins x = some u) (r : RelV v u) (hn : x ≠ "__name__" := by decide) (hd : (x == ("__debug__" : Str)) = false := by decide) : PE X (.Name x pos) (tC v) :=
  fun _ _ _ H _ I h => ld_blt I hg hm hv ⟨v, H, I, r, h⟩ hn hd
variable {a b : Expr} {ta tb : TE} {pos : Pos}
variable {tA tB' : TT} {rest : List Expr}
def tAnd (t u : TT) : TT := fun σ H Q => t σ H fun c H1 => if c = true then u σ H1 Q else Q false H1
def tOr (t u : TT) : TT := fun σ H Q => t σ H fun c H1 => if c = true then Q true H1 else u σ H1 Q
def tNot (t : TT) : TT := fun σ H Q => t σ H fun c H1 => Q (!c) H1
theorem pw_and1 (ha : PT X a tA) : PW X (.BoolOp .And [a] pos) tA := by
  intro wh pins s σ H Q I h
  refine isTrue_and (thn (ha pins s σ H Q I h) fun c s1 e => ?_)
  cases c with
  | true => exact isTrue_and_nil e
  | false => exact e
theorem pw_or1 (ha : PT X a tA) : PW X (.BoolOp .Or [a] pos) tA := by
  intro wh pins s σ H Q I h
  refine isTrue_or (thn (ha pins s σ H Q I h) fun c s1 e => ?_)
  cases c with
  | false => exact isTrue_or_nil e
  | true => exact e
theorem pw_and (ha : PT X a tA) (hb : PW X (.BoolOp .And (b :: rest) pos) tB') : PW X (.BoolOp .And (a :: b :: rest) pos) (tAnd tA tB') := by
  intro wh pins s σ H Q I h
  refine isTrue_and (thn (ha pins s σ H _ I h) fun c s1 ⟨H1, I1, q1⟩ => ?_)
  cases c with
  | true => exact hb wh pins s1 σ H1 Q I1 q1
  | false => exact ⟨H1, I1, q1⟩
theorem pw_or (ha : PT X a tA) (hb : PW X (.BoolOp .Or (b :: rest) pos) tB') : PW X (.BoolOp .Or (a :: b :: rest) pos) (tOr tA tB') := by
  intro wh pins s σ H Q I h
  refine isTrue_or (thn (ha pins s σ H _ I h) fun c s1 ⟨H1, I1, q1⟩ => ?_)
  cases c with
  | true => exact ⟨H1, I1, q1⟩
  | false => exact hb wh pins s1 σ H1 Q I1 q1
theorem pt_not (ha : PT X a tA) : PT X (.UnaryOp .Not a pos) (tNot tA) := by
  intro pins s σ H Q I h
  exact isTrue_not (ha pins s σ H (fun c H1 => Q (!c) H1) I h)
def tAndV (ta tb : TE) : TE := fun σ H Q => ta σ H fun x H1 => ∃ c, x = .bl c ∧ if c = true then tb σ H1 Q else Q (.bl false) H1
def tNotV (ta : TE) : TE := fun σ H Q => ta σ H fun x H1 => ∃ c, x = .bl c ∧ Q (.bl (!c)) H1
theorem pe_one {op} {t : TE} (h : PE X a t) : PE X (.BoolOp op [a] pos) t := fun pins s σ H Q I hw => BoolOp_one (h pins s σ H Q I hw)
theorem pe_and (ha : PE X a ta) (hb : PE X (.BoolOp .And (b :: rest) pos) tb) : PE X (.BoolOp .And (a :: b :: rest) pos) (tAndV ta tb) := by
  intro pins s σ H Q I h
  refine BoolOp_and (thn (ha pins s σ H _ I h) fun v s1 ⟨x, H1, I1, r1, q1⟩ => ?_)
  obtain ⟨c, rfl, q1⟩ := q1
  cases r1
  refine wpAny_truthy_bool ?_
  cases c with
  | true => exact hb pins s1 σ H1 Q I1 q1
  | false => exact ⟨.bl false, H1, I1, rfl, q1⟩
theorem pe_not (ha : PE X a ta) : PE X (.UnaryOp .Not a pos) (tNotV ta) := by
  intro pins s σ H Q I h
  refine UnaryOp_ (thn (ha pins s σ H _ I h) fun v s1 ⟨x, H1, I1, r1, q1⟩ => ?_)
  obtain ⟨c, rfl, q1⟩ := q1
  cases r1
  exact not_of (wpAny_truthy_bool ⟨.bl (!c), H1, I1, rfl, q1⟩)
end
end L2
namespace L2
open PySem PySem.Spec PyProof.Rows
def SqL (K : PySem.W.Frag) (H : Hp) (a : Addr) (xs : List V) : Prop :=
  Rd H a (.lst xs) ∨
    ∃ (o : Obj) (its : Array Value) (n : Nat), K.lookup a = some o ∧ o.cls = .type "list" ∧ o.dict = none ∧ o.data = .seq its n ∧ its.size ≤ sizeLine ∧ Vals xs its.toList
def SqT (K : PySem.W.Frag) (H : Hp) (a : Addr) (xs : List V) : Prop :=
  Rd H a (.tup xs) ∨
    ∃ (o : Obj) (its : Array Value) (n : Nat), K.lookup a = some o ∧ o.cls = .type "tuple" ∧ o.data = .seq its n ∧ its.size ≤ sizeLine ∧ Vals xs its.toList
def absV : Value → Option V
  | .none => some .non
  | .bool b => some (.bl b)
  | .int i _ => some (.int i)
  | .str x _ => some (.str x)
  | .bytes b _ => some (.byt b)
  | .float b _ => some (.flt b)
  | .ref a => some (.ref a)
  | .type n => some (.ty n)
  | _ => none
theorem RelV.abs {x : V} {u : Value} (r : RelV x u) : absV u = some x := by
  cases x with
  | non => cases r; rfl
  | bl _ => cases r; rfl
  | int _ => obtain ⟨t, rfl⟩ := r; rfl
  | str _ => obtain ⟨t, rfl⟩ := r; rfl
  | byt _ => obtain ⟨t, rfl⟩ := r; rfl
  | flt _ => obtain ⟨t, rfl⟩ := r; rfl
  | ref _ => cases r; rfl
  | ty _ => cases r; rfl
theorem RelV.inj {x y : V} {u : Value} (r : RelV x u) (q : RelV y u) : x = y := Option.some.inj (r.abs.symm.trans q.abs)
theorem Vals.inj : ∀ {xs ys : List V} {us : List Value}, Vals xs us → Vals ys us → xs = ys
  | _, _, _, .nil, .nil => rfl
  | _, _, _, .cons r t, .cons r' t' => by rw [r.inj r', Vals.inj t t']
section
variable {X : Cx} {pins : List (Addr × Obj)} {σ : St} {H : Hp} {s : Shared} {a : Addr} {xs ys : List V}
theorem SqL.of {K : PySem.W.Frag} (h : H a = some (.lst xs)) : SqL K H a xs := .inl (.inl h)
theorem SqT.of {K : PySem.W.Frag} (h : H a = some (.tup xs)) : SqT K H a xs := .inl (.inl h)
theorem Inv.list (I : Inv X pins σ H s) (h : SqL X.K H a xs) : ∃ its : List Value, Vals xs its ∧ PlainL s.heap a its.toArray ∧ xs.length ≤ sizeLine := by
  rcases h with h | ⟨o, its, n, hk, hc, hd, hs, hz, r⟩
  · obtain ⟨z, its, n, r, e⟩ := h.ok I.hok
    exact ⟨its, r, ⟨_, n, e, rfl, rfl, rfl⟩, z⟩
  · refine ⟨its.toList, r, ⟨o, n, I.kIn a o hk, hc, hd, by simpa using hs⟩, ?_⟩
    have e := r.length
    simp only [Array.length_toList] at e
    omega
theorem Inv.tuple (I : Inv X pins σ H s) (h : SqT X.K H a xs) : ∃ its : List Value, Vals xs its ∧ IsTup s.heap a its.toArray ∧ xs.length ≤ sizeLine := by
  rcases h with h | ⟨o, its, n, hk, hc, hs, hz, r⟩
  · obtain ⟨z, its, r, p⟩ := h.ok I.hok
    exact ⟨its, r, p, z⟩
  · refine ⟨its.toList, r, ⟨o, I.kIn a o hk, hc, n, by simpa using hs⟩, ?_⟩
    have e := r.length
    simp only [Array.length_toList] at e
    omega
theorem Inv.list_inj (I : Inv X pins σ H s) (h : SqL X.K H a xs) (h' : SqL X.K H a ys) : xs = ys := by
  obtain ⟨its, r, ⟨o, n, e, _, _, d⟩, _⟩ := I.list h
  obtain ⟨its', r', ⟨o', n', e', _, _, d'⟩, _⟩ := I.list h'
  rw [e] at e'; cases e'
  rw [d] at d'
  injection d' with d1 _
  have : its = its' := by simpa using congrArg Array.toList d1
  subst this
  exact r.inj r'
theorem Inv.tuple_inj (I : Inv X pins σ H s) (h : SqT X.K H a xs) (h' : SqT X.K H a ys) : xs = ys := by
  obtain ⟨its, r, ⟨o, e, _, n, d⟩, _⟩ := I.tuple h
  obtain ⟨its', r', ⟨o', e', _, n', d'⟩, _⟩ := I.tuple h'
  rw [e] at e'; cases e'
  rw [d] at d'
  injection d' with d1 _
  have : its = its' := by simpa using congrArg Array.toList d1
  subst this
  exact r.inj r'
end
abbrev Cx.wish (X : Cx) (E : Value → Shared → Prop) : Cx := { X with xe := E }
abbrev Cx.nox (X : Cx) : Cx := X.wish fun _ _ => False
theorem Cx.Ok.wish {X : Cx} (ok : X.Ok) (E : Value → Shared → Prop) : (X.wish E).Ok :=
  ⟨ok.mod, ok.kind, ok.glob, ok.blt, ok.above, ok.inj, ok.has, ok.cab, ok.hd, ok.frames, ok.stk, ok.exf, ok.bs, ok.bsz, ok.noex, ok.exfs, ok.funs, ok.frf⟩
theorem Cx.Ok.unwish {X : Cx} {E : Value → Shared → Prop} (ok : (X.wish E).Ok) : X.Ok :=
  ⟨ok.mod, ok.kind, ok.glob, ok.blt, ok.above, ok.inj, ok.has, ok.cab, ok.hd, ok.frames, ok.stk, ok.exf, ok.bs, ok.bsz, ok.noex, ok.exfs, ok.funs, ok.frf⟩
section
variable {X : Cx} {pins : List (Addr × Obj)} {σ : St} {H : Hp} {s : Shared} {E : Value → Shared → Prop}
theorem Inv.wish (I : Inv X pins σ H s) (E : Value → Shared → Prop) : Inv (X.wish E) pins σ H s := ⟨I.ok.wish E, I.os, I.bare, I.base, I.loc, I.cell, I.free, I.freeC, I.pin, I.hok, I.len⟩
theorem Inv.unwish (I : Inv (X.wish E) pins σ H s) : Inv X pins σ H s := ⟨I.ok.unwish, I.os, I.bare, I.base, I.loc, I.cell, I.free, I.freeC, I.pin, I.hok, I.len⟩
theorem SP.unwish {D : Ends} {f : Flow} {s' : Shared} (h : SP (X.wish E) pins D f s') : SP X pins D f s' := by
  cases f with
  | next => obtain ⟨σ', H', I, q⟩ := h; exact ⟨σ', H', I.unwish, q⟩
  | brk => obtain ⟨σ', H', I, q⟩ := h; exact ⟨σ', H', I.unwish, q⟩
  | cont => obtain ⟨σ', H', I, q⟩ := h; exact ⟨σ', H', I.unwish, q⟩
  | ret u => obtain ⟨v, σ', H', I, r, q⟩ := h; exact ⟨v, σ', H', I.unwish, r, q⟩
theorem PE.nox {e : Expr} {t : TE} (h : PE X.nox e t) : PE X e t := fun pins s σ H Q I hw =>
  wpAny_mono (h pins s σ H Q (I.wish _) hw) (fun _ _ ⟨v, H', I', r, q⟩ => ⟨v, H', I'.unwish, r, q⟩) fun _ _ z => False.elim z
theorem PT.nox {e : Expr} {t : TT} (h : PT X.nox e t) : PT X e t := fun pins s σ H Q I hw =>
  wpAny_mono (h pins s σ H Q (I.wish _) hw) (fun _ _ ⟨H', I', q⟩ => ⟨H', I'.unwish, q⟩) fun _ _ z => False.elim z
theorem PSs.nox {st : List Stmt} {t : TS} (h : PSs X.nox st t) : PSs X st t := fun pins s σ H D I hw =>
  wpAny_mono (h pins s σ H D (I.wish _) hw) (fun _ _ q => q.unwish) fun _ _ z => False.elim z
end
section
variable {X : Cx} {st : Stmt} {rest : List Stmt} {t u : TS} {e : Expr} {te : TE} {pos : Pos}
def tNext : TS := fun D σ H => D.nx σ H
def tSeq (t u : TS) : TS := fun D σ H => t { D with nx := u D } σ H
theorem pss_nil : PSs X [] tNext := fun _ _ σ H _ I h => wpAny_execs_nil ⟨σ, H, I, h⟩
theorem pss_cons (h1 : PS X st t) (h2 : PSs X rest u) : PSs X (st :: rest) (tSeq t u) := by
  intro pins s σ H D I h
  refine wpAny_execs_cons (thn (h1 pins s σ H { D with nx := u D } I h) fun f s1 q => ?_)
  cases f with
  | next =>
    obtain ⟨σ', H', I', q⟩ := q
    exact h2 pins s1 σ' H' D I' q
  | ret v => exact q
  | brk => exact q
  | cont => exact q
theorem pss_one (h1 : PS X st t) : PSs X [st] t := by
  intro pins s σ H D I h
  refine wpAny_execs_cons (thn (h1 pins s σ H D I h) fun f s1 q => ?_)
  cases f with
  | next => exact wpAny_execs_nil q
  | ret v => exact q
  | brk => exact q
  | cont => exact q
theorem Inv.quiet {pins : List (Addr × Obj)} {σ : St} {H : Hp} {s : Shared} (I : Inv X pins σ H s) : interactive X.env = false := by simp [interactive, I.ok.kind]
def tDrop (te : TE) : TS := fun D σ H => te σ H fun _ H1 => D.nx σ H1
theorem ps_expr (he : PE X e te) (hs : swapsWith e none pos.line X.env = pure false := by rfl) : PS X (.Expr e pos) (tDrop te) := by
  intro pins s σ H D I h
  exact wpAny_Expr_any (thn (he pins s σ H _ I h) fun v s1 ⟨x, H1, I1, r1, q1⟩ => ⟨σ, H1, I1, q1⟩) I.quiet hs
def tRet (te : TE) : TS := fun D σ H => te σ H D.rt
theorem ps_ret (he : PE X e te) : PS X (.Return (some e) pos) (tRet te) := by
  intro pins s σ H D I h
  exact wpAny_Return_some (thn (he pins s σ H _ I h) fun v s1 ⟨x, H1, I1, r1, q1⟩ => ⟨x, σ, H1, I1, r1, q1⟩)
def tIfS (c : TT) (t u : TS) : TS := fun D σ H => c σ H fun b H1 => if b = true then t D σ H1 else u D σ H1
theorem ps_if {c : Expr} {a b : List Stmt} {tc : TT} (hc : PT X c tc) (ha : PSs X a t) (hb : PSs X b u) : PS X (.If c a b pos) (tIfS tc t u) := by
  intro pins s σ H D I h
  refine wpAny_If (thn (hc pins s σ H _ I h) fun d s1 ⟨H1, I1, q1⟩ => ?_)
  cases d with
  | true => exact ha pins s1 σ H1 D I1 q1
  | false => exact hb pins s1 σ H1 D I1 q1
def tNever : TS := fun _ _ _ => False
theorem ps_never : PS X st tNever := fun _ _ _ _ _ _ h => h.elim
end
abbrev TG := V → St → Hp → (St → Hp → Prop) → Prop
abbrev TGs := List V → St → Hp → (St → Hp → Prop) → Prop
def PG (X : Cx) (target : Expr) (t : TG) : Prop :=
  ∀ (pins : List (Addr × Obj)) (s : Shared) (σ : St) (H : Hp) (v : V) (u : Value) (Q : St → Hp → Prop), Inv X pins σ H s → RelV v u → t v σ H Q →
    wpAny (model X.prog X.w) X.A (assign target X.env u) (fun _ s' => ∃ σ' H', Inv X pins σ' H' s' ∧ Q σ' H') X.xe s
def PGs (X : Cx) (ts : List Expr) (t : TGs) : Prop :=
  ∀ (pins : List (Addr × Obj)) (s : Shared) (σ : St) (H : Hp) (vs : List V) (us : List Value) (Q : St → Hp → Prop), Inv X pins σ H s → Vals vs us → t vs σ H Q →
    wpAny (model X.prog X.w) X.A (assignInOrder ((assignEach ts X.env).map (·.2)) us) (fun _ s' => ∃ σ' H', Inv X pins σ' H' s' ∧ Q σ' H') X.xe s
abbrev TSet := V → V → V → Hp → (Hp → Prop) → Prop
def PSet (X : Cx) (t : TSet) : Prop :=
  ∀ (pins : List (Addr × Obj)) (s : Shared) (σ : St) (H : Hp) (o i v : V) (ov iv u : Value) (Q : Hp → Prop), Inv X pins σ H s → RelV o ov → RelV i iv → RelV v u → t o i v H Q →
    wpAny (model X.prog X.w) X.A (setItem ov iv u) (fun _ s' => ∃ H', Inv X pins σ H' s' ∧ Q H') X.xe s
section
variable {X : Cx} {pos : Pos}
def gName (i : Nat) : TG := fun v σ H Q => Q (σ.set i (some v)) H
theorem pg_name {i : Nat} {x : Str} (hN : X.N.Nodup) (hi : X.N[i]? = some x) (hx : Loc X.env.scope x) (hf : X.fn x = true ∨ X.env.scope.names.lookup x = some .local := by first | exact .inl rfl | exact .inr rfl | assumption) : PG X (.Name x pos) (gName i) := by
  intro pins s σ H v u Q I r h
  exact wpAny_assign_Name (store_ok I hN hi hx r (fun s' I' => ⟨_, H, I', h⟩) hf)
def gNil : TGs := fun vs σ H Q => vs = [] ∧ Q σ H
def gCons (t : TG) (u : TGs) : TGs := fun vs σ H Q => ∃ v r, vs = v :: r ∧ t v σ H fun σ' H' => u r σ' H' Q
theorem pgs_nil : PGs X [] gNil := by
  intro pins s σ H vs us Q I r h
  obtain ⟨e, h⟩ := h
  subst e
  cases r
  exact assignInOrder_nil ⟨σ, H, I, h⟩
theorem pgs_cons {e : Expr} {es : List Expr} {t : TG} {u : TGs} (h1 : PG X e t) (h2 : PGs X es u)
    (hs : (assignEach (e :: es) X.env).map (·.2) = assign e X.env :: (assignEach es X.env).map (·.2) := by rfl) : PGs X (e :: es) (gCons t u) := by
  intro pins s σ H vs us Q I r h
  obtain ⟨v, vr, e1, h⟩ := h
  subst e1
  cases r with
  | cons r rr =>
    rw [hs]
    refine assignInOrder_cons (thn (h1 pins s σ H _ _ _ I r h) fun _ s1 ⟨σ1, H1, I1, q1⟩ => ?_)
    exact h2 pins s1 σ1 H1 _ _ Q I1 rr q1
def gTup (K : PySem.W.Frag) (n : Nat) (t : TGs) : TG := fun v σ H Q => ∃ a xs, v = .ref a ∧ SqT K H a xs ∧ xs.length = n ∧ t xs σ H Q
theorem pg_tup {es : List Expr} {k : Nat} {t : TGs} {n : Nat} (hc : X.calm = true) (h : PGs X es t)
    (hn : (assignEach es X.env).length = n := by rfl) (hst : (assignEach es X.env).findIdx? (·.1) = none := by rfl) : PG X (.Tuple es k pos) (gTup X.K n t) := by
  intro pins s σ H v u Q I r hw
  obtain ⟨a, xs, e1, hq, hl, hw⟩ := hw
  subst e1
  cases r
  obtain ⟨its, rv, ht, hz⟩ := I.tuple hq
  refine assign_Tuple_tuple (I.ok.hd hc) ht (by simp [hn, ← hl, rv.length]) hst fun h' hx => ?_
  have I1 : Inv X pins σ H { s with heap := h' } := I.kept (t' := s.toks) fun b o e => hx b o (Nat.ne_of_lt (Heap.lt_size e)) e
  exact h pins _ σ H xs _ Q I1 (by simpa using rv) hw
def gSub (to ti : TE) (t : TSet) : TG := fun v σ H Q => to σ H fun o H1 => ti σ H1 fun i H2 => t o i v H2 fun H3 => Q σ H3
theorem pg_sub {o i : Expr} {to ti : TE} {t : TSet} (ho : PE X o to) (hi : PE X i ti) (hs : PSet X t)
    (ha : ∀ v, assign (.Subscript o i pos) X.env v = (do
      let ov ← holding [v] (eval o X.env)
      let iv ← holding [v, ov] (eval i X.env)
      standAt pos
      holding [v, ov, iv] (setItem ov iv v)
      release [v, ov, iv] []) := by intro _; rfl) : PG X (.Subscript o i pos) (gSub to ti t) := by
  intro pins s σ H v u Q I r h
  rw [ha]
  refine wpAny_bind (wpAny_holding (thn (ho pins s σ H _ I h) fun ov s1 ⟨x, H1, I1, r1, q1⟩ => ?_))
  refine wpAny_bind (wpAny_holding (thn (hi pins s1 σ H1 _ I1 q1) fun iv s2 ⟨y, H2, I2, r2, q2⟩ => ?_))
  refine wpAny_bind (wpAny_standAt (wpAny_bind (wpAny_holding (thn (hs pins s2 σ H2 x y v ov iv u _ I2 r1 r2 r q2) fun _ s3 ⟨H3, I3, q3⟩ => ?_))))
  exact wpAny_release ⟨σ, H3, I3, q3⟩
def tAsg (te : TE) (g : TG) : TS := fun D σ H => te σ H fun x H1 => g x σ H1 D.nx
theorem ps_asg {tg e : Expr} {te : TE} {g : TG} (he : PE X e te) (hg : PG X tg g) (hs : swapsWithSole [tg] e pos.line X.env = pure false := by rfl) (hw : swappedStores [tg] e X.env = pure none := by rfl)
    (h1 : (assignEach [tg] X.env).map (·.2) = [assign tg X.env] := by rfl) : PS X (.Assign [tg] e pos) (tAsg te g) := by
  intro pins s σ H D I h
  refine wpAny_Assign_stores (thn (he pins s σ H _ I h) fun v s1 ⟨x, H1, I1, r1, q1⟩ => ?_) hs hw
  rw [h1]
  exact thn (hg pins s1 σ H1 x v _ I1 r1 q1) fun _ s2 q => q
theorem ps_set {i : Nat} {x : Str} {e : Expr} {te : TE} {pos' : Pos} (hN : X.N.Nodup) (hi : X.N[i]? = some x) (hx : Loc X.env.scope x) (he : PE X e te) (hs : swapsWith e (some (.Name x pos')) pos.line X.env = pure false := by rfl) (hf : X.fn x = true ∨ X.env.scope.names.lookup x = some .local := by first | exact .inl rfl | exact .inr rfl | assumption) :
    PS X (.Assign [.Name x pos'] e pos) (tAsg te (gName i)) := by
  intro pins s σ H D I h
  refine wpAny_Assign_Name (thn (he pins s σ H _ I h) fun v s1 ⟨y, H1, I1, r1, q1⟩ => ?_) hs
  exact store_ok I1 hN hi hx r1 (fun s2 I2 => ⟨_, H1, I2, q1⟩) hf
end
section
variable {X : Cx} {pos : Pos}
def tWhile (c : TT) (tb : TS) : TS := fun D σ H => ∃ W : Nat → St → Hp → Prop, (∃ m, W m σ H) ∧ ∀ m σ H, W m σ H →
  c σ H fun b H1 => if b = true then ∃ N : St → Hp → Prop, (∀ σ' H', N σ' H' → ∃ m', m' < m ∧ W m' σ' H') ∧ tb { D with nx := N, ct := N, bk := D.nx } σ H1 else D.nx σ H1
theorem ps_while {c : Expr} {body : List Stmt} {tc : TT} {tb : TS} (hp : PassesOwn (model X.prog X.w) X.A X.env X.xe) (hc : PT X c tc) (hb : PSs X body tb) : PS X (.While c body [] pos) (tWhile tc tb) := by
  intro pins s σ H D I h
  obtain ⟨W, ⟨m0, w0⟩, turn⟩ := h
  refine wpAny_While (codeAny_whileLoop (fun n s' => ∃ σ' H', Inv X pins σ' H' s' ∧ W n σ' H') ?_ m0 ⟨σ, H, I, w0⟩)
  rintro n s1 ⟨σ1, H1, I1, w1⟩
  refine wpAny_passesOwn hp (thn (hc pins s1 σ1 H1 _ I1 (turn n σ1 H1 w1)) fun b s2 ⟨H2, I2, q2⟩ => ?_)
  cases b with
  | true =>
    obtain ⟨N, hN, q2⟩ := q2
    rw [if_pos rfl]
    refine wpAny_passesOwn hp (thn (hb pins s2 σ1 H2 _ I2 q2) fun f s3 q3 => ?_)
    cases f with
    | next =>
      obtain ⟨σ3, H3, I3, n3⟩ := q3
      obtain ⟨m', hm, w3⟩ := hN σ3 H3 n3
      exact ⟨m', hm, σ3, H3, I3, w3⟩
    | cont =>
      obtain ⟨σ3, H3, I3, n3⟩ := q3
      obtain ⟨m', hm, w3⟩ := hN σ3 H3 n3
      exact ⟨m', hm, σ3, H3, I3, w3⟩
    | brk => exact q3
    | ret v => exact q3
  | false =>
    rw [if_neg Bool.false_ne_true]
    exact wpAny_execs_nil ⟨σ1, H2, I2, q2⟩
end
structure It where
  go : Nat → Hp → Prop
  yld : Nat → Hp → V → Hp → Prop
  stop : Nat → Hp → Prop
def FpOk (X : Cx) (pins : List (Addr × Obj)) (H : Hp) (b : Addr) : Prop :=
  H b = none ∧ b ≠ X.env.locals ∧ b ∉ X.fs ∧ (b ∈ X.ex ∨ X.s₀.heap.objs.size ≤ b) ∧ (∀ x c, X.env.cells.lookup x = some c → c ≠ b) ∧ ∀ p ∈ X.pn ++ pins, p.1 ≠ b
theorem Inv.fpOk {X : Cx} {pins : List (Addr × Obj)} {σ : St} {H H' : Hp} {s : Shared} {b : Addr} (I : Inv X pins σ H s) (hb : s.heap.objs.size ≤ b) (hn : H' b = none) : FpOk X pins H' b := by
  refine ⟨hn, Nat.ne_of_gt (Nat.lt_of_lt_of_le I.lt hb), I.nofs hb, .inr (Nat.le_trans I.sz hb), fun x c e z => ?_, fun p hp z => ?_⟩
  · obtain ⟨v, q⟩ := I.cell x c e
    exact absurd (Nat.lt_of_lt_of_le q.lt (by rw [z]; exact hb)) (Nat.lt_irrefl _)
  · exact absurd (Nat.lt_of_lt_of_le (Heap.lt_size (I.pin p hp).1) (by rw [z]; exact hb)) (Nat.lt_irrefl _)
structure Turn (P : Program) (w : World) (K : PySem.W.Frag) (tg : Expr) (J : It) (fp : List Addr) (it : Addr) (tn : Nat → Heap → Prop) : Prop where
  mem : it ∈ fp
  obj : ∀ i h, tn i h → ∀ b ∈ fp, ∃ o, h.get? b = some o ∧ ∀ v, o.data ≠ .cell v
  keep : ∀ i h h', tn i h → (∀ b ∈ fp, ∀ o, h.get? b = some o → h'.get? b = some o) → tn i h'
  item : ∀ (X : Cx), X.prog = P → X.w = w → X.K = K → X.calm = true → ∀ (i : Nat) (pins : List (Addr × Obj)) (s : Shared) (σ : St) (H : Hp) (E : Value → Shared → Prop), Inv X pins σ H s → (∀ b ∈ fp, FpOk X pins H b) → tn i s.heap → J.go i H →
    wpAny (model P w) X.A (pyNext (.ref it)) (fun r s1 => ∃ u, r = some u ∧
      wpAny (model P w) X.A (letOwnedTupleGo tg (.ref it) u) (fun _ s2 => ∃ x H', Inv X pins σ H' s2 ∧ RelV x u ∧ J.yld i H x H' ∧ tn (i + 1) s2.heap ∧ ∀ b ∈ fp, H' b = none) E s1) E s
  done : ∀ (X : Cx), X.prog = P → X.w = w → X.K = K → X.calm = true → ∀ (i : Nat) (pins : List (Addr × Obj)) (s : Shared) (σ : St) (H : Hp) (E : Value → Shared → Prop), Inv X pins σ H s → (∀ b ∈ fp, FpOk X pins H b) → tn i s.heap → J.stop i H →
    wpAny (model P w) X.A (pyNext (.ref it)) (fun r s1 => r = none ∧ Inv X pins σ H s1) E s
  self : ∀ (A : Around) (i : Nat) (s : Shared) (Q : Value → Shared → Prop) (E : Value → Shared → Prop), tn i s.heap → Q (.ref it) s → wpAny (model P w) A (pyIter (.ref it)) Q E s
abbrev TI := St → Hp → (It → Hp → Prop) → Prop
def PIE (X : Cx) (pins : List (Addr × Obj)) (σ : St) (tg : Expr) (R : It → Hp → Prop) (itv : Value) (s2 : Shared) : Prop :=
  ∃ (it : Addr) (fp : List Addr) (tn : Nat → Heap → Prop) (J : It) (H' : Hp), itv = .ref it ∧ Inv X pins σ H' s2 ∧ Turn X.prog X.w X.K tg J fp it tn ∧ tn 0 s2.heap ∧ (∀ b ∈ fp, FpOk X pins H' b) ∧ R J H'
def PI (X : Cx) (tg iter : Expr) (wi : TI) : Prop :=
  ∀ (pins : List (Addr × Obj)) (s : Shared) (σ : St) (H : Hp) (R : It → Hp → Prop), Inv X pins σ H s → wi σ H R →
    wpAny (model X.prog X.w) X.A (eval iter X.env) (fun v s1 => wpAny (model X.prog X.w) X.A (pyIter v) (PIE X pins σ tg R) X.xe s1) X.xe s
theorem go_of {M : Model} {A : Around} {E : Value → Shared → Prop} {s : Shared} {tg : Expr} {it : Addr} {u : Value} {o : Obj} {n : String} {vs : Array Value} {Q : Unit → Shared → Prop} (ho : s.heap.get? it = some o) (hc : o.cls = .type n) (hd : o.data = .fields vs)
    (hn : ["enumerate", "zip", "dict_itemiterator", "dict_reverseitemiterator", "odict_iterator", "itertools.zip_longest", "itertools.pairwise"].contains n = false) (hQ : Q () s) : wpAny M A (letOwnedTupleGo tg (.ref it) u) Q E s := by
  unfold letOwnedTupleGo
  cases tg <;> first
    | exact wpAny_pure hQ
    | (cases u <;> first
        | exact wpAny_pure hQ
        | (refine wpAny_bind (wpAny_load ho ?_)
           rw [hc, hd]
           show wpAny M A (if (["enumerate", "zip", "dict_itemiterator", "dict_reverseitemiterator", "odict_iterator", "itertools.zip_longest", "itertools.pairwise"].contains n && vs[0]? == some (rawInt _)) = true then _ else _) Q E s
           rw [if_neg (by intro h; rw [hn, Bool.false_and] at h; cases h)]
           exact wpAny_pure hQ))
def Itl (K : PySem.W.Frag) (a : Addr) : It :=
  ⟨fun i H => ∃ xs x, SqL K H a xs ∧ xs[i]? = some x, fun i H x H' => H' = H ∧ ∀ xs, SqL K H a xs → xs[i]? = some x, fun i H => ∃ xs, SqL K H a xs ∧ xs.length ≤ i⟩
def Itt (K : PySem.W.Frag) (a : Addr) : It :=
  ⟨fun i H => ∃ xs x, SqT K H a xs ∧ xs[i]? = some x, fun i H x H' => H' = H ∧ ∀ xs, SqT K H a xs → xs[i]? = some x, fun i H => ∃ xs, SqT K H a xs ∧ xs.length ≤ i⟩
def Itr (lo : Int) (n : Nat) : It := ⟨fun i _ => i < n, fun i H x H' => H' = H ∧ x = .int (lo + i), fun i _ => n ≤ i⟩
theorem turn_list {P : Program} {w : World} {K : PySem.W.Frag} {tg : Expr} (a it : Addr) : Turn P w K tg (Itl K a) [it] it (fun i h => h.IsListIter it a i) where
  mem := by simp
  obj := fun i h st b hb => by
    have e : b = it := by simpa using hb
    subst e
    obtain ⟨o, e, c, d⟩ := st
    exact ⟨o, e, fun v z => by rw [d] at z; cases z⟩
  keep := fun i h h' st k => st.at fun o e => k it (by simp) o e
  item := by
    intro X hP hw hK hc i pins s σ H E I hf st hg
    subst hP hw hK
    obtain ⟨xs, x, hq, hx⟩ := hg
    obtain ⟨its, rv, p, hz⟩ := I.list hq
    obtain ⟨u, hu, ru⟩ := rv.get hx
    obtain ⟨f0, f1, f2, f3, f4, f5⟩ := hf it (by simp)
    refine wpAny_pyNext_list_item st p.isList (x := u) (by simpa using hu) fun h' st' sb => ?_
    have I1 : Inv X pins σ H { s with heap := h' } := I.turned (t' := s.toks) (fun b o hb e => (sb.2 b hb).trans e) f0 f1 f3 f4 f5
    obtain ⟨o, e, c, d⟩ := id st'
    exact ⟨u, rfl, go_of (s := { s with heap := h' }) e c d (by decide) ⟨x, H, I1, ru, ⟨rfl, fun ys hy => by rw [I.list_inj hy hq]; exact hx⟩, st', fun b hb => (hf b hb).1⟩⟩
  done := by
    intro X hP hw hK hc i pins s σ H E I hf st hg
    subst hP hw hK
    obtain ⟨xs, hq, hx⟩ := hg
    obtain ⟨its, rv, p, hz⟩ := I.list hq
    obtain ⟨f0, f1, f2, f3, f4, f5⟩ := hf it (by simp)
    have hl := rv.length
    exact wpAny_pyNext_list_end (I.ok.hd hc) st p.isList (by simp; omega) fun h' eb => ⟨rfl, I.turned (t' := s.toks) (fun b o hb e => eb b o hb e) f0 f1 f3 f4 f5⟩
  self := fun _ _ _ _ _ st h => wpAny_pyIter_listiter st h
theorem turn_tuple {P : Program} {w : World} {K : PySem.W.Frag} {tg : Expr} (a it : Addr) : Turn P w K tg (Itt K a) [it] it (fun i h => h.IsTupleIter it a i) where
  mem := by simp
  obj := fun i h st b hb => by
    have e : b = it := by simpa using hb
    subst e
    obtain ⟨o, e, c, d⟩ := st
    exact ⟨o, e, fun v z => by rw [d] at z; cases z⟩
  keep := fun i h h' st k => st.at fun o e => k it (by simp) o e
  item := by
    intro X hP hw hK hc i pins s σ H E I hf st hg
    subst hP hw hK
    obtain ⟨xs, x, hq, hx⟩ := hg
    obtain ⟨its, rv, p, hz⟩ := I.tuple hq
    obtain ⟨u, hu, ru⟩ := rv.get hx
    obtain ⟨f0, f1, f2, f3, f4, f5⟩ := hf it (by simp)
    refine wpAny_pyNext_tuple_item st (show s.heap.IsTuple a its.toArray from p) (x := u) (by simpa using hu) fun h' st' sb => ?_
    have I1 : Inv X pins σ H { s with heap := h' } := I.turned (t' := s.toks) (fun b o hb e => (sb.2 b hb).trans e) f0 f1 f3 f4 f5
    obtain ⟨o, e, c, d⟩ := id st'
    exact ⟨u, rfl, go_of (s := { s with heap := h' }) e c d (by decide) ⟨x, H, I1, ru, ⟨rfl, fun ys hy => by rw [I.tuple_inj hy hq]; exact hx⟩, st', fun b hb => (hf b hb).1⟩⟩
  done := by
    intro X hP hw hK hc i pins s σ H E I hf st hg
    subst hP hw hK
    obtain ⟨xs, hq, hx⟩ := hg
    obtain ⟨its, rv, p, hz⟩ := I.tuple hq
    obtain ⟨f0, f1, f2, f3, f4, f5⟩ := hf it (by simp)
    have hl := rv.length
    exact wpAny_pyNext_tuple_end (I.ok.hd hc) st (show s.heap.IsTuple a its.toArray from p) (by simp; omega) fun h' eb => ⟨rfl, I.turned (t' := s.toks) (fun b o hb e => eb b o hb e) f0 f1 f3 f4 f5⟩
  self := fun _ _ _ _ _ st h => wpAny_pyIter_tupleiter st h
theorem turn_range {P : Program} {w : World} {K : PySem.W.Frag} {tg : Expr} (it : Addr) (lo : Int) (n : Nat) : Turn P w K tg (Itr lo n) [it] it (fun i h => IsRangeIter h it (lo + (i : Nat) * 1) ((n : Int) - (i : Nat)) 1) where
  mem := by simp
  obj := fun i h st b hb => by
    have e : b = it := by simpa using hb
    subst e
    exact ⟨_, st, fun v z => by
      have z' : Data.fields _ = Data.cell v := z
      cases z'⟩
  keep := fun i h h' st k => k it (by simp) _ st
  item := by
    intro X hP hw hK hc i pins s σ H E I hf st hg
    subst hP hw hK
    obtain ⟨f0, f1, f2, f3, f4, f5⟩ := hf it (by simp)
    have W := Walks.range (prog := X.prog) (w := X.w) (I.ok.hd hc) it lo 1 n
    refine W.item i s _ _ hg st fun v h' tk hv st' kk => ?_
    obtain ⟨t, rfl⟩ := hv
    have I1 : Inv X pins σ H { s with heap := h', toks := tk } := I.turned (fun b o hb e => kk b o (by simpa using hb) e) f0 f1 f3 f4 f5
    refine ⟨_, rfl, go_of (s := { s with heap := h', toks := tk }) (n := "range_iterator") st' rfl rfl (by decide) ⟨.int (lo + i), H, I1, ⟨t, ?_⟩, ⟨rfl, rfl⟩, st', fun b hb => (hf b hb).1⟩⟩
    rw [Int.mul_one]
  done := by
    intro X hP hw hK hc i pins s σ H E I hf st hg
    subst hP hw hK
    obtain ⟨f0, f1, f2, f3, f4, f5⟩ := hf it (by simp)
    exact wpAny_pyNext_range_end (I.ok.hd hc) st (by have : n ≤ i := hg; omega) fun h' eb => ⟨rfl, I.turned (t' := s.toks) (fun b o hb e => eb b o hb e) f0 f1 f3 f4 f5⟩
  self := fun _ _ _ _ _ st h => wpAny_pyIter_rangeiter st h
end L2
namespace L2
open PySem PySem.Spec PyProof.Rows
section
variable {X : Cx} {tg : Expr}
def iList (K : PySem.W.Frag) (tl : TE) : TI := fun σ H R => tl σ H fun x H1 => ∃ a, x = .ref a ∧ (∃ xs, SqL K H1 a xs) ∧ R (Itl K a) H1
def iTup (K : PySem.W.Frag) (tl : TE) : TI := fun σ H R => tl σ H fun x H1 => ∃ a, x = .ref a ∧ (∃ xs, SqT K H1 a xs) ∧ R (Itt K a) H1
theorem pi_list {l : Expr} {tl : TE} (hl : PE X l tl) : PI X tg l (iList X.K tl) := by
  intro pins s σ H R I h
  refine thn (hl pins s σ H _ I h) fun v s1 ⟨x, H1, I1, r1, q1⟩ => ?_
  obtain ⟨a, e, ⟨xs, hq⟩, q⟩ := q1
  subst e
  cases r1
  obtain ⟨its, rv, p, hz⟩ := I1.list hq
  refine wpAny_pyIter_list p.isList ?_
  refine ⟨s1.heap.objs.size, [s1.heap.objs.size], _, _, H1, rfl, I1.kept (t' := s1.toks) fun b o e => Heap.get?_push_of_some _ e, turn_list a _, ⟨_, Heap.get?_push_size _ rfl, rfl, rfl⟩, fun b hb => ?_, q⟩
  have e : b = s1.heap.objs.size := by simpa using hb
  subst e
  exact I1.fpOk (Nat.le_refl _) (I1.hok.fresh (Nat.le_refl _))
theorem pi_tup {l : Expr} {tl : TE} (hl : PE X l tl) : PI X tg l (iTup X.K tl) := by
  intro pins s σ H R I h
  refine thn (hl pins s σ H _ I h) fun v s1 ⟨x, H1, I1, r1, q1⟩ => ?_
  obtain ⟨a, e, ⟨xs, hq⟩, q⟩ := q1
  subst e
  cases r1
  obtain ⟨its, rv, p, hz⟩ := I1.tuple hq
  refine wpAny_pyIter_tuple (show s1.heap.IsTuple a its.toArray from p) ?_
  refine ⟨s1.heap.objs.size, [s1.heap.objs.size], _, _, H1, rfl, I1.kept (t' := s1.toks) fun b o e => Heap.get?_push_of_some _ e, turn_tuple a _, ⟨_, Heap.get?_push_size _ rfl, rfl, rfl⟩, fun b hb => ?_, q⟩
  have e : b = s1.heap.objs.size := by simpa using hb
  subst e
  exact I1.fpOk (Nat.le_refl _) (I1.hok.fresh (Nat.le_refl _))
theorem range_it {pins : List (Addr × Obj)} {σ : St} {H : Hp} {s : Shared} {R : It → Hp → Prop} {E : Value → Shared → Prop} {lo hi : Int} {t u v : Tok} {tk : Nat} (I : Inv X pins σ H s) (h1 : -(2 ^ 62) ≤ lo) (h2 : lo < 2 ^ 62) (h3 : -(2 ^ 62) ≤ hi) (h4 : hi < 2 ^ 62)
    (q : R (Itr lo (hi - lo).toNat) H) : wpAny (model X.prog X.w) X.A (pyIter (.ref s.heap.objs.size)) (PIE X pins σ tg R) E { s with heap := s.heap.push { cls := .type "range", data := .fields #[.int lo t, .int hi u, .int 1 v] }, toks := tk } := by
  refine wpAny_pyIter_range (IsRange.new ..) (small_one h1 h2 h3 h4) ?_
  have I1 : Inv X pins σ H { s with heap := s.heap.push { cls := .type "range", data := .fields #[.int lo t, .int hi u, .int 1 v] }, toks := tk } := I.kept fun b o e => Heap.get?_push_of_some _ e
  refine ⟨(s.heap.push { cls := .type "range", data := .fields #[.int lo t, .int hi u, .int 1 v] }).objs.size, [(s.heap.push { cls := .type "range", data := .fields #[.int lo t, .int hi u, .int 1 v] }).objs.size], _, _, H, rfl,
    I1.kept (t' := tk) fun b o e => Heap.get?_push_of_some _ e, turn_range _ lo (hi - lo).toNat, ?_, fun b hb => ?_, q⟩
  · have e1 : lo + ((0 : Nat) : Int) * 1 = lo := by simp
    have e2 : (((hi - lo).toNat : Nat) : Int) - ((0 : Nat) : Int) = Builtin.Range.rangeSize lo hi 1 := by rw [rangeSize_one]; split <;> omega
    show IsRangeIter _ _ (lo + ((0 : Nat) : Int) * 1) ((((hi - lo).toNat : Nat) : Int) - ((0 : Nat) : Int)) 1
    rw [e1, e2]
    exact Heap.get?_push_size _ rfl
  · have e : b = (s.heap.push { cls := .type "range", data := .fields #[.int lo t, .int hi u, .int 1 v] }).objs.size := by simpa using hb
    subst e
    exact I1.fpOk (Nat.le_refl _) (I1.hok.fresh (Nat.le_refl _))
def iRng1 (ta : TA) : TI := fun σ H R => ta σ H fun vs H1 => ∃ j : Int, vs = [.int j] ∧ -(2 ^ 62) ≤ j ∧ j < 2 ^ 62 ∧ R (Itr 0 j.toNat) H1
def iRng2 (ta : TA) : TI := fun σ H R => ta σ H fun vs H1 => ∃ i j : Int, vs = [.int i, .int j] ∧ (-(2 ^ 62) ≤ i ∧ i < 2 ^ 62 ∧ -(2 ^ 62) ≤ j ∧ j < 2 ^ 62) ∧ R (Itr i (j - i).toNat) H1
theorem pi_range1 {a : Expr} {ta : TA} {p pos : Pos} (hg : Gl X "range") (hm : X.mg "range" = none) (ha : PA X [a] ta) (hs : starEach [a] X.env = [(false, eval a X.env)] := by rfl) : PI X tg (.Call (.Name "range" p) [a] [] pos) (iRng1 ta) := by
  intro pins s σ H R I h
  refine Call_ (ld_blt I hg hm boot_range (PyProof.Rows.callWith_type1 (thn (ha pos pins s σ H _ I h) fun us s1 ⟨vs, H1, I1, r1, q1⟩ => ?_) hs rfl))
  obtain ⟨j, e, q1, q2, q⟩ := q1
  subst e
  cases r1 with
  | cons r rr =>
    cases rr
    obtain ⟨t, rfl⟩ := r
    exact call_range_1 (range_it I1 (by omega) (by omega) q1 q2 (by simpa using q))
theorem pi_range2 {a b : Expr} {ta : TA} {p pos : Pos} (hg : Gl X "range") (hm : X.mg "range" = none) (ha : PA X [a, b] ta) (hs : starEach [a, b] X.env = [(false, eval a X.env), (false, eval b X.env)] := by rfl) (hs2 : starEach [b] X.env = [(false, eval b X.env)] := by rfl) :
    PI X tg (.Call (.Name "range" p) [a, b] [] pos) (iRng2 ta) := by
  intro pins s σ H R I h
  refine Call_ (ld_blt I hg hm boot_range (PyProof.Rows.callWith_type1 (thn (ha pos pins s σ H _ I h) fun us s1 ⟨vs, H1, I1, r1, q1⟩ => ?_) (by rw [hs, hs2]) (by rw [hs2]; rfl)))
  obtain ⟨i, j, e, ⟨q1, q2, q3, q4⟩, q⟩ := q1
  subst e
  cases r1 with
  | cons r rr =>
    cases rr with
    | cons r' rr =>
      cases rr
      obtain ⟨t, rfl⟩ := r
      obtain ⟨t', rfl⟩ := r'
      exact call_range_2 (range_it I1 q1 q2 q3 q4 q)
def tFor (wi : TI) (g : TG) (tb : TS) : TS := fun D σ H => wi σ H fun J H1 => ∃ W : Nat → Nat → St → Hp → Prop, (∃ m, W 0 m σ H1) ∧ ∀ i m σ H, W i m σ H →
  (J.stop i H ∧ D.nx σ H) ∨ (J.go i H ∧ ∃ N : St → Hp → Prop, (∀ σ' H', N σ' H' → ∃ m', m' < m ∧ W (i + 1) m' σ' H') ∧ ∀ x H', J.yld i H x H' → g x σ H' fun σ2 H2 => tb { D with nx := N, ct := N, bk := D.nx } σ2 H2)
def pinsAt (fp : List Addr) (h : Heap) : List (Addr × Obj) := fp.filterMap fun b => (h.get? b).map fun o => (b, o)
theorem mem_pinsAt {fp : List Addr} {h : Heap} {b : Addr} {o : Obj} (hb : b ∈ fp) (e : h.get? b = some o) : (b, o) ∈ pinsAt fp h := List.mem_filterMap.mpr ⟨b, hb, by rw [e]; rfl⟩
theorem of_pinsAt {fp : List Addr} {h : Heap} {p : Addr × Obj} (hp : p ∈ pinsAt fp h) : p.1 ∈ fp ∧ h.get? p.1 = some p.2 := by
  obtain ⟨b, hb, e⟩ := List.mem_filterMap.mp hp
  cases q : h.get? b with
  | none => rw [q] at e; cases e
  | some o =>
    rw [q] at e
    have e' : (b, o) = p := Option.some.inj e
    subst e'
    exact ⟨hb, q⟩
theorem Inv.pinned {pins : List (Addr × Obj)} {σ : St} {H : Hp} {s : Shared} {fp : List Addr} (I : Inv X pins σ H s) (hf : ∀ b ∈ fp, FpOk X pins H b) (ho : ∀ b ∈ fp, ∃ o, s.heap.get? b = some o ∧ ∀ v, o.data ≠ .cell v) : Inv X (pins ++ pinsAt fp s.heap) σ H s :=
  I.pins_of fun p hp => (List.mem_append.mp hp).elim (fun z => I.pin p (List.mem_append_right _ z)) fun z => by
    obtain ⟨hb, e⟩ := of_pinsAt z
    obtain ⟨f0, f1, f2, _⟩ := hf p.1 hb
    obtain ⟨o, e', d⟩ := ho p.1 hb
    rw [e] at e'; cases e'
    exact ⟨e, f0, f1, f2, d⟩
theorem Inv.unpinned {pins pl : List (Addr × Obj)} {σ : St} {H : Hp} {s : Shared} (I : Inv X (pins ++ pl) σ H s) : Inv X pins σ H s := I.pins_of fun p hp => I.pin p (List.mem_append_right _ (List.mem_append_left _ hp))
theorem ps_for {iter : Expr} {body : List Stmt} {wi : TI} {g : TG} {tb : TS} {pos : Pos} (hp : PassesOwn (model X.prog X.w) X.A X.env X.xe) (hc : X.calm = true) (hi : PI X tg iter wi) (hg : PG X tg g) (hb : PSs X body tb)
    (hs : ∀ x, foldedSetIterable iter X.env x = pure x := by intro _; rfl) : PS X (.For tg iter body [] pos) (tFor wi g tb) := by
  intro pins s σ H D I h
  refine wpAny_For (thn (hi pins s σ H _ I h) fun v s1 h1 => thn h1 fun itv s2 h2 => ?_) hs
  obtain ⟨it, fp, tn, J, H2, e, I2, T, st2, f2, W, ⟨m0, w0⟩, turn⟩ := h2
  subst e
  have stat : ∀ {H' : Hp}, (∀ b ∈ fp, H' b = none) → ∀ b ∈ fp, FpOk X pins H' b := fun hn b hb => ⟨hn b hb, (f2 b hb).2⟩
  refine codeAny_forLoop_any (fun n s' => ∃ i σ' H', Inv X pins σ' H' s' ∧ tn i s'.heap ∧ (∀ b ∈ fp, H' b = none) ∧ W i n σ' H') ?_ m0 ⟨0, σ, H2, I2, st2, fun b hb => (f2 b hb).1, w0⟩
  rintro n s3 ⟨i, σ3, H3, I3, st3, fr3, w3⟩
  rcases turn i n σ3 H3 w3 with ⟨stop, qn⟩ | ⟨go, N, hN, step⟩
  · refine wpAny_passesOwn hp (thn (T.done X rfl rfl rfl hc i pins s3 σ3 H3 X.xe I3 (stat fr3) st3 stop) fun r s4 ⟨hr, I4⟩ => ?_)
    subst hr
    exact wpAny_execs_nil ⟨σ3, H3, I4, qn⟩
  · refine wpAny_passesOwn hp (thn (T.item X rfl rfl rfl hc i pins s3 σ3 H3 X.xe I3 (stat fr3) st3 go) fun r s4 ⟨u, hr, h4⟩ => ?_)
    subst hr
    refine wpAny_passesOwn hp (thn h4 fun _ s5 ⟨x, H5, I5, r5, y5, st5, fr5⟩ => ?_)
    have I5' := I5.pinned (stat fr5) (T.obj _ _ st5)
    refine wpAny_passesOwn hp (thn (hg _ s5 σ3 H5 x u _ I5' r5 (step x H5 y5)) fun _ s6 ⟨σ6, H6, I6, q6⟩ => ?_)
    refine wpAny_passesOwn hp (thn (hb _ s6 σ6 H6 _ I6 q6) fun f s7 q7 => ?_)
    have again : ∀ {σ7 : St} {H7 : Hp}, Inv X (pins ++ pinsAt fp s5.heap) σ7 H7 s7 → N σ7 H7 → ∃ m, m < n ∧ ∃ i σ' H', Inv X pins σ' H' s7 ∧ tn i s7.heap ∧ (∀ b ∈ fp, H' b = none) ∧ W i m σ' H' := fun {σ7 H7} I7 n7 => by
      obtain ⟨m', hm, w7⟩ := hN σ7 H7 n7
      refine ⟨m', hm, i + 1, σ7, H7, I7.unpinned, T.keep _ _ _ st5 fun b hb o e => (I7.pin (b, o) (List.mem_append_right _ (List.mem_append_right _ (mem_pinsAt hb e)))).1, fun b hb => ?_, w7⟩
      obtain ⟨o, e, d⟩ := T.obj _ _ st5 b hb
      exact (I7.pin (b, o) (List.mem_append_right _ (List.mem_append_right _ (mem_pinsAt hb e)))).2.1
    cases f with
    | next => obtain ⟨σ7, H7, I7, n7⟩ := q7; exact again I7 n7
    | cont => obtain ⟨σ7, H7, I7, n7⟩ := q7; exact again I7 n7
    | brk => obtain ⟨σ7, H7, I7, q7⟩ := q7; exact ⟨σ7, H7, I7.unpinned, q7⟩
    | ret v => obtain ⟨x7, σ7, H7, I7, r7, q7⟩ := q7; exact ⟨x7, σ7, H7, I7.unpinned, r7, q7⟩
end
end L2
namespace L2
open PySem PySem.Spec PyProof.Rows
abbrev R2 := V → V → Hp → VK → Prop
def OpR (X : Cx) (f : Value → Value → Sem Value) (r : R2) : Prop :=
  ∀ (pins : List (Addr × Obj)) (s : Shared) (σ : St) (H : Hp) (x y : V) (v u : Value) (Q : VK), Inv X pins σ H s → RelV x v → RelV y u → r x y H Q →
    wpAny (model X.prog X.w) X.A (f v u) (EP X pins σ Q) X.xe s
def UnR (X : Cx) (f : Value → Sem Value) (r : V → Hp → VK → Prop) : Prop :=
  ∀ (pins : List (Addr × Obj)) (s : Shared) (σ : St) (H : Hp) (x : V) (v : Value) (Q : VK), Inv X pins σ H s → RelV x v → r x H Q →
    wpAny (model X.prog X.w) X.A (f v) (EP X pins σ Q) X.xe s
def CallR (X : Cx) (f : Value) (r : List V → Hp → VK → Prop) : Prop :=
  ∀ (pins : List (Addr × Obj)) (s : Shared) (σ : St) (H : Hp) (xs : List V) (us : List Value) (Q : VK), Inv X pins σ H s → Vals xs us → r xs H Q →
    wpAny (model X.prog X.w) X.A (call f us) (EP X pins σ Q) X.xe s
def TruR (X : Cx) (r : V → Hp → (Bool → Hp → Prop) → Prop) : Prop :=
  ∀ (pins : List (Addr × Obj)) (s : Shared) (σ : St) (H : Hp) (x : V) (v : Value) (Q : Bool → Hp → Prop), Inv X pins σ H s → RelV x v → r x H Q →
    wpAny (model X.prog X.w) X.A (truthy v) (TP X pins σ Q) X.xe s
def tOp (r : R2) (ta tb : TE) : TE := fun σ H Q => ta σ H fun x H1 => tb σ H1 fun y H2 => r x y H2 Q
def tUn (r : V → Hp → VK → Prop) (ta : TE) : TE := fun σ H Q => ta σ H fun x H1 => r x H1 Q
def rI (C : Int → Int → Prop) (g : Int → Int → V) : R2 := fun x y H Q => ∃ i j, x = .int i ∧ y = .int j ∧ C i j ∧ Q (g i j) H
def rI0 (g : Int → Int → V) : R2 := fun x y H Q => ∃ i j, x = .int i ∧ y = .int j ∧ Q (g i j) H
def rU (g : Int → V) : V → Hp → VK → Prop := fun x H Q => ∃ i, x = .int i ∧ Q (g i) H
section
variable {X : Cx} {a b c : Expr} {ta tb tc : TE} {pos : Pos}
theorem binT (ha : PE X a ta) (hb : PE X b tb) {pins : List (Addr × Obj)} {s : Shared} {σ : St} {H : Hp} {R : V → V → Hp → Prop} (I : Inv X pins σ H s)
    (h : ta σ H fun x H1 => tb σ H1 fun y H2 => R x y H2) {Q : Value → Shared → Prop} {f : Value → Value → Sem Value}
    (hf : ∀ v u s2 x y H2, Inv X pins σ H2 s2 → RelV x v → RelV y u → R x y H2 → wpAny (model X.prog X.w) X.A (f v u) Q X.xe s2) :
    wpAny (model X.prog X.w) X.A (eval a X.env) (fun v s₁ => wpAny (model X.prog X.w) X.A (eval b X.env) (fun u s₂ => wpAny (model X.prog X.w) X.A (f v u) Q X.xe s₂) X.xe s₁) X.xe s := by
  refine thn (ha pins s σ H _ I h) fun v s1 ⟨x, H1, I1, r1, q1⟩ => ?_
  refine thn (hb pins s1 σ H1 _ I1 q1) fun u s2 ⟨y, H2, I2, r2, q2⟩ => ?_
  exact hf v u s2 x y H2 I2 r1 r2 q2
theorem pe_op {op : Operator} {r : R2} (ho : OpR X (binaryOp op) r) (ha : PE X a ta) (hb : PE X b tb) : PE X (.BinOp a op b pos) (tOp r ta tb) := by
  intro pins s σ H Q I h
  exact wpAny_BinOp (binT ha hb I h fun v u s2 x y H2 I2 rx ry q => ho pins s2 σ H2 x y v u Q I2 rx ry q)
theorem pe_un {op : UnaryOp} {r : V → Hp → VK → Prop} (ho : UnR X (unaryOp op) r) (ha : PE X a ta) : PE X (.UnaryOp op a pos) (tUn r ta) := by
  intro pins s σ H Q I h
  exact UnaryOp_ (thn (ha pins s σ H _ I h) fun v s1 ⟨x, H1, I1, r1, q1⟩ => ho pins s1 σ H1 x v Q I1 r1 q1)
theorem opI {f : Value → Value → Sem Value} {C : Int → Int → Prop} {g : Int → Int → Int}
    (rule : ∀ (i j : Int) (t u : Tok) (s : Shared) (Q : Value → Shared → Prop) (E : Value → Shared → Prop), C i j → Q (.int (g i j) s.toks) { s with toks := s.toks + 1 } → wpAny (model X.prog X.w) X.A (f (.int i t) (.int j u)) Q E s) :
    OpR X f (rI C fun i j => .int (g i j)) := by
  intro pins s σ H x y v u Q I rx ry h
  obtain ⟨i, j, rfl, rfl, hc, q⟩ := h
  obtain ⟨t, rfl⟩ := rx
  obtain ⟨t', rfl⟩ := ry
  exact rule i j t t' s _ _ hc ⟨.int (g i j), H, I.tok _, ⟨_, rfl⟩, q⟩
theorem opI0 {f : Value → Value → Sem Value} {g : Int → Int → Int}
    (rule : ∀ (i j : Int) (t u : Tok) (s : Shared) (Q : Value → Shared → Prop) (E : Value → Shared → Prop), Q (.int (g i j) s.toks) { s with toks := s.toks + 1 } → wpAny (model X.prog X.w) X.A (f (.int i t) (.int j u)) Q E s) :
    OpR X f (rI0 fun i j => .int (g i j)) := by
  intro pins s σ H x y v u Q I rx ry h
  obtain ⟨i, j, rfl, rfl, q⟩ := h
  obtain ⟨t, rfl⟩ := rx
  obtain ⟨t', rfl⟩ := ry
  exact rule i j t t' s _ _ ⟨.int (g i j), H, I.tok _, ⟨_, rfl⟩, q⟩
theorem opB0 {f : Value → Value → Sem Value} {g : Int → Int → Bool}
    (rule : ∀ (i j : Int) (t u : Tok) (s : Shared) (Q : Value → Shared → Prop) (E : Value → Shared → Prop), Q (.bool (g i j)) s → wpAny (model X.prog X.w) X.A (f (.int i t) (.int j u)) Q E s) :
    OpR X f (rI0 fun i j => .bl (g i j)) := by
  intro pins s σ H x y v u Q I rx ry h
  obtain ⟨i, j, rfl, rfl, q⟩ := h
  obtain ⟨t, rfl⟩ := rx
  obtain ⟨t', rfl⟩ := ry
  exact rule i j t t' s _ _ ⟨.bl (g i j), H, I, rfl, q⟩
def CPow (i j : Int) : Prop := 0 ≤ j ∧ j ≤ 1000000 ∧ i.natAbs < 2 ^ 64
def CMul (i j : Int) : Prop := (-(2 ^ 64) < i ∧ i < 2 ^ 64) ∨ (-(2 ^ 64) < j ∧ j < 2 ^ 64)
theorem CMul.ok {i j : Int} (h : CMul i j) : IntMulOk i j := by
  rcases h with ⟨h1, h2⟩ | ⟨h1, h2⟩
  · exact .of_left (intBits_le_64 h1 h2)
  · exact .of_right (intBits_le_64 h1 h2)
theorem op_add : OpR X (binaryOp .Add) (rI0 fun i j => .int (i + j)) := opI0 fun _ _ _ _ _ _ _ q => add_int q
theorem op_sub : OpR X (binaryOp .Sub) (rI0 fun i j => .int (i - j)) := opI0 fun _ _ _ _ _ _ _ q => sub_int q
theorem op_mul : OpR X (binaryOp .Mult) (rI CMul fun i j => .int (i * j)) := opI fun _ _ _ _ _ _ _ hc q => mul_int q hc.ok
theorem op_mod : OpR X (binaryOp .Mod) (rI (fun _ j => 0 < j) fun i j => .int (i % j)) := opI fun i j _ _ _ _ _ hc q => by
  have h1 : (0 : Int) < j := hc
  exact mod_int' (by omega) (by rw [Int.fmod_eq_emod_of_nonneg i (by omega)]; exact q)
theorem op_pow : OpR X (binaryOp .Pow) (rI CPow fun i j => .int (i ^ j.toNat)) := opI fun _ _ _ _ _ _ _ hc q => pow_int_small hc.1 hc.2.1 hc.2.2 q
theorem op_shl : OpR X (binaryOp .LShift) (rI CPow fun i j => .int (i * 2 ^ j.toNat)) := opI fun _ _ _ _ _ _ _ hc q => lshift_int_small hc.1 hc.2.1 hc.2.2 q
theorem op_and : OpR X (binaryOp .BitAnd) (rI0 fun i j => .int (Builtin.bitAnd i j)) := opI0 fun _ _ _ _ _ _ _ q => and_int q
theorem unI {f : Value → Sem Value} {g : Int → Int}
    (rule : ∀ (i : Int) (t : Tok) (s : Shared) (Q : Value → Shared → Prop) (E : Value → Shared → Prop), Q (.int (g i) s.toks) { s with toks := s.toks + 1 } → wpAny (model X.prog X.w) X.A (f (.int i t)) Q E s) :
    UnR X f (rU fun i => .int (g i)) := by
  intro pins s σ H x v Q I rx h
  obtain ⟨i, rfl, q⟩ := h
  obtain ⟨t, rfl⟩ := rx
  exact rule i t s _ _ ⟨.int (g i), H, I.tok _, ⟨_, rfl⟩, q⟩
theorem un_neg : UnR X (unaryOp .USub) (rU fun i => .int (-i)) := unI fun _ _ _ _ _ q => neg_int q
end
section
variable {X : Cx} {a b c : Expr} {ta tb tc : TE} {pos : Pos}
theorem op_lt : OpR X (compareOp .Lt) (rI0 fun i j => .bl (decide (i < j))) := opB0 fun _ _ _ _ _ _ _ q => lt_int q
theorem op_le : OpR X (compareOp .LtE) (rI0 fun i j => .bl (decide (i ≤ j))) := opB0 fun _ _ _ _ _ _ _ q => le_int q
theorem op_gt : OpR X (compareOp .Gt) (rI0 fun i j => .bl (decide (j < i))) := opB0 fun _ _ _ _ _ _ _ q => gt_int q
theorem op_ge : OpR X (compareOp .GtE) (rI0 fun i j => .bl (decide (j ≤ i))) := opB0 fun _ _ _ _ _ _ _ q => ge_int q
theorem OpR.or {f : Value → Value → Sem Value} {r r' : R2} (h : OpR X f r) (h' : OpR X f r') : OpR X f (fun x y H Q => r x y H Q ∨ r' x y H Q) := by
  intro pins s σ H x y v u Q I rx ry q
  rcases q with q | q
  · exact h pins s σ H x y v u Q I rx ry q
  · exact h' pins s σ H x y v u Q I rx ry q
theorem nomark (b : Expr) {op : CmpOp} (h : op ≠ .In := by decide) (h2 : op ≠ .NotIn := by decide) : behindInMarks op b = false := by
  have e1 : (op == CmpOp.In) = false := by cases op <;> first | rfl | exact absurd rfl h
  have e2 : (op == CmpOp.NotIn) = false := by cases op <;> first | rfl | exact absurd rfl h2
  cases b <;> simp [behindInMarks, e1, e2]
theorem pe_cmpR {op : CmpOp} {r : R2} (ho : OpR X (compareOp op) r) (ha : PE X a ta) (hb : PE X b tb) (hm : behindInMarks op b = false) : PE X (.Compare a [op] [b] pos) (tOp r ta tb) := by
  intro pins s σ H Q I h
  exact wpAny_Compare1 (binT ha hb I h fun v u s2 x y H2 I2 rx ry q => ho pins s2 σ H2 x y v u Q I2 rx ry q) hm
def tTest (t : TE) : TT := fun σ H Q => t σ H fun x H' => ∃ k, x = .bl k ∧ Q k H'
theorem pt_cmpR {op : CmpOp} {r : R2} (ho : OpR X (compareOp op) r) (ha : PE X a ta) (hb : PE X b tb) (hm : behindInMarks op b = false) : PT X (.Compare a [op] [b] pos) (tTest (tOp r ta tb)) := by
  intro pins s σ H Q I h
  refine wpAny_isTrue_Compare1 (thn (ha pins s σ H _ I h) fun v s1 ⟨x, H1, I1, r1, q1⟩ => thn (hb pins s1 σ H1 _ I1 q1) fun u s2 ⟨y, H2, I2, r2, q2⟩ =>
    thn (ho pins s2 σ H2 x y v u _ I2 r1 r2 q2) fun c s3 ⟨z, H3, I3, r3, k, e, q3⟩ => ?_) hm
  subst e
  cases r3
  exact wpAny_truthy_bool ⟨H3, I3, q3⟩
def TruV (K : PySem.W.Frag) (x : V) (H : Hp) (k : Bool) : Prop :=
  match x with
  | .non => k = false
  | .bl b => k = b
  | .int i => k = (i != 0)
  | .str y => y.length ≤ sizeLine ∧ k = ((y.length : Int) != 0)
  | .byt y => y.size ≤ sizeLine ∧ k = ((y.size : Int) != 0)
  | .ref p => (∃ xs, SqL K H p xs ∧ k = !xs.isEmpty) ∨ (∃ xs, SqT K H p xs ∧ k = !xs.isEmpty) ∨ ∃ kvs, H p = some (.dK kvs) ∧ k = !kvs.isEmpty
  | _ => False
theorem isEmpty_kv {κ : Type} {kvs : List (κ × V)} {vs : List (κ × Value)} (r : KV kvs vs) : (!vs.isEmpty) = !kvs.isEmpty := by
  cases r <;> rfl
theorem isEmpty_of {xs : List V} {its : List Value} (r : Vals xs its) : (!its.toArray.isEmpty) = !xs.isEmpty := by
  cases r <;> simp
theorem line63 : (sizeLine : Nat) < 2 ^ 63 := by rw [sizeLine_eq]; decide
theorem tru_ok : TruR X (fun x H Q => ∃ k, TruV X.K x H k ∧ Q k H) := by
  intro pins s σ H x v Q I rx h
  obtain ⟨k, e, q⟩ := h
  have hl := line63
  have hs : sizeLine = 16777216 := sizeLine_eq
  cases x with
  | non =>
    cases rx
    have e' : k = false := e
    subst e'
    exact truthy_none ⟨H, I, q⟩
  | bl b =>
    cases rx
    have e' : k = b := e
    subst e'
    exact wpAny_truthy_bool ⟨H, I, q⟩
  | int i =>
    obtain ⟨t, rfl⟩ := rx
    have e' : k = (i != 0) := e
    subst e'
    exact PySem.P.truthy_int ⟨H, I, q⟩
  | str y =>
    obtain ⟨t, rfl⟩ := rx
    obtain ⟨hy, e'⟩ : y.length ≤ sizeLine ∧ k = ((y.length : Int) != 0) := e
    subst e'
    exact PySem.P.truthy_str (by omega) ⟨H, I.tok _, q⟩
  | byt y =>
    obtain ⟨t, rfl⟩ := rx
    obtain ⟨hy, e'⟩ : y.size ≤ sizeLine ∧ k = ((y.size : Int) != 0) := e
    subst e'
    exact PySem.W.truthy_bytes (by omega) ⟨H, I.tok _, q⟩
  | ref p =>
    cases rx
    have e' : (∃ xs, SqL X.K H p xs ∧ k = !xs.isEmpty) ∨ (∃ xs, SqT X.K H p xs ∧ k = !xs.isEmpty) ∨ ∃ kvs, H p = some (.dK kvs) ∧ k = !kvs.isEmpty := e
    rcases e' with ⟨xs, hx, e'⟩ | ⟨xs, hx, e'⟩ | ⟨kvs, hx, e'⟩
    · subst e'
      obtain ⟨its, r, pl, hz⟩ := I.list hx
      have hlen := r.length
      exact wpAny_truthy_list pl.isList (by simp only [List.size_toArray]; omega) ⟨H, I.tok _, by rw [isEmpty_of r]; exact q⟩
    · subst e'
      obtain ⟨its, r, pl, hz⟩ := I.tuple hx
      have hlen := r.length
      exact truthy_tuple pl (by simp only [List.size_toArray]; omega) ⟨H, I.tok _, by rw [isEmpty_of r]; exact q⟩
    · subst e'
      obtain ⟨hz, hS, vs, r, m⟩ : kvs.length ≤ sizeLine ∧ (p == sysModules) = false ∧ ∃ vs, KV kvs vs ∧ s.heap.DictOf (mixKind X.prog X.w) p vs := I.hok p _ hx
      have hlen : kvs.length = vs.length := Paired.length r
      exact wpAny_truthy_dict hS m (by omega) ⟨H, I.tok _, by rw [isEmpty_kv r]; exact q⟩
  | _ => exact (show False from e).elim
theorem pt_truth (ha : PE X a ta) (he : ∀ whole, isTrue a X.env whole = (do let v ← whole; standAt a.pos; holding [v] (truthy v))) :
    PT X a (fun σ H Q => ta σ H fun x H' => ∃ k, TruV X.K x H' k ∧ Q k H') := by
  intro pins s σ H Q I h
  exact isTrue_plain (thn (ha pins s σ H _ I h) fun v s1 ⟨x, H1, I1, r1, q1⟩ => tru_ok pins s1 σ H1 x v Q I1 r1 q1) (he _)
theorem op_add_str : OpR X (binaryOp .Add) (fun x y H Q => ∃ i j, x = .str i ∧ y = .str j ∧ i.length + j.length ≤ sizeLine ∧ Q (.str (i ++ j)) H) := by
  intro pins s σ H x y v u Q I rx ry h
  obtain ⟨i, j, rfl, rfl, hz, q⟩ := h
  obtain ⟨t, rfl⟩ := rx
  obtain ⟨t', rfl⟩ := ry
  exact add_str (fun t' tk => ⟨.str (i ++ j), H, I.tok _, ⟨_, rfl⟩, q⟩) hz
theorem vals1 {x : V} {us : List Value} (r : Vals [x] us) : ∃ u, us = [u] ∧ RelV x u := by
  cases r with
  | cons r1 r2 => cases r2; exact ⟨_, rfl, r1⟩
theorem vals2 {x y : V} {us : List Value} (r : Vals [x, y] us) : ∃ u w', us = [u, w'] ∧ RelV x u ∧ RelV y w' := by
  cases r with
  | cons r1 r2 =>
    cases r2 with
    | cons r3 r4 => cases r4; exact ⟨_, _, rfl, r1, r3⟩
theorem call_max2 (hc : X.calm = true) : CallR X (.builtin "max") (fun xs H Q => ∃ i j, xs = [.int i, .int j] ∧ Q (.int (if j > i then j else i)) H) := by
  intro pins s σ H xs us Q I r h
  obtain ⟨i, j, rfl, q⟩ := h
  obtain ⟨u, w', rfl, ⟨t, rfl⟩, ⟨t', rfl⟩⟩ := vals2 r
  refine max_two_ints (I.ok.hd hc) fun h' tk k => ⟨_, H, I.kept k, ?_, q⟩
  by_cases hj : j > i
  · rw [if_pos hj, if_pos hj]; exact ⟨_, rfl⟩
  · rw [if_neg hj, if_neg hj]; exact ⟨_, rfl⟩
theorem call_min2 (hc : X.calm = true) : CallR X (.builtin "min") (fun xs H Q => ∃ i j, xs = [.int i, .int j] ∧ Q (.int (if j < i then j else i)) H) := by
  intro pins s σ H xs us Q I r h
  obtain ⟨i, j, rfl, q⟩ := h
  obtain ⟨u, w', rfl, ⟨t, rfl⟩, ⟨t', rfl⟩⟩ := vals2 r
  refine min_two_ints (I.ok.hd hc) fun h' tk k => ⟨_, H, I.kept k, ?_, q⟩
  by_cases hj : j < i
  · rw [if_pos hj, if_pos hj]; exact ⟨_, rfl⟩
  · rw [if_neg hj, if_neg hj]; exact ⟨_, rfl⟩
theorem call_int1 : CallR X (.type "int") (fun xs H Q => (∃ i, xs = [.int i] ∧ Q (.int i) H) ∨ ∃ k, xs = [.bl k] ∧ Q (.int (if k then 1 else 0)) H) := by
  intro pins s σ H xs us Q I r h
  rcases h with ⟨i, rfl, q⟩ | ⟨k, rfl, q⟩
  · obtain ⟨u, rfl, t, rfl⟩ := vals1 r
    exact call_int_int ⟨.int i, H, I, ⟨_, rfl⟩, q⟩
  · obtain ⟨u, rfl, r1⟩ := vals1 r
    cases r1
    exact call_int_bool ⟨.int (if k then 1 else 0), H, I.tok _, ⟨_, rfl⟩, q⟩
def LenV (K : PySem.W.Frag) (x : V) (H : Hp) (n : Nat) : Prop :=
  match x with
  | .str y => y.length ≤ sizeLine ∧ n = y.length
  | .byt y => y.size ≤ sizeLine ∧ n = y.size
  | .ref p => (∃ xs, SqL K H p xs ∧ n = xs.length) ∨ ∃ xs, SqT K H p xs ∧ n = xs.length
  | _ => False
theorem call_len : CallR X (.builtin "len") (fun xs H Q => ∃ x n, xs = [x] ∧ LenV X.K x H n ∧ Q (.int n) H) := by
  intro pins s σ H xs us Q I r h
  obtain ⟨x, n, rfl, e, q⟩ := h
  obtain ⟨u, rfl, rx⟩ := vals1 r
  have hl := line63
  have hs : sizeLine = 16777216 := sizeLine_eq
  cases x with
  | str y =>
    obtain ⟨t, rfl⟩ := rx
    obtain ⟨hy, e'⟩ : y.length ≤ sizeLine ∧ n = y.length := e
    subst e'
    exact len_str (by omega) ⟨.int _, H, I.tok _, ⟨_, rfl⟩, q⟩
  | byt y =>
    obtain ⟨t, rfl⟩ := rx
    obtain ⟨hy, e'⟩ : y.size ≤ sizeLine ∧ n = y.size := e
    subst e'
    exact PySem.W.len_bytes (by omega) ⟨.int _, H, I.tok _, ⟨_, rfl⟩, q⟩
  | ref p =>
    cases rx
    have e' : (∃ xs, SqL X.K H p xs ∧ n = xs.length) ∨ ∃ xs, SqT X.K H p xs ∧ n = xs.length := e
    rcases e' with ⟨xs, hx, e'⟩ | ⟨xs, hx, e'⟩
    · subst e'
      obtain ⟨its, r', pl, hz⟩ := I.list hx
      have hlen := r'.length
      exact Calls.call_len_list pl.isList (by simp only [List.size_toArray]; omega) ⟨.int xs.length, H, I.tok _, ⟨_, by simp only [List.size_toArray]; rw [hlen]⟩, q⟩
    · subst e'
      obtain ⟨its, r', pl, hz⟩ := I.tuple hx
      have hlen := r'.length
      exact len_tuple pl (by simp only [List.size_toArray]; omega) ⟨.int xs.length, H, I.tok _, ⟨_, by simp only [List.size_toArray]; rw [hlen]⟩, q⟩
  | _ => exact (show False from e).elim
end
end L2
namespace L2
open PySem PySem.Spec PyProof.Rows
structure ObjM (h : Heap) (x dx C : Addr) (mA : Str → Option Value) : Prop where
  obj : h.get? x = some (PySem.W.instObj C dx)
  ns : h.Ns1 dx mA
  ne : dx ≠ x
theorem lookIn_ns {h : Heap} {dx : Addr} {mA : Str → Option Value} (n : h.Ns1 dx mA) : ∃ od, h.get? dx = some od ∧ ∀ name, PySem.W.lookIn name od = some (mA name) := by
  obtain ⟨o, es, ep, ho, hd, hk, _, hm⟩ := n
  refine ⟨o, ho, fun name => ?_⟩
  have e := hm name
  unfold nsFind findBy at e
  rw [← Array.find?_toList] at e
  unfold PySem.W.lookIn
  rw [hd]
  dsimp only
  split
  · rename_i y q
    rw [q] at e
    exact congrArg some e
  · rename_i q
    rw [q] at e
    have a : es.toList.any (·.refKey) = false := by
      rw [List.any_eq_false]
      intro y hy
      obtain ⟨z, t, hkey⟩ := hk y (Array.mem_toList_iff.mp hy)
      simp [DictEntry.refKey, hkey]
    have a' : ¬ es.toList.any (·.refKey) = true := by rw [a]; exact Bool.false_ne_true
    rw [if_neg a']
    exact congrArg some e
theorem ObjM.look {h : Heap} {x dx C : Addr} {mA : Str → Option Value} (I : ObjM h x dx C mA) : ∃ od, PySem.W.InstAt h x (PySem.W.instObj C dx) C (some od) ∧ ∀ name, PySem.W.lookIn name od = some (mA name) :=
  let ⟨od, ho, hl⟩ := lookIn_ns I.ns
  ⟨od, ⟨I.obj, rfl, rfl, ho⟩, hl⟩
section
variable {prog : Program} {w : World} {A : Around} {E : Value → Shared → Prop} {s : Shared} {K : PySem.W.Frag} {x dx C f : Addr} {mA : Str → Option Value} {name : Str} {v : Value}
theorem get_map {expr : Bool} {Q : Value → Shared → Prop} (X : K.In s.heap) (I : ObjM s.heap x dx C mA) (hg : PySem.W.plainGet K C name = true) (hh : PySem.W.hasDictIn K C = true)
    (ha : PySem.W.findIn K (.ref C) name = some none) (hv : mA name = some v) (hv' : PySem.W.handedIn v = true) (h : Q v { s with toks := s.toks + 1 }) :
    wpAny (model prog w) A (getAttr (.ref x) name expr) Q E s := by
  obtain ⟨od, J, hl⟩ := I.look
  exact PySem.W.get_value X J (PySem.W.plainGet_of hg).1 (PySem.W.findObj_own hh ha rfl (by rw [hl, hv])) hv' h
theorem get_meth {pl : Sem Bool} {Q : Value × List Value → Shared → Prop} (X : K.In s.heap) (I : ObjM s.heap x dx C mA) (hg : PySem.W.plainGet K C name = true)
    (hf : PySem.W.findIn K (.ref C) name = some (some (.ref f))) (ht : PySem.W.isFn K (.ref f) = true) (hv : mA name = none) (h : Q (.ref f, [.ref x]) s) :
    wpAny (model prog w) A (getMethod (.ref x) name pl) Q E s := by
  obtain ⟨od, J, hl⟩ := I.look
  exact PySem.W.method_fn X J (PySem.W.plainGet_of hg).1 (PySem.W.plainGet_of hg).2 hf (beq_iff_eq.mp ht) (by show (PySem.W.lookIn name od).map (·.isSome) = some false; rw [hl, hv]; rfl) h
theorem set_map {ns : List Str} {Q : Unit → Shared → Prop} (X : K.In s.heap) (I : ObjM s.heap x dx C mA)
    (hs : PySem.W.findIn K (.ref C) "__setattr__" = some (some (.builtin "object.__setattr__"))) (hp : PySem.W.plainOver K C = true) (ht : PySem.W.takerIn K C name = some none) (hh : PySem.W.hasDictIn K C = true)
    (hw : PySem.Within mA ns) (hsz : ns.length ≤ sizeLine)
    (h : ∀ h', ObjM h' x dx C (fun y => if y = name then some v else mA y) → Heap.SameBut dx s.heap h' → Q () { s with heap := h', toks := s.toks + 2 }) :
    wpAny (model prog w) A (setAttr (.ref x) name v) Q E s := by
  obtain ⟨od, J, hl⟩ := I.look
  refine PySem.W.set_plain X J hs (PySem.W.osa_open (s := { s with toks := s.toks + 1 }) (r := none) X J hp ht fun b => ?_)
  obtain ⟨cd, hc, hd'⟩ := PySem.W.any_some hh
  have hx : s.heap.get? x = some ⟨.ref C, some dx, .plain, #[]⟩ := I.obj
  refine wpAny_bind (wpAny_pure (wpAny_bind (wpAny_bind (wpAny_loadPart hx (wpAny_bind (PySem.W.Looks.here (s := { s with toks := s.toks + 1 }) (PySem.W.looks_clsIn X hc) ?_))))))
  rw [hd']
  refine wpAny_pure (a := some dx) (wpAny_bind (wpAny_pure (wpAny_bind ?_)))
  refine wpAny_nsSet1 (s := { s with toks := s.toks + 1 }) I.ns fun h' hn2 hs2 => ?_
  obtain ⟨oD, esD, epD, hoD, hdD, hcD⟩ := hn2.count (PySem.Within.cons name v hw)
  refine wpAny_bind (wpAny_lookBehind hoD (by rw [hdD]; exact pastItsLine_dict (Nat.le_trans hcD (by rw [List.length_cons]; omega))) ?_)
  exact wpAny_pure (h _ ⟨(hs2.2 _ (Ne.symm I.ne)).trans I.obj, hn2, I.ne⟩ hs2)
theorem make_map {R : Result → Shared → Prop} {vs : List Value} {kw : List (Str × Value)} (X : K.In s.heap) (hm : PySem.W.makesIn K C = true)
    (hi : PySem.W.findIn K (.ref C) "__init__" = some (some (.ref f))) (hf : PySem.W.typeIn K (.ref f) = some (.type "function"))
    (h : codeAny (model prog w) (A.under (.builtin "type.__call__" ⟨.ref C :: vs, kw⟩)) (.call (.ref f) ⟨.ref (s.heap.objs.size + 1) :: vs, kw⟩) (PySem.W.InitBack (s.heap.objs.size + 1) R)
      { s with heap := (s.heap.push PySem.W.emptyDict).push (PySem.W.instObj C s.heap.objs.size) }) :
    codeAny (model prog w) A (.call (.ref C) ⟨vs, kw⟩) R s := by
  obtain ⟨hh, g, d, t, os⟩ := s
  exact PySem.W.make_core (PySem.W.makes_of X hm) (PySem.W.looks_findIn X hi) (fun self => PySem.W.bind_fn X self hf) (.inl rfl) h
end
def putF (f : Str) (v : V) : List (Str × V) → List (Str × V)
  | [] => [(f, v)]
  | (g, x) :: r => if g = f then (g, v) :: r else (g, x) :: putF f v r
theorem lookup_putF (f g : Str) (v : V) : ∀ fs : List (Str × V), (putF f v fs).lookup g = if g = f then some v else fs.lookup g
  | [] => by
    show List.lookup g [(f, v)] = _
    by_cases h : g = f
    · have hb : (g == f) = true := beq_iff_eq.mpr h
      simp only [List.lookup, hb, if_pos h]
    · have hb : (g == f) = false := beq_eq_false_iff_ne.mpr h
      simp only [List.lookup, hb, if_neg h]
  | (k, x) :: r => by
    have ih := lookup_putF f g v r
    rw [show putF f v ((k, x) :: r) = (if k = f then (k, v) :: r else (k, x) :: putF f v r) from rfl]
    by_cases hk : k = f
    · rw [if_pos hk]
      by_cases h : g = k
      · have hb : (g == k) = true := beq_iff_eq.mpr h
        simp only [List.lookup, hb, if_pos (h.trans hk)]
      · have hb : (g == k) = false := beq_eq_false_iff_ne.mpr h
        simp only [List.lookup, hb, if_neg (fun e : g = f => h (e.trans hk.symm))]
    · rw [if_neg hk]
      by_cases h : g = k
      · have hb : (g == k) = true := beq_iff_eq.mpr h
        simp only [List.lookup, hb, if_neg (fun e : g = f => hk (h.symm.trans e))]
      · have hb : (g == k) = false := beq_eq_false_iff_ne.mpr h
        simp only [List.lookup, hb]
        exact ih
theorem keys_putF (f : Str) (v : V) : ∀ fs : List (Str × V), f ∈ (putF f v fs).map (·.1) ∧ ∀ g, g ∈ fs.map (·.1) → g ∈ (putF f v fs).map (·.1)
  | [] => ⟨by simp [putF], fun g h => by simp at h⟩
  | (k, x) :: r => by
    obtain ⟨i1, i2⟩ := keys_putF f v r
    rw [show putF f v ((k, x) :: r) = (if k = f then (k, v) :: r else (k, x) :: putF f v r) from rfl]
    by_cases hk : k = f
    · rw [if_pos hk]
      subst hk
      exact ⟨by simp, fun g h => by simpa using h⟩
    · rw [if_neg hk]
      refine ⟨?_, fun g h => ?_⟩
      · rw [List.map_cons]
        exact List.mem_cons_of_mem _ i1
      · rw [List.map_cons] at h ⊢
        rcases List.mem_cons.mp h with e | e
        · exact List.mem_cons.mpr (.inl e)
        · exact List.mem_cons_of_mem _ (i2 g e)
theorem length_putF (f : Str) (v : V) : ∀ fs : List (Str × V), (putF f v fs).length ≤ fs.length + 1
  | [] => by simp [putF]
  | (k, x) :: r => by
    have ih := length_putF f v r
    rw [show putF f v ((k, x) :: r) = (if k = f then (k, v) :: r else (k, x) :: putF f v r) from rfl]
    by_cases hk : k = f
    · rw [if_pos hk, List.length_cons, List.length_cons]; omega
    · rw [if_neg hk, List.length_cons, List.length_cons]; omega
theorem RelO.some_of {v : V} {o : Option Value} (r : RelO (some v) o) : ∃ u, o = some u ∧ RelV v u := by
  cases o with
  | none => exact (show False from r).elim
  | some u => exact ⟨u, rfl, r⟩
theorem RelO.none_of {o : Option Value} (r : RelO none o) : o = none := by
  cases o with
  | none => rfl
  | some u => exact (show False from r).elim
theorem handed_of {v : V} {u : Value} (r : RelV v u) : PySem.W.handedIn u = true := by
  cases v with
  | non => cases (show u = Value.none from r); rfl
  | bl b => cases (show u = Value.bool b from r); rfl
  | int i => obtain ⟨t, e⟩ := (show ∃ t, u = Value.int i t from r); cases e; rfl
  | str x => obtain ⟨t, e⟩ := (show ∃ t, u = Value.str x t from r); cases e; rfl
  | byt b => obtain ⟨t, e⟩ := (show ∃ t, u = Value.bytes b t from r); cases e; rfl
  | flt b => obtain ⟨t, e⟩ := (show ∃ t, u = Value.float b t from r); cases e; rfl
  | ref a => cases (show u = Value.ref a from r); rfl
  | ty n => cases (show u = Value.type n from r); rfl
section
variable {P : Program} {w : World} {H H' : Hp} {h h' : Heap} {a C dx : Addr} {fs fs' : List (Str × V)}
theorem ins_get (hok : HOk P w H h) (e : H a = some (.ins C dx fs)) : ∃ mA, ObjM h a dx C mA ∧ (∀ f, RelO (fs.lookup f) (mA f)) ∧ PySem.Within mA (fs.map (·.1)) ∧ fs.length ≤ 1000 ∧ H dx = some (.own a) := by
  obtain ⟨d, z, ne, ob, mA, n, r, q⟩ := (show ObjOk P w H h a (.ins C dx fs) from hok a _ e)
  exact ⟨mA, ⟨ob, n, ne⟩, r, q, z, d⟩
end
structure Cls (K : PySem.W.Frag) (C : Addr) : Prop where
  pg : PySem.W.plainGet K C Str.empty = true
  hd : PySem.W.hasDictIn K C = true
  po : PySem.W.plainOver K C = true
  sa : PySem.W.findIn K (.ref C) "__setattr__" = some (some (.builtin "object.__setattr__"))
theorem Cls.get {K : PySem.W.Frag} {C : Addr} (c : Cls K C) (f : Str) : PySem.W.plainGet K C f = true := c.pg
def NoAttr (K : PySem.W.Frag) (C : Addr) (f : Str) : Prop := PySem.W.findIn K (.ref C) f = some none
theorem NoAttr.taker {K : PySem.W.Frag} {C : Addr} {f : Str} (n : NoAttr K C f) : PySem.W.takerIn K C f = some none := by
  unfold PySem.W.takerIn
  rw [show PySem.W.findIn K (.ref C) f = some none from n]
  rfl
structure Con (K : PySem.W.Frag) (C : Addr) (f : Str) (v : V) (u : Value) : Prop where
  at_ : PySem.W.findIn K (.ref C) f = some (some u)
  rel : RelV v u
  get : PySem.W.specialIn K u "__get__" = some none
  cp : PySem.W.copiedNames.contains f = false
structure Meth (K : PySem.W.Frag) (C : Addr) (m : Str) (f : Addr) : Prop where
  at_ : PySem.W.findIn K (.ref C) m = some (some (.ref f))
  fn : PySem.W.isFn K (.ref f) = true
  kp : PySem.W.keepIn K (.ref f) = true
section
variable {X : Cx} {pins : List (Addr × Obj)} {σ : St} {H : Hp} {s : Shared} {a C dx : Addr} {fs : List (Str × V)} {f : Str} {v : V} {A : Around} {E : Value → Shared → Prop}
theorem getattr_ok {b : Bool} {Q : Value → Shared → Prop} (I : Inv X pins σ H s) (e : H a = some (.ins C dx fs)) (c : Cls X.K C) (n : NoAttr X.K C f) (l : fs.lookup f = some v)
    (h : ∀ u s', Inv X pins σ H s' → RelV v u → Q u s') : wpAny (model X.prog X.w) A (getAttr (.ref a) f b) Q E s := by
  obtain ⟨mA, O, r, _, _, _⟩ := ins_get I.hok e
  obtain ⟨u, hu, ru⟩ := RelO.some_of (v := v) (o := mA f) (by rw [← l]; exact r f)
  exact get_map I.kIn O (c.get f) c.hd n hu (handed_of ru) (h u _ (I.tok _) ru)
theorem getmeth_ok {m : Str} {g : Addr} {pl : Sem Bool} {Q : Value × List Value → Shared → Prop} (I : Inv X pins σ H s) (e : H a = some (.ins C dx fs)) (c : Cls X.K C) (k : Meth X.K C m g) (l : fs.lookup m = none)
    (h : Q (.ref g, [.ref a]) s) : wpAny (model X.prog X.w) A (getMethod (.ref a) m pl) Q E s := by
  obtain ⟨mA, O, r, _, _, _⟩ := ins_get I.hok e
  have hn : mA m = none := RelO.none_of (by rw [← l]; exact r m)
  exact get_meth I.kIn O (c.get m) k.at_ k.fn hn h
theorem setattr_ok {y : V} {u : Value} {Q : Unit → Shared → Prop} (I : Inv X pins σ H s) (e : H a = some (.ins C dx fs)) (c : Cls X.K C) (n : NoAttr X.K C f) (hl : fs.length < 1000) (ry : RelV y u)
    (h : ∀ s', Inv X pins σ (upd H a (.ins C dx (putF f y fs))) s' → Q () s') : wpAny (model X.prog X.w) A (setAttr (.ref a) f u) Q E s := by
  obtain ⟨mA, O, r, wi, _, ho⟩ := ins_get I.hok e
  have hz : (fs.map (·.1)).length ≤ sizeLine := by rw [List.length_map, sizeLine_eq]; omega
  refine set_map I.kIn O c.sa c.po n.taker c.hd wi hz fun h' O' sb => h _ ?_
  have hd : ∃ o, h'.get? dx = some o := let ⟨o, _, _, e', _⟩ := O'.ns; ⟨o, e'⟩
  refine I.write (x := a) (e := dx) (by rw [e]; exact True.intro) (.inr ho) (fun b q hb z => (sb.2 b hb).trans z) hd ?_
  refine ⟨by rw [upd_ne O.ne]; exact ho, ?_, O.ne, O'.obj, _, O'.ns, fun g => ?_, fun g hg => ?_⟩
  · have := length_putF f y fs; omega
  · show RelO ((putF f y fs).lookup g) (if g = f then some u else mA g)
    rw [lookup_putF]
    by_cases q : g = f
    · rw [if_pos q, if_pos q]; exact ry
    · rw [if_neg q, if_neg q]; exact r g
  · by_cases q : g = f
    · rw [q]; exact (keys_putF f y fs).1
    · refine (keys_putF f y fs).2 g (wi g fun z => hg ?_)
      show (if g = f then some u else mA g) = none
      rw [if_neg q]; exact z
theorem Inv.made (I : Inv X pins σ H s) : Inv X pins σ (upd (upd H s.heap.objs.size (.own (s.heap.objs.size + 1))) (s.heap.objs.size + 1) (.ins C s.heap.objs.size []))
    { s with heap := (s.heap.push PySem.W.emptyDict).push (PySem.W.instObj C s.heap.objs.size) } := by
  have e1 : (s.heap.push PySem.W.emptyDict).get? s.heap.objs.size = some PySem.W.emptyDict := Heap.get?_push_size s.heap rfl
  have e2 : ((s.heap.push PySem.W.emptyDict).push (PySem.W.instObj C s.heap.objs.size)).get? (s.heap.objs.size + 1) = some (PySem.W.instObj C s.heap.objs.size) := by
    have := Heap.get?_push_size (s.heap.push PySem.W.emptyDict) (o := PySem.W.instObj C s.heap.objs.size) rfl
    rwa [Heap.size_push] at this
  have e3 : (s.heap.push PySem.W.emptyDict).Ns s.heap.objs.size (fun _ => none) := ⟨PySem.W.emptyDict, #[], _, e1, rfl, (fun e he => absurd he (by simp)), fun _ => rfl⟩
  have I1 := I.laid (a := s.heap.objs.size) (o := .own (s.heap.objs.size + 1)) (h' := s.heap.push PySem.W.emptyDict) (t' := s.toks) (fun b u q => Heap.get?_push_of_some _ q) (Nat.le_refl _) ⟨_, e1⟩
  refine I1.laid (a := s.heap.objs.size + 1) (o := .ins C s.heap.objs.size []) (t' := s.toks) (fun b u q => Heap.get?_push_of_some _ q) (Nat.le_of_eq (Heap.size_push _ _)) ?_
  have ne : s.heap.objs.size ≠ s.heap.objs.size + 1 := Nat.ne_of_lt (Nat.lt_succ_self _)
  refine ⟨by rw [upd_ne ne, upd_same], Nat.zero_le _, ne, e2, fun _ => none, (Heap.Ns1.of_empty e3).at fun o q => Heap.get?_push_of_some _ q, fun _ => True.intro, fun y hy => absurd rfl hy⟩
theorem attr_of {prog : Program} {w : World} {env : Env} {e : Expr} {f : Str} {pos : Pos} {s : Shared} {Q : Value → Shared → Prop} (hb : attributeBase e f env (eval e env) = eval e env)
    (h : wpAny (model prog w) A (eval e env) (fun o s₁ => wpAny (model prog w) A (getAttr o f true) Q E s₁) E s) : wpAny (model prog w) A (eval (.Attribute e f pos) env) Q E s :=
  Attribute_any_ h (by rw [arm_eval_Attribute, hb])
end
def tFld (K : PySem.W.Frag) (ta : TE) (f : Str) : TE := fun σ H Q => ta σ H fun x H1 => ∃ a C dx fs v, x = .ref a ∧ H1 a = some (.ins C dx fs) ∧ Cls K C ∧ NoAttr K C f ∧ fs.lookup f = some v ∧ Q v H1
def sFld (K : PySem.W.Frag) (ta tv : TE) (f : Str) : TS := fun D σ H => tv σ H fun y H1 => ta σ H1 fun x H2 => ∃ a C dx fs, x = .ref a ∧ H2 a = some (.ins C dx fs) ∧ Cls K C ∧ NoAttr K C f ∧ fs.length < 1000 ∧
  D.nx σ (upd H2 a (.ins C dx (putF f y fs)))
section
variable {X : Cx} {o e value : Expr} {f : Str} {pos pos' tpos : Pos} {ta tv : TE}
theorem pe_fld (he : PE X e ta) (hb : attributeBase e f X.env (eval e X.env) = eval e X.env) : PE X (.Attribute e f pos) (tFld X.K ta f) := by
  intro pins s σ H Q I h
  refine attr_of hb (thn (he pins s σ H _ I h) fun u s1 ⟨x, H1, I1, rx, a, C, dx, fs, v, ex, ea, c, n, l, q⟩ => ?_)
  subst ex
  obtain rfl : u = Value.ref a := rx
  exact getattr_ok I1 ea c n l fun u' s2 I2 ru => ⟨v, H1, I2, ru, q⟩
theorem ps_fld (ha : PE X o ta) (hv : PE X value tv) (hs : swapsWith value (some (.Attribute o f pos')) pos.line X.env = pure false) : PS X (.Assign [.Attribute o f pos'] value pos) (sFld X.K ta tv f) := by
  intro pins s σ H D I h
  refine plainObj_wpAny_Assign_Attribute (thn (hv pins s σ H _ I h) fun u s1 ⟨y, H1, I1, ry, q⟩ => thn (ha pins s1 σ H1 _ I1 q) fun ov s2 ⟨x, H2, I2, rx, a, C, dx, fs, ex, ea, c, n, l, q2⟩ => ?_) hs
  subst ex
  obtain rfl : ov = Value.ref a := rx
  exact setattr_ok I2 ea c n l ry fun s3 I3 => ⟨σ, _, I3, q2⟩
end
section
variable {X : Cx} {pins : List (Addr × Obj)} {σ : St} {H : Hp} {s : Shared} {A : Around} {E : Value → Shared → Prop} {Q : Value → Shared → Prop} {c : Value} {b : Bool}
inductive TyOf (K : PySem.W.Frag) (H : Hp) : V → Value → Prop where
  | non : TyOf K H .non (.type "NoneType")
  | bl (x : Bool) : TyOf K H (.bl x) (.type "bool")
  | int (i : Int) : TyOf K H (.int i) (.type "int")
  | str (x : Str) : TyOf K H (.str x) (.type "str")
  | flt (x : UInt64) : TyOf K H (.flt x) (.type "float")
  | lst {a : Addr} {xs : List V} (e : H a = some (.lst xs)) : TyOf K H (.ref a) (.type "list")
  | frz {a : Addr} {o : Obj} {xs : List V} (e : H a = some (.frz o (.lst xs))) : TyOf K H (.ref a) (.type "list")
  | tup {a : Addr} {xs : List V} (e : H a = some (.tup xs)) : TyOf K H (.ref a) (.type "tuple")
  | dK {a : Addr} {kvs : List (Key × V)} (e : H a = some (.dK kvs)) : TyOf K H (.ref a) (.type "dict")
  | dT {a : Addr} {kvs : List (List Key × V)} (e : H a = some (.dT kvs)) : TyOf K H (.ref a) (.type "dict")
  | ins {a C dx : Addr} {fs : List (Str × V)} (e : H a = some (.ins C dx fs)) (cl : Cls K C) (ha : PySem.W.findIn K (.ref C) "__class__" = some (some (.builtin "object.__class__")))
      (hn : PySem.W.specialIn K (.builtin "object.__class__") "__get__" = some (some (.builtin "getset_descriptor.__get__"))) (htk : PySem.W.takesIn K (.builtin "object.__class__") = some true)
      (hm : PySem.W.mroIn K C (.type "object") = some true) : TyOf K H (.ref a) (.ref C)
end
end L2
namespace L2
open PySem PySem.Spec PyProof.Rows
structure Room (k : Nat) (A : Around) : Prop where
  hd : A.handled = none
  dp : A.depth + 3 * k + 5 < recursionLimit
  un : A.units + 16 * k + 200 < cLine
theorem Room.mono {j k : Nat} {A : Around} (r : Room k A) (h : j ≤ k) : Room j A := ⟨r.hd, by have := r.dp; omega, by have := r.un; omega⟩
theorem Room.deeper {k : Nat} {A : Around} (r : Room (k + 1) A) (env : Env) : Room k (A.deeper env) :=
  ⟨r.hd, by have := r.dp; show A.depth + 1 + 3 * k + 5 < _; omega, by have := r.un; show A.units + 3 + 16 * k + 200 < _; omega⟩
theorem Room.in1 {k : Nat} {A : Around} (r : Room (k + 1) A) : Room k A.in1 :=
  ⟨r.hd, by have := r.dp; show A.depth + 3 * k + 5 < _; omega, by have := r.un; show A.units + 1 + 16 * k + 200 < _; omega⟩
theorem make_depth {A : Around} {C : Addr} {us : List Value} {kw : List (Str × Value)} : (A.under (.builtin "type.__call__" ⟨.ref C :: us, kw⟩)).depth = A.depth + 1 := by
  first | rfl | simp [Around.under, Code.weight, Code.isCreation, Code.isGuard, Code.isCaller, Code.frames, Code.isFrame, guardIds]
theorem make_units {A : Around} {C : Addr} {us : List Value} {kw : List (Str × Value)} : (A.under (.builtin "type.__call__" ⟨.ref C :: us, kw⟩)).units = A.units + 1 := by
  first | rfl | simp [Around.under, Code.cUnits, Code.frames, Code.isFrame]
theorem Room.make {k : Nat} {A : Around} (r : Room (k + 1) A) (C : Addr) (us : List Value) (kw : List (Str × Value)) : Room k (A.under (.builtin "type.__call__" ⟨.ref C :: us, kw⟩)) :=
  ⟨r.hd, by have := r.dp; rw [make_depth]; omega, by have := r.un; rw [make_units]; omega⟩
theorem Room.depth {k : Nat} {A : Around} (r : Room k A) : A.depth < recursionLimit := by have := r.dp; omega
theorem Room.units {k : Nat} {A : Around} (r : Room k A) : A.units + 64 < cLine := by have := r.un; omega
def tNil : TA := fun _ H Q => Q [] H
def tCons (ta : TE) (tr : TA) : TA := fun σ H Q => ta σ H fun x H1 => tr σ H1 fun xs H2 => Q (x :: xs) H2
section
variable {X : Cx} {e : Expr} {es : List Expr} {te : TE} {t : TA} {pos : Pos}
theorem pa_nil : PA X [] tNil := fun _ _ _ _ H Q I h => Calls.spliced_nil ⟨[], H, I, .nil, h⟩
theorem pa_cons (ha : PE X e te) (hr : PA X es t) (hs : starEach (e :: es) X.env = (false, eval e X.env) :: starEach es X.env := by rfl) : PA X (e :: es) (tCons te t) := by
  intro pos pins s σ H Q I h
  rw [hs]
  show wpAny _ _ (spliced ((false, eval e X.env) :: backTo pos (starEach es X.env))) _ _ s
  refine Calls.spliced_cons (thn (ha pins s σ H _ I h) fun u s1 ⟨x, H1, I1, r1, q1⟩ => ?_)
  exact thn (hr pos pins s1 σ H1 _ I1 q1) fun us s2 ⟨xs, H2, I2, r2, q2⟩ => ⟨x :: xs, H2, I2, .cons r1 r2, q2⟩
def tTup (t : TA) : TE := fun σ H Q => t σ H fun xs H1 => xs.length ≤ sizeLine ∧ ∀ p, H1 p = none → Q (.ref p) (upd H1 p (.tup xs))
def tLst (t : TA) : TE := fun σ H Q => t σ H fun xs H1 => xs.length ≤ sizeLine ∧ ∀ p, H1 p = none → Q (.ref p) (upd H1 p (.lst xs))
theorem pe_tup {x1} (h : PA X es t) : PE X (.Tuple es x1 pos) (tTup t) := by
  intro pins s σ H Q I hq
  refine wpAny_Tuple_spliced (thn (h pos pins s σ H _ I hq) fun us s1 ⟨xs, H1, I1, r, z, q⟩ => ⟨by rw [← r.length]; exact z, ?_⟩)
  have hf : H1 s1.heap.objs.size = none := I1.hok.fresh (Nat.le_refl _)
  refine ⟨.ref s1.heap.objs.size, upd H1 s1.heap.objs.size (.tup xs), I1.laid (t' := s1.toks) (fun b u e => Heap.get?_push_of_some _ e) (Nat.le_refl _) ?_, rfl, q _ hf⟩
  exact ⟨z, us, r, ⟨_, Heap.get?_push_size _ rfl, rfl, _, rfl⟩⟩
theorem pe_lst (h : PA X es t) : PE X (.List es pos) (tLst t) := by
  intro pins s σ H Q I hq
  refine wpAny_List_spliced (thn (h pos pins s σ H _ I hq) fun us s1 ⟨xs, H1, I1, r, z, q⟩ => ⟨by rw [← r.length]; exact z, ?_⟩)
  have hf : H1 s1.heap.objs.size = none := I1.hok.fresh (Nat.le_refl _)
  refine ⟨.ref s1.heap.objs.size, upd H1 s1.heap.objs.size (.lst xs), I1.laid (t' := s1.toks) (fun b u e => Heap.get?_push_of_some _ e) (Nat.le_refl _) ?_, rfl, q _ hf⟩
  exact ⟨z, us, 0, r, Heap.get?_push_size _ rfl⟩
end
abbrev Sp := List V → Hp → VK → XK → Prop
abbrev CXT := List Env → Hp → Shared → XK → Value → Shared → Prop
structure Env0 (P : Program) (w : World) (K : PySem.W.Frag) (mg : Str → Option Value) (base : Heap) (A : Around) (outer : List Env) (s : Shared) (H : Hp) : Prop where
  frames : A.frames = some outer
  mod : Mod K mg base
  bs : ∀ b o, base.get? b = some o → s.heap.get? b = some o ∧ H b = none
  bsz : base.objs.size ≤ s.heap.objs.size
  funs : s.heap.FunFrames base outer
  frf : ∀ b ∈ frs outer, H b = none
  hok : HOk P w H s.heap
  bare : AllBare s.gens
def CE (outer : List Env) (P : Program) (w : World) (H : Hp) (s : Shared) (Q : VK) (u : Value) (s' : Shared) : Prop :=
  ∃ v H', s'.os = s.os ∧ AllBare s'.gens ∧ Un (frs outer) [] H H' s.heap s'.heap ∧ HOk P w H' s'.heap ∧ RelV v u ∧ Q v H'
def CR (CX : CXT) (outer : List Env) (P : Program) (w : World) (H : Hp) (s : Shared) (Q : VK) (E : XK) (r : Result) (s' : Shared) : Prop :=
  match r with
  | .ok (.ret u) => CE outer P w H s Q u s'
  | .ok _ => False
  | .error e => CX outer H s E e s'
structure FnOk (P : Program) (w : World) (K : PySem.W.Frag) (mg : Str → Option Value) (base : Heap) (CX : CXT) (k : Nat) (f : Addr) (fd : FuncData) (ps : List Str) (sp : Sp) : Prop where
  len : ∀ vs H Q E, sp vs H Q E → vs.length = ps.length
  run : ∀ (A : Around) (outer : List Env) (s : Shared) (H : Hp) (args : Args) (us : List Value) (vs : List V) (Q : VK) (E : XK), Room k A → Env0 P w K mg base A outer s H → BindsTo s fd args (ps.zip us) → Vals vs us → sp vs H Q E →
    codeAny (model P w) A (.call (.ref f) args) (CR CX outer P w H s Q E) s
theorem FnOk.mono {P : Program} {w : World} {K : PySem.W.Frag} {mg : Str → Option Value} {base : Heap} {CX : CXT} {j k : Nat} {f : Addr} {fd : FuncData} {ps : List Str} {sp : Sp} (F : FnOk P w K mg base CX j f fd ps sp) (h : j ≤ k) :
    FnOk P w K mg base CX k f fd ps sp := ⟨F.len, fun A outer s H args us vs Q E hr => F.run A outer s H args us vs Q E (hr.mono h)⟩
theorem FnOk.imp {P : Program} {w : World} {K : PySem.W.Frag} {mg : Str → Option Value} {base : Heap} {CX : CXT} {k : Nat} {f : Addr} {fd : FuncData} {ps : List Str} {sp sp' : Sp} (F : FnOk P w K mg base CX k f fd ps sp)
    (h : ∀ vs H Q E, sp' vs H Q E → sp vs H Q E) : FnOk P w K mg base CX k f fd ps sp' :=
  ⟨fun vs H Q E q => F.len vs H Q E (h _ _ _ _ q), fun A outer s H args us vs Q E hr he hb hv hs => F.run A outer s H args us vs Q E hr he hb hv (h _ _ _ _ hs)⟩
theorem Env0.make {P : Program} {w : World} {K : PySem.W.Frag} {mg : Str → Option Value} {base : Heap} {A : Around} {outer : List Env} {s : Shared} {H : Hp} (e : Env0 P w K mg base A outer s H) (C : Addr) (us : List Value) (kw : List (Str × Value)) :
    Env0 P w K mg base (A.under (.builtin "type.__call__" ⟨.ref C :: us, kw⟩)) outer s H := ⟨by first | exact e.frames | (simpa [Around.under, Code.envs, Code.isFrame, pushEnvs] using e.frames), e.mod, e.bs, e.bsz, e.funs, e.frf, e.hok, e.bare⟩
theorem Env0.in1 {P : Program} {w : World} {K : PySem.W.Frag} {mg : Str → Option Value} {base : Heap} {A : Around} {outer : List Env} {s : Shared} {H : Hp} (e : Env0 P w K mg base A outer s H) :
    Env0 P w K mg base A.in1 outer s H := ⟨e.frames, e.mod, e.bs, e.bsz, e.funs, e.frf, e.hok, e.bare⟩
section
variable {X : Cx} {pins : List (Addr × Obj)} {σ : St} {H : Hp} {s s' : Shared}
theorem Inv.env0 (I : Inv X pins σ H s) : Env0 X.prog X.w X.K X.mg X.base X.A X.stack s H :=
  ⟨I.ok.frames, I.ok.mod, I.bs, Nat.le_trans I.ok.bsz I.sz, I.stack, I.stkFree, I.hok, I.bare⟩
theorem Inv.after {Q : VK} {u : Value} (I : Inv X pins σ H s) (h : CE X.stack X.prog X.w H s Q u s') : EP X pins σ Q u s' := by
  obtain ⟨v, H', os, bare, un, hok, r, q⟩ := h
  obtain ⟨hh, g, d, t, os'⟩ := s'
  obtain rfl : os' = s.os := os
  exact ⟨v, H', I.call (h' := hh) (g' := g) (d' := d) (t' := t) (ch := []) un hok bare (fun b z => absurd z (by simp)), r, q⟩
end
def tCall (sp : Sp) (dvs : List V) (E : XK) (t : TA) : TE := fun σ H Q => t σ H fun vs H1 => sp (vs ++ dvs) H1 Q E
def tMeth (C : Addr) (m : Str) (sp : Sp) (dvs : List V) (E : XK) (ta : TE) (t : TA) : TE := fun σ H Q => ta σ H fun x H1 => ∃ a dx fs, x = .ref a ∧ H1 a = some (.ins C dx fs) ∧ fs.lookup m = none ∧
  t σ H1 fun vs H2 => sp (x :: (vs ++ dvs)) H2 Q E
def tMake (C : Addr) (sp : Sp) (dvs : List V) (E : XK) (t : TA) : TE := fun σ H Q => t σ H fun vs H1 => ∀ x dx, H1 x = none → H1 dx = none → dx ≠ x →
  sp (.ref x :: (vs ++ dvs)) (upd (upd H1 dx (.own x)) x (.ins C dx [])) (fun v H2 => v = .non ∧ Q (.ref x) H2) E
def Binds (K : PySem.W.Frag) (fd : FuncData) (ps : List Str) (ds : List Value) : Prop :=
  ∀ (s : Shared) (us : List Value), K.In s.heap → (us ++ ds).length = ps.length → BindsTo s fd ⟨us, []⟩ (ps.zip (us ++ ds))
theorem Binds.all {K : PySem.W.Frag} {fd : FuncData} {ps : List Str} (h : ∀ us : List Value, us.length = ps.length → bindArgs fd ⟨us, []⟩ = pure (ps.zip us)) : Binds K fd ps [] := fun s us _ hl => by
  rw [List.append_nil] at hl ⊢
  exact .of_eq (h us hl)
def Passes (CX : CXT) (X : Cx) (E : XK) : Prop := ∀ (pins : List (Addr × Obj)) (σ : St) (H : Hp) (s : Shared) (e : Value) (s' : Shared), Inv X pins σ H s → CX X.stack H s E e s' → X.xe e s'
section
variable {X : Cx} {CX : CXT} {k : Nat} {f C : Addr} {fd : FuncData} {ps : List Str} {sp : Sp} {dvs : List V} {ds : List Value} {E : XK} {x m : Str} {p pos apos : Pos} {e o : Expr} {es : List Expr} {ta : TE} {t : TA}
theorem run_fn {pins : List (Addr × Obj)} {σ : St} {H : Hp} {s : Shared} {Q : VK} {us : List Value} {vs : List V} (F : FnOk X.prog X.w X.K X.mg X.base CX k f fd ps sp) (hr : Room k X.A) (hb : Binds X.K fd ps ds) (hd : Vals dvs ds) (hx : Passes CX X E)
    (I : Inv X pins σ H s) (r : Vals vs us) (h : sp (vs ++ dvs) H Q E) : wpAny (model X.prog X.w) X.A (call (.ref f) us) (EP X pins σ Q) X.xe s := by
  have r2 : Vals (vs ++ dvs) (us ++ ds) := r.append hd
  have hl : (us ++ ds).length = ps.length := by rw [← r2.length]; exact F.len _ _ _ _ h
  refine wpAny_call (codeAny_mono (F.run X.A X.stack s H ⟨us, []⟩ (us ++ ds) (vs ++ dvs) Q E hr I.env0 (hb s us I.kIn hl) r2 h) fun r s' hq => ?_)
  cases r with
  | error e => exact hx pins σ H s e s' I hq
  | ok fl =>
    cases fl with
    | ret u => exact I.after hq
    | next => exact False.elim hq
    | brk => exact False.elim hq
    | cont => exact False.elim hq
theorem pe_call (F : FnOk X.prog X.w X.K X.mg X.base CX k f fd ps sp) (hr : Room k X.A) (hg : Gl X x) (hm : X.mg x = some (.ref f)) (hk : PySem.W.keepIn X.K (.ref f) = true) (hb : Binds X.K fd ps ds) (hd : Vals dvs ds) (hx : Passes CX X E)
    (ha : PA X (e :: es) t) (hdb : (x == ("__debug__" : Str)) = false := by decide) (he : starEach (e :: es) X.env = (false, eval e X.env) :: starEach es X.env := by rfl) (hpl : (backTo pos (starEach es X.env)).any (·.1) = false := by rfl) :
    PE X (.Call (.Name x p) (e :: es) [] pos) (tCall sp dvs E t) := by
  intro pins s σ H Q I h
  refine wpAny_Call_Name_kw (ld_glob I hg hm ?_ hdb)
  refine PySem.W.callWith_K (h₀ := X.base) I.ok.mod.kin hk (thn (ha pos pins s σ H _ I h) fun us s1 ⟨vs, H1, I1, r, q⟩ => ⟨I1.kIn, ?_⟩) he hpl
  exact run_fn F hr hb hd hx I1 r q
theorem pe_meth {pl : Sem Bool} (he : PE X o ta) (c : Cls X.K C) (hm : Meth X.K C m f) (F : FnOk X.prog X.w X.K X.mg X.base CX k f fd ps sp) (hr : Room k X.A) (hb : Binds X.K fd ps ds) (hd : Vals dvs ds) (hx : Passes CX X E) (ha : PA X (e :: es) t)
    (hst : starEach (e :: es) X.env = (false, eval e X.env) :: starEach es X.env := by rfl) (hpl : (backTo pos (starEach es X.env)).any (·.1) = false := by rfl)
    (ht : eval (.Call (.Attribute o m apos) (e :: es) [] pos) X.env = (do
      let ov ← eval o X.env
      standAt apos.atName
      let (f, first) ← holding [ov] (getMethod ov m pl)
      callWith pos f first (backTo pos (starEach (e :: es) X.env)) (backToKw pos (keywordEach [] X.env))) := by rfl) :
    PE X (.Call (.Attribute o m apos) (e :: es) [] pos) (tMeth C m sp dvs E ta t) := by
  intro pins s σ H Q I h
  refine PySem.W.methodCall_KW (pl := pl) (thn (he pins s σ H _ I h) fun u s1 ⟨x, H1, I1, rx, a, dx, fs, ex, ea, l, q⟩ => ?_) ht
  subst ex
  obtain rfl : u = Value.ref a := rx
  refine getmeth_ok I1 ea c hm l ?_
  refine PySem.W.callWith_K (first := [.ref a]) (h₀ := X.base) I.ok.mod.kin hm.kp (thn (ha pos pins s1 σ H1 _ I1 q) fun us s2 ⟨vs, H2, I2, r, q2⟩ => ⟨I2.kIn, ?_⟩) hst hpl
  exact run_fn (us := .ref a :: us) (vs := .ref a :: vs) F hr hb hd hx I2 (.cons rfl r) q2
theorem pe_meth0 {pl : Sem Bool} (he : PE X o ta) (c : Cls X.K C) (hm : Meth X.K C m f) (F : FnOk X.prog X.w X.K X.mg X.base CX k f fd ps sp) (hr : Room k X.A) (hb : Binds X.K fd ps ds) (hd : Vals dvs ds) (hx : Passes CX X E)
    (ht : eval (.Call (.Attribute o m apos) [] [] pos) X.env = (do
      let ov ← eval o X.env
      standAt apos.atName
      let (f, first) ← holding [ov] (getMethod ov m pl)
      callWith pos f first (backTo pos (starEach [] X.env)) (backToKw pos (keywordEach [] X.env))) := by rfl) :
    PE X (.Call (.Attribute o m apos) [] [] pos) (tMeth C m sp dvs E ta tNil) := by
  intro pins s σ H Q I h
  refine PySem.W.methodCall_KW (pl := pl) (thn (he pins s σ H _ I h) fun u s1 ⟨x, H1, I1, rx, a, dx, fs, ex, ea, l, q⟩ => ?_) ht
  subst ex
  obtain rfl : u = Value.ref a := rx
  refine getmeth_ok I1 ea c hm l ?_
  exact PySem.W.callWith_K0 (first := [.ref a]) I1.kIn hm.kp (run_fn (us := [.ref a]) (vs := [.ref a]) F hr hb hd hx I1 (.cons rfl .nil) q)
structure Mk (K : PySem.W.Frag) (C f : Addr) : Prop where
  makes : PySem.W.makesIn K C = true
  init : PySem.W.findIn K (.ref C) "__init__" = some (some (.ref f))
  fn : PySem.W.isFn K (.ref f) = true
  kp : PySem.W.keepIn K (.ref C) = true
theorem run_make {pins : List (Addr × Obj)} {σ : St} {H : Hp} {s : Shared} {Q : VK} {us : List Value} {vs : List V} (M : Mk X.K C f) (F : FnOk X.prog X.w X.K X.mg X.base CX k f fd ps sp) (hr : Room (k + 1) X.A) (hb : Binds X.K fd ps ds) (hd : Vals dvs ds)
    (hx : Passes CX X E) (I : Inv X pins σ H s) (r : Vals vs us)
    (h : ∀ x dx, H x = none → H dx = none → dx ≠ x → sp (.ref x :: (vs ++ dvs)) (upd (upd H dx (.own x)) x (.ins C dx [])) (fun v H2 => v = .non ∧ Q (.ref x) H2) E) :
    wpAny (model X.prog X.w) X.A (call (.ref C) us) (EP X pins σ Q) X.xe s := by
  have hq := h (s.heap.objs.size + 1) s.heap.objs.size (I.hok.fresh (Nat.le_succ _)) (I.hok.fresh (Nat.le_refl _)) (Nat.ne_of_lt (Nat.lt_succ_self _))
  have I2 := Inv.made (C := C) I
  have r2 : Vals (V.ref (s.heap.objs.size + 1) :: (vs ++ dvs)) (Value.ref (s.heap.objs.size + 1) :: (us ++ ds)) := .cons rfl (r.append hd)
  have hl : (Value.ref (s.heap.objs.size + 1) :: us ++ ds).length = ps.length := by
    have e := r2.length
    rw [F.len _ _ _ _ hq] at e
    exact e.symm
  refine wpAny_call (make_map (f := f) I.kIn M.makes M.init (beq_iff_eq.mp M.fn) (codeAny_mono (F.run _ X.stack _ _ ⟨Value.ref (s.heap.objs.size + 1) :: us, []⟩ (Value.ref (s.heap.objs.size + 1) :: (us ++ ds)) _ _ E (hr.make C us [])
    (I2.env0.make C us []) (hb _ (Value.ref (s.heap.objs.size + 1) :: us) I2.kIn hl) r2 hq) fun r s' hq' => ?_))
  cases r with
  | error e => exact hx pins σ _ _ e s' I2 hq'
  | ok fl =>
    cases fl with
    | ret u =>
      obtain ⟨v, H', I3, rv, ev, q3⟩ := I2.after hq'
      subst ev
      exact ⟨rv, ⟨V.ref (s.heap.objs.size + 1), H', I3, rfl, q3⟩⟩
    | next => exact False.elim hq'
    | brk => exact False.elim hq'
    | cont => exact False.elim hq'
theorem pe_make (M : Mk X.K C f) (F : FnOk X.prog X.w X.K X.mg X.base CX k f fd ps sp) (hr : Room (k + 1) X.A) (hg : Gl X x) (hm : X.mg x = some (.ref C)) (hb : Binds X.K fd ps ds) (hd : Vals dvs ds) (hx : Passes CX X E)
    (ha : PA X (e :: es) t) (hdb : (x == ("__debug__" : Str)) = false := by decide) (he : starEach (e :: es) X.env = (false, eval e X.env) :: starEach es X.env := by rfl) (hpl : (backTo pos (starEach es X.env)).any (·.1) = false := by rfl) :
    PE X (.Call (.Name x p) (e :: es) [] pos) (tMake C sp dvs E t) := by
  intro pins s σ H Q I h
  refine wpAny_Call_Name_kw (ld_glob I hg hm ?_ hdb)
  refine PySem.W.callWith_K (h₀ := X.base) I.ok.mod.kin M.kp (thn (ha pos pins s σ H _ I h) fun us s1 ⟨vs, H1, I1, r, q⟩ => ⟨I1.kIn, ?_⟩) he hpl
  exact run_make M F hr hb hd hx I1 r q
end
def PK (X : Cx) (kws : List Keyword) (t : TA) : Prop :=
  ∀ (pos : Pos) (pins : List (Addr × Obj)) (s : Shared) (σ : St) (H : Hp) (Q : List V → Hp → Prop), Inv X pins σ H s → t σ H Q → wpAny (model X.prog X.w) X.A (evalAll ((backToKw pos (keywordEach kws X.env)).map (·.2))) (AP X pins σ Q) X.xe s
section
variable {X : Cx} {CX : CXT} {k : Nat} {f C : Addr} {fd : FuncData} {ps ks : List Str} {sp : Sp} {E : XK} {x m : Str} {p pos apos kpos : Pos} {e o : Expr} {es : List Expr} {kws : List Keyword} {te ta : TE} {t tk : TA} {nm : Option Str}
structure KBinds (K : PySem.W.Frag) (fd : FuncData) (ps ks : List Str) (g : List Value → List Value → List Value) (gV : List V → List V → List V) : Prop where
  to : ∀ (s : Shared) (us ws : List Value), K.In s.heap → (g us ws).length = ps.length → BindsTo s fd ⟨us, ks.zip ws⟩ (ps.zip (g us ws))
  rel : ∀ {vs : List V} {us : List Value} {zs : List V} {ws : List Value}, Vals vs us → Vals zs ws → Vals (gV vs zs) (g us ws)
variable {g : List Value → List Value → List Value} {gV : List V → List V → List V}
end
structure FnScope (N P : List Str) (sc : Scope) : Prop where
  kind : sc.kind = .function
  co : sc.isCoroutine = false
  gen : sc.isGenerator = false
  nd : N.Nodup
  pre : N.take P.length = P
  par : ∀ x ∈ P, sc.names.lookup x = some .local ∨ sc.names.lookup x = some .cell
  nofree : ∀ y ∈ sc.names, y.2 ≠ .free
theorem bindL_out {kindOf : Str → Option NameKind} {x : Str} : ∀ {binds : List (Str × Value)} {m : Str → Option Value}, (∀ v, (x, v) ∉ binds) → bindL kindOf binds m x = m x
  | [], _, _ => rfl
  | (n, v) :: r, m, h => by
    unfold bindL
    rw [bindL_out fun w hw => h w (List.mem_cons_of_mem _ hw)]
    split
    · have : x ≠ n := by rintro rfl; exact h v List.mem_cons_self
      simp [this]
    · rfl
theorem bindC_out {kindOf : Str → Option NameKind} {x : Str} : ∀ {binds : List (Str × Value)} {m : Str → Option Value}, (∀ v, (x, v) ∉ binds) → bindC kindOf binds m x = m x
  | [], _, _ => rfl
  | (n, v) :: r, m, h => by
    unfold bindC
    rw [bindC_out fun w hw => h w (List.mem_cons_of_mem _ hw)]
    split
    · rfl
    · have : x ≠ n := by rintro rfl; exact h v List.mem_cons_self
      simp [this]
theorem bindL_get {kindOf : Str → Option NameKind} {x : Str} {v : Value} : ∀ {P : List Str} {vs : List Value} {i : Nat} {m : Str → Option Value}, P.Nodup → P[i]? = some x → vs[i]? = some v → kindOf x = some .local →
    bindL kindOf (P.zip vs) m x = some v
  | [], _, _, _, _, h, _, _ => by simp at h
  | _ :: _, [], _, _, _, _, h, _ => by simp at h
  | p :: P, w :: vs, 0, m, nd, h1, h2, hk => by
    simp at h1 h2; subst h1; subst h2
    show bindL kindOf ((p, w) :: P.zip vs) m p = _
    unfold bindL
    rw [bindL_out fun v hv => (List.nodup_cons.mp nd).1 (List.of_mem_zip hv).1, if_pos hk]
    simp
  | p :: P, w :: vs, i + 1, m, nd, h1, h2, hk => by
    show bindL kindOf ((p, w) :: P.zip vs) m x = _
    unfold bindL
    exact bindL_get (i := i) (List.nodup_cons.mp nd).2 (by simpa using h1) (by simpa using h2) hk
theorem bindC_get {kindOf : Str → Option NameKind} {x : Str} {v : Value} : ∀ {P : List Str} {vs : List Value} {i : Nat} {m : Str → Option Value}, P.Nodup → P[i]? = some x → vs[i]? = some v → kindOf x ≠ some .local →
    bindC kindOf (P.zip vs) m x = some v
  | [], _, _, _, _, h, _, _ => by simp at h
  | _ :: _, [], _, _, _, _, h, _ => by simp at h
  | p :: P, w :: vs, 0, m, nd, h1, h2, hk => by
    simp at h1 h2; subst h1; subst h2
    show bindC kindOf ((p, w) :: P.zip vs) m p = _
    unfold bindC
    rw [bindC_out fun v hv => (List.nodup_cons.mp nd).1 (List.of_mem_zip hv).1, if_neg hk]
    simp
  | p :: P, w :: vs, i + 1, m, nd, h1, h2, hk => by
    show bindC kindOf ((p, w) :: P.zip vs) m x = _
    unfold bindC
    exact bindC_get (i := i) (List.nodup_cons.mp nd).2 (by simpa using h1) (by simpa using h2) hk
def start (N : List Str) (vs : List V) : St := vs.map some ++ List.replicate (N.length - vs.length) none
def cxOf (CX : CXT) (P : Program) (w : World) (K : PySem.W.Frag) (mg : Str → Option Value) (base : Heap) (N : List Str) (qual : Str) (scope : Scope) (f : Addr) (cd : Value) (A : Around) (outer : List Env) (s : Shared) (H : Hp) (E : XK) : Cx where
  prog := P
  w := w
  K := K
  mg := mg
  base := base
  A := A.deeper (envOfC qual scope s.heap.objs.size f cd)
  N := N
  s₀ := s
  H₀ := H
  env := envOfC qual scope s.heap.objs.size f cd
  outer := outer
  stack := envOfC qual scope s.heap.objs.size f cd :: outer
  ex := []
  calm := true
  fn := fun _ => true
  pn := []
  xe := fun e s' => wpAny (model P w) (A.deeper (envOfC qual scope s.heap.objs.size f cd)) (leaving (envOfC qual scope s.heap.objs.size f cd) e) (fun _ s'' => CX outer H s E e s'') (fun e' s'' => CX outer H s E e' s'') s'
theorem cell_has {sc : Scope} {n : Nat} {x : Str} (h : sc.names.lookup x = some .cell) : ∃ c, (cellsFrom n sc.names []).lookup x = some c := by
  have q := PySem.W.cellsFrom_some sc.names n [] (.inl h)
  exact Option.isSome_iff_exists.mp q
theorem inv_start {CX : CXT} {P : Program} {w : World} {K : PySem.W.Frag} {mg : Str → Option Value} {base : Heap} {N ps : List Str} {qual : Str} {scope : Scope} {f : Addr} {cd : Value} {A : Around} {outer : List Env} {s s1 : Shared} {H : Hp} {E : XK} {us : List Value} {vs : List V}
    (S : FnScope N ps scope) (hd : A.handled = none) (e0 : Env0 P w K mg base A outer s H) (hl : vs.length = ps.length) (r : Vals vs us)
    (x : InCallC s s.heap.objs.size (bindL (envOfC qual scope s.heap.objs.size f cd).kindOf (ps.zip us) fun _ => none) (cellsFrom (s.heap.objs.size + 1) scope.names []) (bindC (envOfC qual scope s.heap.objs.size f cd).kindOf (ps.zip us) fun _ => none) s1) :
    Inv (cxOf CX P w K mg base N qual scope f cd A outer s H E) [] (start N vs) H s1 := by
  have hpl : ps.length ≤ N.length := by have := congrArg List.length S.pre; rw [List.length_take] at this; omega
  obtain ⟨h1, tk, rfl, hk⟩ := x.done
  have noA : ∀ b : Addr, b ∉ (cxOf CX P w K mg base N qual scope f cd A outer s H E).ex := fun b z => absurd (show b ∈ ([] : List Addr) from z) (by simp)
  refine ⟨⟨e0.mod, S.kind, rfl, rfl, Nat.le_refl _, fun y z c h1 h2 => ?_, fun y hy => ?_, fun y c _ h => ?_, fun _ => hd, Around.frames_deeper e0.frames, .inr ⟨rfl, rfl⟩, fun b z => absurd z (noA b), e0.bs, e0.bsz, fun b _ _ => noA b, fun b z => absurd z (noA b), e0.funs, e0.frf⟩,
    rfl, e0.bare, Un.kept hk, ⟨_, x.toInCall.ns, fun i y v h1 h2 h3 => ?_⟩, fun y c h => ⟨_, x.cell y c h⟩, e0.hok.fresh (Nat.le_refl _), fun y c h => ?_, fun p hp => absurd (show p ∈ ([] : List (Addr × Obj)) from hp) (by simp), e0.hok.kept hk, ?_⟩
  · exact name_of_addr x.apart (PySem.mem_of_lookup h1) (PySem.mem_of_lookup h2)
  · have hy : scope.names.lookup y = some .cell ∨ scope.names.lookup y = some .free := hy
    rcases hy with hy | hy
    · exact cell_has hy
    · exact absurd rfl (S.nofree _ (PySem.mem_of_lookup hy))
  · exact Nat.le_of_lt (x.above y c (PySem.mem_of_lookup h))
  · have hi : i < vs.length := by
      unfold start at h2
      by_cases hi : i < vs.length
      · exact hi
      · rw [List.getElem?_append_right (by simpa using hi)] at h2
        rw [List.getElem?_replicate] at h2
        split at h2 <;> cases h2
    have ha : vs[i]? = some v := by
      unfold start at h2
      rw [List.getElem?_append_left (by simpa using hi), List.getElem?_map] at h2
      cases e : vs[i]? with
      | none => rw [e] at h2; cases h2
      | some a => rw [e] at h2; cases h2; rfl
    obtain ⟨u, hu, rv⟩ := r.get ha
    have hp : ps[i]? = some y := by
      rw [← S.pre, List.getElem?_take_of_lt (by omega)]; exact h1
    have ndP : ps.Nodup := by rw [← S.pre]; exact S.nd.sublist (List.take_sublist _ _)
    refine ⟨u, rv, ?_⟩
    rcases S.par y (List.mem_of_getElem? hp) with k | k
    · exact .inl ⟨k, bindL_get ndP hp hu k⟩
    · obtain ⟨c, e⟩ := cell_has (n := s.heap.objs.size + 1) k
      refine .inr ⟨.inl k, c, e, ?_⟩
      have q := x.cell y c e
      rw [bindC_get ndP hp hu (by show scope.names.lookup y ≠ _; rw [k]; decide)] at q
      exact q
  · exact e0.hok.fresh (Nat.le_of_lt (x.above y c (PySem.mem_of_lookup h)))
  · unfold start
    show _ = N.length
    rw [List.length_append, List.length_map, List.length_replicate]
    omega
theorem fn_of {CX : CXT} {P : Program} {w : World} {K : PySem.W.Frag} {mg : Str → Option Value} {base : Heap} {k : Nat} {f : Addr} {name qual : Str} {params : Arguments} {body : List Stmt} {scope : Scope} {dV kV doc pm cdv ct oc : Value} {an od : Option Addr}
    {osl : Array (Option Value)} {N ps : List Str} {sp : Sp} (lk : K.lookup f = some ⟨oc, od, .func (PySem.W.fnOf name qual params body scope dV kV doc pm an cdv ct), osl⟩) (hcd : PySem.W.codeIn K cdv qual = true) (S : FnScope N ps scope)
    (len : ∀ vs H Q E, sp vs H Q E → vs.length = ps.length)
    (hbody : ∀ (A : Around) (outer : List Env) (s : Shared) (H : Hp) (vs : List V) (Q : VK) (E : XK), Room k (A.deeper (envOfC qual scope s.heap.objs.size f cdv)) → sp vs H Q E →
      ∃ t, PSs (cxOf CX P w K mg base N qual scope f cdv A outer s H E) body t ∧ t { nx := fun _ H' => Q .non H', rt := Q } (start N vs) H) :
    FnOk P w K mg base CX (k + 1) f (PySem.W.fnOf name qual params body scope dV kV doc pm an cdv ct) ps sp := by
  refine ⟨len, fun A outer s H args us vs Q E hr e0 hb r hsp => ?_⟩
  have hl := len _ _ _ _ hsp
  have KX : K.In s.heap := e0.mod.kin.keeps fun b o e => (e0.bs b o e).1
  have lim : s.heap.NoLimit := e0.mod.nolimit.keeps fun b o e => (e0.bs b o e).1
  have hkind : ∀ y ∈ ps.zip us, scope.names.lookup y.1 = some .local ∨ (scope.names.lookup y.1 = some .cell ∧ ((cellsFrom (s.heap.objs.size + 1) scope.names []).lookup y.1).isSome = true) := fun ⟨n, v⟩ hy => by
    rcases S.par n (List.of_mem_zip hy).1 with q | q
    · exact .inl q
    · exact .inr ⟨q, PySem.W.cellsFrom_some _ _ _ (.inl q)⟩
  refine codeAny_call_function hr.depth (KX _ _ lk) rfl S.co S.gen rfl (PySem.W.codeRec_of KX hcd) (hb _ _ _ _ ?_)
  refine wpAny_newFunctionEnv_cells S.kind hkind fun env he s1 x => ?_
  subst he
  refine ⟨lim.keeps x.toInCall.keep, codeAny_func ?_⟩
  obtain ⟨t, ht, hq⟩ := hbody A outer s H vs Q E (hr.deeper _) hsp
  have I : Inv (cxOf CX P w K mg base N qual scope f cdv A outer s H E) [] (start N vs) H s1 := inv_start S hr.hd e0 hl r x
  refine wpAny_mono (ht [] s1 (start N vs) H _ I hq) (fun fl s' hs => ?_) fun e s' hs => hs
  have fin : ∀ {σ' : St} {H' : Hp} {v : V} {u : Value}, Inv (cxOf CX P w K mg base N qual scope f cdv A outer s H E) [] σ' H' s' → RelV v u → Q v H' → CE outer P w H s Q u s' :=
    fun {σ' H' v u} J rv q => ⟨v, H', J.os, J.bare, J.base, J.hok, rv, q⟩
  cases fl with
  | ret u =>
    obtain ⟨v, σ', H', J, rv, q⟩ := hs
    exact fin J rv q
  | next =>
    obtain ⟨σ', H', J, q⟩ := hs
    exact fin (v := V.non) (u := Value.none) J rfl q
  | brk =>
    obtain ⟨_, _, _, q⟩ := hs
    exact False.elim q
  | cont =>
    obtain ⟨_, _, _, q⟩ := hs
    exact False.elim q
end L2
namespace L2
open PySem PySem.Spec PyProof.Rows
section
variable {X : Cx} {x : Str} {p pos : Pos} {e : Expr} {es : List Expr} {t : TA} {id T : String} {r : List V → Hp → VK → Prop}
def tCB (r : List V → Hp → VK → Prop) (t : TA) : TE := fun σ H Q => t σ H fun vs H1 => r vs H1 Q
theorem pe_callB (hc : CallR X (.builtin id) r) (hg : Gl X x) (hm : X.mg x = none) (hv : bootBuiltins x = some (.builtin id)) (ha : PA X (e :: es) t) (hn : x ≠ "__name__" := by decide) (hdb : (x == ("__debug__" : Str)) = false := by decide)
    (he : starEach (e :: es) X.env = (false, eval e X.env) :: starEach es X.env := by rfl) (hpl : (backTo pos (starEach es X.env)).any (·.1) = false := by rfl) : PE X (.Call (.Name x p) (e :: es) [] pos) (tCB r t) := by
  intro pins s σ H Q I h
  refine wpAny_Call_Name_kw (ld_blt I hg hm hv ?_ hn hdb)
  exact PyProof.Rows.callWith_builtin1 (thn (ha pos pins s σ H _ I h) fun us s1 ⟨vs, H1, I1, r1, q1⟩ => hc pins s1 σ H1 vs us Q I1 r1 q1) he hpl
theorem pe_callTy (hc : CallR X (.type T) r) (hg : Gl X x) (hm : X.mg x = none) (hv : bootBuiltins x = some (.type T)) (ha : PA X (e :: es) t) (hn : x ≠ "__name__" := by decide) (hdb : (x == ("__debug__" : Str)) = false := by decide)
    (he : starEach (e :: es) X.env = (false, eval e X.env) :: starEach es X.env := by rfl) (hpl : (backTo pos (starEach es X.env)).any (·.1) = false := by rfl) : PE X (.Call (.Name x p) (e :: es) [] pos) (tCB r t) := by
  intro pins s σ H Q I h
  refine wpAny_Call_Name_kw (ld_blt I hg hm hv ?_ hn hdb)
  exact PyProof.Rows.callWith_type1 (thn (ha pos pins s σ H _ I h) fun us s1 ⟨vs, H1, I1, r1, q1⟩ => hc pins s1 σ H1 vs us Q I1 r1 q1) he hpl
end
end L2
namespace HT
open PySem PyProof.Rows
section
open PySem.SeqAt
open PySem.AutoSeq1 (wpAny_loadPart')
open PySem.MeetsSeq PySem.MeetsSeq2 PySem.MeetsSeq3
end
section
variable {prog : Program} {w : World} {A : Around} {E : Value → Shared → Prop} {s : Shared}
theorem cat_tup {t b : Addr} {vs ws : List Value} {Q : Value → Shared → Prop} (ht : IsTup s.heap t vs.toArray) (hb : IsTup s.heap b ws.toArray) (hv : vs ≠ [])
    (h1 : ws = [] → Q (.ref t) s) (h2 : ws ≠ [] → Q (.ref s.heap.objs.size) { s with heap := s.heap.push { cls := .type "tuple", data := .seq (vs ++ ws).toArray } })
    (hsz : vs.length + ws.length ≤ sizeLine) : wpAny (model prog w) A (binaryOp .Add (.ref t) (.ref b)) Q E s := by
  obtain ⟨⟨cls, dd, data, sl⟩, ho, hc, n, hd⟩ := id ht
  obtain ⟨⟨cls2, dd2, data2, sl2⟩, ho2, hc2, n2, hd2⟩ := id hb
  simp only at hc hd hc2 hd2
  subst hc hd hc2 hd2
  have e : vs.toArray ++ ws.toArray = (vs ++ ws).toArray := by simp
  by_cases hw : ws = []
  · exact concat_meets ⟨_, ho, rfl⟩ ⟨_, ho2, rfl⟩ noFill_tuple_add seq_tuple_add PySem.F.slot_tuple_add PySem.F.entry_tuple_add (PySem.F.args_tuple_add_2 _ _)
      (tuple_addW1 t b vs.toArray ws.toArray n n2 dd dd2 sl sl2 (by simpa using hv) (by simp [hw])) ⟨ho, ho2, h1 hw⟩
  · refine concat_meets ⟨_, ho, rfl⟩ ⟨_, ho2, rfl⟩ noFill_tuple_add seq_tuple_add PySem.F.slot_tuple_add PySem.F.entry_tuple_add (PySem.F.args_tuple_add_2 _ _)
      (tuple_addW2 t b vs.toArray ws.toArray n n2 dd dd2 sl sl2 (by simpa using hv) (by simpa using hw) (by rw [List.size_toArray, List.size_toArray]; exact hsz)) ⟨ho, ho2, ?_⟩
    rw [e]
    exact h2 hw
def sIx (n d : Nat) : Option Int → Nat
  | none => d
  | some v => if v < 0 then (v + (n : Int)).toNat else min v.toNat n
theorem sIx_none (n d : Nat) : sIx n d none = d := rfl
theorem sIx_nat (n d k : Nat) : sIx n d (some (k : Int)) = min k n := by
  show (if (k : Int) < 0 then ((k : Int) + (n : Int)).toNat else min (k : Int).toNat n) = min k n
  rw [if_neg (by omega), Int.toNat_natCast]
theorem sIx_le (n d : Nat) (hd : d ≤ n) (o : Option Int) : sIx n d o ≤ n := by
  cases o with
  | none => exact hd
  | some v =>
    show (if v < 0 then (v + (n : Int)).toNat else min v.toNat n) ≤ n
    by_cases hv : v < 0
    · rw [if_pos hv]; omega
    · rw [if_neg hv]; exact Nat.min_le_right _ _
theorem clip_eq (v : Int) (n d : Nat) : (if v < 0 then max (v + (n : Int)) 0 else min v (n : Int)) = ((sIx n d (some v) : Nat) : Int) := by
  show (if v < 0 then max (v + (n : Int)) 0 else min v (n : Int)) = (((if v < 0 then (v + (n : Int)).toNat else min v.toNat n) : Nat) : Int)
  by_cases hv : v < 0
  · simp only [if_pos hv]; omega
  · simp only [if_neg hv]; omega
theorem adjust_gen (lo hi : Option Int) (n : Nat) : Builtin.Slice.sliceAdjust lo hi 1 (n : Int) = (((sIx n 0 lo : Nat) : Int), ((sIx n n hi : Nat) : Int)) := by
  have h1 : ¬ ((1 : Int) < 0) := by omega
  unfold Builtin.Slice.sliceAdjust
  simp only [h1, if_false]
  refine Prod.ext ?_ ?_
  · cases lo with
    | none => rfl
    | some v => exact clip_eq v n 0
  · cases hi with
    | none => rfl
    | some v => exact clip_eq v n n
theorem places_gen (i j : Nat) : Builtin.Slice.slicePlaces (i : Int) (j : Int) 1 = j - i := by
  unfold Builtin.Slice.slicePlaces
  have h1 : (1 : Int) > 0 := by omega
  simp only [h1, if_true, Int.ediv_one]
  split <;> omega
theorem slicePart_ {v : Value} {o : Option Int} {Q : Option Int → Shared → Prop} (p : IsPart v o) (h : Q o s) : wpAny (model prog w) A (Builtin.Slice.slicePartIndex v) Q E s := by
  cases p with
  | none => exact slicePart_none h
  | int i t => exact slicePart_int h
theorem sliceApplied_gen {sl : Addr} {vl vu : Value} {lo hi : Option Int} {n : Nat} {Q : Int × Int × Nat → Shared → Prop} (hs : s.heap.IsSliceOf sl vl vu .none) (pl : IsPart vl lo) (pu : IsPart vu hi)
    (h : Q (((sIx n 0 lo : Nat) : Int), 1, sIx n n hi - sIx n 0 lo) s) : wpAny (model prog w) A (Builtin.Slice.sliceApplied (.ref sl) (pure (n : Int))) Q E s := by
  obtain ⟨os, hos, hcs, hds⟩ := id hs
  unfold Builtin.Slice.sliceApplied Builtin.Slice.sliceFields
  refine wpAny_bind (wpAny_bind (wpAny_field hos hds (x := vl) rfl (wpAny_bind (wpAny_field hos hds (x := vu) rfl (wpAny_bind (wpAny_field hos hds (x := .none) rfl (wpAny_pure ?_)))))))
  refine wpAny_bind (slicePart_none ?_)
  show wpAny _ _ (if ((1 : Int) == 0) = true then _ else _) _ _ s
  rw [if_neg (by decide)]
  refine wpAny_bind (slicePart_ pl (wpAny_bind (slicePart_ pu (wpAny_bind (wpAny_pure ?_)))))
  show wpAny _ _ (match Builtin.Slice.sliceAdjust lo hi 1 (n : Int) with | (lo, hi) => pure (lo, (1 : Int), Builtin.Slice.slicePlaces lo hi 1)) _ _ s
  rw [adjust_gen lo hi n]
  show wpAny _ _ (pure (((sIx n 0 lo : Nat) : Int), (1 : Int), Builtin.Slice.slicePlaces ((sIx n 0 lo : Nat) : Int) ((sIx n n hi : Nat) : Int) 1)) _ _ s
  rw [places_gen]
  exact wpAny_pure h
theorem pick_gen (xs : Array Value) (i k : Nat) : ((List.range k).filterMap fun (m : Nat) => xs[((i : Int) + (m : Int) * 1).toNat]?).toArray = ((xs.toList.drop i).take k).toArray := by
  have e : (fun (m : Nat) => xs[((i : Int) + (m : Int) * 1).toNat]?) = fun m => xs[i + m]? := by
    funext m
    have : ((i : Int) + (m : Int) * 1).toNat = i + m := by omega
    rw [this]
  rw [e]
  have := pick_run xs i k
  rw [List.filterMap_map] at this
  have e2 : ((fun x => xs[x]?) ∘ fun x => i + x) = fun m => xs[i + m]? := rfl
  rw [e2] at this
  rw [this]
theorem getItem_tuple_cut {t sl : Addr} {items : Array Value} {vl vu : Value} {lo hi : Option Int} {Q : Value → Shared → Prop} (ht : IsTup s.heap t items) (hs : s.heap.IsSliceOf sl vl vu .none) (pl : IsPart vl lo) (pu : IsPart vu hi)
    (hw : ¬ (sIx items.size 0 lo = 0 ∧ sIx items.size items.size hi = items.size))
    (h : Q (.ref s.heap.objs.size) { s with heap := s.heap.push { cls := .type "tuple", data := .seq ((items.toList.drop (sIx items.size 0 lo)).take (sIx items.size items.size hi - sIx items.size 0 lo)).toArray } })
    (hsz : items.size ≤ sizeLine) : wpAny (model prog w) A (getItem (.ref t) (.ref sl)) Q E s := by
  have htake : sizeOk (.seq ((items.toList.drop (sIx items.size 0 lo)).take (sIx items.size items.size hi - sIx items.size 0 lo)).toArray) := by
    show ((items.toList.drop (sIx items.size 0 lo)).take (sIx items.size items.size hi - sIx items.size 0 lo)).toArray.size ≤ sizeLine
    rw [List.size_toArray, List.length_take, List.length_drop, Array.length_toList]
    omega
  have hj : sIx items.size items.size hi ≤ items.size := sIx_le _ _ (Nat.le_refl _) hi
  obtain ⟨os, hos, hcs, hds⟩ := id hs
  have hTs : s.TypeIs (.ref sl) "slice" := ⟨os, hos, hcs⟩
  unfold getItem
  try with_reducible refine wpAny_holding ?_
  first | refine wpAny_bind (wpAny_pure ?_) | skip
  refine wpAny_bind (wpAny_sequenceKey ht.typeIs (by decide) ?_)
  refine wpAny_bind (wpAny_callSpecial?_slot (name := Str.ofString "__getitem__") ht.typeIs PyProof.Rows.slot_tuple_getitem
    (wpAny_call_entry PyProof.Rows.slot_tuple_getitem ht.typeIs entry_tuple_getitem ?_ (args_tuple_getitem _ _)))
  show wpAny _ _ (Builtin.Tuple.tupleItemsOf (.ref t) >>= _) _ _ s
  refine wpAny_bind (tupleItemsOf_ ht ?_)
  refine wpAny_bind (wpAny_typeOf hTs ?_)
  rw [if_pos (by decide)]
  refine wpAny_bind (sliceApplied_gen hs pl pu ?_)
  have hno : ¬ ((((sIx items.size 0 lo : Nat) : Int) == 0 && (1 : Int) == 1 && (sIx items.size items.size hi - sIx items.size 0 lo) == items.size) = true) := by
    intro q
    rw [Bool.and_eq_true, Bool.and_eq_true] at q
    have q1 : ((sIx items.size 0 lo : Nat) : Int) = 0 := eq_of_beq q.1.1
    have q2 : sIx items.size items.size hi - sIx items.size 0 lo = items.size := eq_of_beq q.2
    exact hw ⟨by omega, by omega⟩
  show wpAny _ _ (if (((sIx items.size 0 lo : Nat) : Int) == 0 && (1 : Int) == 1 && (sIx items.size items.size hi - sIx items.size 0 lo) == items.size) = true then _ else _) _ _ s
  rw [if_neg hno, pick_gen]
  first
    | exact wpAny_bind (m := Builtin.Tuple.tupleExact _) (wpAny_newObj_type (wpAny_pure ⟨_, rfl, wpAny_pure h⟩) htake)
    | exact wpAny_bind (m := Builtin.Tuple.tupleExact _) (wpAny_newObj_type (wpAny_bind (wpAny_pure (wpAny_pure ⟨_, rfl, wpAny_pure h⟩))) htake)
    | exact wpAny_bind (wpAny_bind (m := Builtin.Tuple.tupleExact _) (wpAny_newObj_type (wpAny_pure (wpAny_pure ⟨_, rfl, wpAny_pure h⟩)) htake))
    | exact wpAny_bind (wpAny_bind (m := Builtin.Tuple.tupleExact _) (wpAny_newObj_type (wpAny_pure ⟨_, rfl, wpAny_pure h⟩) htake))
end
end HT
namespace L2
open PySem PySem.Spec PyProof.Rows
abbrev TO := St → Hp → (Option Int → Hp → Prop) → Prop
def PO (X : Cx) (e : Option Expr) (t : TO) : Prop :=
  ∀ (pins : List (Addr × Obj)) (s : Shared) (σ : St) (H : Hp) (Q : Option Int → Hp → Prop), Inv X pins σ H s → t σ H Q →
    wpAny (model X.prog X.w) X.A (evalPart e X.env) (fun u s' => ∃ o H', Inv X pins σ H' s' ∧ IsPart u o ∧ Q o H') X.xe s
def tNoPart : TO := fun _ H Q => Q none H
def tPart (t : TE) : TO := fun σ H Q => t σ H fun x H1 => ∃ i, x = .int i ∧ Q (some i) H1
theorem intsAre_of {ns : List Int} : ∀ {us : List Value}, Vals (ns.map V.int) us → IntsAre us ns := by
  induction ns with
  | nil => intro us r; rw [List.map_nil] at r; cases r; exact .nil
  | cons n ns ih =>
    intro us r
    rw [List.map_cons] at r
    cases r with
    | cons r1 r2 =>
      obtain ⟨t, e⟩ := r1
      subst e
      exact .cons n t (ih r2)
section
variable {X : Cx} {e : Expr} {te : TE} {lo hi : Option Expr} {tl th : TO} {pos p2 : Pos}
theorem po_none : PO X none tNoPart := by
  intro pins s σ H Q I h
  rw [evalPart_none]
  exact wpAny_pure ⟨none, H, I, .none, h⟩
theorem po_some (h : PE X e te) : PO X (some e) (tPart te) := by
  intro pins s σ H Q I hw
  rw [evalPart_some]
  refine thn (h pins s σ H _ I hw) fun u s1 ⟨x, H1, I1, r1, q1⟩ => ?_
  obtain ⟨i, rfl, q⟩ := q1
  obtain ⟨t, rfl⟩ := r1
  exact ⟨some i, H1, I1, .int i t, q⟩
def SlR (X : Cx) (r : V → Option Int → Option Int → Hp → VK → Prop) : Prop :=
  ∀ (pins : List (Addr × Obj)) (s : Shared) (σ : St) (H : Hp) (x : V) (v vl vu : Value) (lo hi : Option Int) (sl : Addr) (Q : VK), Inv X pins σ H s → RelV x v → s.heap.IsSliceOf sl vl vu .none → IsPart vl lo → IsPart vu hi → r x lo hi H Q →
    ∃ T id, typeLookup (.type T) "__getitem__" = pure (some (.builtin id)) ∧ s.TypeIs v T ∧ wpAny (model X.prog X.w) X.A (getItem v (.ref sl)) (EP X pins σ Q) X.xe s
theorem SlR.or {r r' : V → Option Int → Option Int → Hp → VK → Prop} (h : SlR X r) (h' : SlR X r') : SlR X (fun x lo hi H Q => r x lo hi H Q ∨ r' x lo hi H Q) := by
  intro pins s σ H x v vl vu lo hi sl Q I rx hs pl pu q
  rcases q with q | q
  · exact h pins s σ H x v vl vu lo hi sl Q I rx hs pl pu q
  · exact h' pins s σ H x v vl vu lo hi sl Q I rx hs pl pu q
def tSl (r : V → Option Int → Option Int → Hp → VK → Prop) (te : TE) (tl th : TO) : TE := fun σ H Q => te σ H fun x H1 => tl σ H1 fun l H2 => th σ H2 fun u H3 => r x l u H3 Q
theorem pe_slice {r : V → Option Int → Option Int → Hp → VK → Prop} (hr : SlR X r) (he : PE X e te) (hl : PO X lo tl) (hu : PO X hi th) : PE X (.Subscript e (.Slice lo hi none p2) pos) (tSl r te tl th) := by
  intro pins s σ H Q I h
  refine Subscript_ (thn (he pins s σ H _ I h) fun v s1 ⟨x, H1, I1, r1, q1⟩ => ?_)
  refine wpAny_Slice (thn (hl pins s1 σ H1 _ I1 q1) fun vl s2 ⟨l, H2, I2, pl, q2⟩ => thn (hu pins s2 σ H2 _ I2 q2) fun vu s3 ⟨u, H3, I3, pu, q3⟩ => ?_)
  rw [evalPart_none]
  refine wpAny_pure ?_
  have I4 : Inv X pins σ H3 { s3 with heap := s3.heap.push { cls := .type "slice", data := .fields #[vl, vu, .none] } } := I3.kept (t' := s3.toks) fun b ob q => Heap.get?_push_of_some _ q
  obtain ⟨T, id, hT, ht, hg⟩ := hr pins { s3 with heap := s3.heap.push { cls := .type "slice", data := .fields #[vl, vu, .none] } } σ H3 x v vl vu l u s3.heap.objs.size Q I4 r1 (Heap.IsSliceOf.new ..) pl pu q3
  show wpAny (model X.prog X.w) X.A (subscriptTail e (.Slice lo hi none p2) v (.ref s3.heap.objs.size)) (EP X pins σ Q) X.xe { s3 with heap := s3.heap.push { cls := .type "slice", data := .fields #[vl, vu, .none] } }
  exact tail_any (ops := [.ref s3.heap.objs.size, v]) ht hT hg (by with_unfolding_all rfl)
def cutV (xs : List V) (lo hi : Option Int) : List V := (xs.drop (HT.sIx xs.length 0 lo)).take (HT.sIx xs.length xs.length hi - HT.sIx xs.length 0 lo)
theorem cutV_length (xs : List V) (lo hi : Option Int) : (cutV xs lo hi).length ≤ xs.length := by
  unfold cutV
  rw [List.length_take, List.length_drop]
  omega
def rSlT (K : PySem.W.Frag) : V → Option Int → Option Int → Hp → VK → Prop := fun x lo hi H Q => ∃ a xs, x = .ref a ∧ SqT K H a xs ∧
  ¬ (HT.sIx xs.length 0 lo = 0 ∧ HT.sIx xs.length xs.length hi = xs.length) ∧ ∀ p, H p = none → Q (.ref p) (upd H p (.tup (cutV xs lo hi)))
theorem sl_tup : SlR X (rSlT X.K) := by
  intro pins s σ H x v vl vu lo hi sl Q I rx hs pl pu h
  obtain ⟨a, xs, rfl, hx, hw, q⟩ := h
  cases rx
  obtain ⟨its, r, ht, hz⟩ := I.tuple hx
  have hlen : its.toArray.size = xs.length := by rw [List.size_toArray]; exact r.length.symm
  refine ⟨"tuple", _, PyProof.Rows.slot_tuple_getitem.lookup, ht.typeIs, ?_⟩
  refine HT.getItem_tuple_cut ht hs pl pu (by rw [hlen]; exact hw) ?_ (by rw [hlen]; exact hz)
  rw [hlen]
  refine ⟨.ref s.heap.objs.size, _, I.laid (t' := s.toks) (o := .tup (cutV xs lo hi)) (fun b ob q => Heap.get?_push_of_some _ q) (Nat.le_refl _) ?_, rfl, q _ (I.hok.fresh (Nat.le_refl _))⟩
  exact ⟨Nat.le_trans (cutV_length xs lo hi) hz, _, (r.drop (HT.sIx xs.length 0 lo)).take (HT.sIx xs.length xs.length hi - HT.sIx xs.length 0 lo), IsTup.new _ _⟩
def rCatT (K : PySem.W.Frag) : R2 := fun x y H Q => ∃ a b xs ys, x = .ref a ∧ y = .ref b ∧ SqT K H a xs ∧ SqT K H b ys ∧ xs ≠ [] ∧ xs.length + ys.length ≤ sizeLine ∧
  (ys = [] → Q (.ref a) H) ∧ (ys ≠ [] → ∀ p, H p = none → Q (.ref p) (upd H p (.tup (xs ++ ys))))
theorem Vals.nil_iff {xs : List V} {us : List Value} (r : Vals xs us) : us = [] ↔ xs = [] := by
  cases r with
  | nil => simp
  | cons _ _ => simp
theorem op_catT : OpR X (binaryOp .Add) (rCatT X.K) := by
  intro pins s σ H x y v u Q I rx ry h
  obtain ⟨a, b, xs, ys, rfl, rfl, ha, hb, hx, hz, q1, q2⟩ := h
  cases rx
  cases ry
  obtain ⟨its, r1, p1, _⟩ := I.tuple ha
  obtain ⟨its2, r2, p2, _⟩ := I.tuple hb
  refine HT.cat_tup p1 p2 (fun z => hx (r1.nil_iff.mp z)) (fun z => ⟨.ref a, H, I, rfl, q1 (r2.nil_iff.mp z)⟩) (fun z => ?_) (by rw [← r1.length, ← r2.length]; exact hz)
  refine ⟨.ref s.heap.objs.size, _, I.laid (t' := s.toks) (o := .tup (xs ++ ys)) (fun b ob q => Heap.get?_push_of_some _ q) (Nat.le_refl _) ?_, rfl, q2 (fun w => z (r2.nil_iff.mpr w)) _ (I.hok.fresh (Nat.le_refl _))⟩
  exact ⟨by rw [List.length_append]; exact hz, _, r1.append r2, IsTup.new _ _⟩
end
end L2
namespace L2
open PySem PySem.Spec PyProof.Rows
def ixN (n : Nat) (i : Int) : Option Nat := if 0 ≤ i then (if i < n then some i.toNat else none) else if -(n : Int) ≤ i then some (i + n).toNat else none
def atI {α : Type} (xs : List α) (i : Int) : Option α := (ixN xs.length i).bind fun j => xs[j]?
theorem ixN_seq {n : Nat} {i : Int} {j : Nat} (h : ixN n i = some j) : seqIndex? i n = some j ∧ j < n ∧ -(n : Int) ≤ i ∧ i < n := by
  unfold ixN at h
  by_cases h0 : 0 ≤ i
  · rw [if_pos h0] at h
    by_cases h1 : i < n
    · rw [if_pos h1] at h
      have e : i.toNat = j := Option.some.inj h
      exact ⟨by rw [seqIndex_of h0 h1, e], by omega, by omega, h1⟩
    · rw [if_neg h1] at h; cases h
  · rw [if_neg h0] at h
    by_cases h1 : -(n : Int) ≤ i
    · rw [if_pos h1] at h
      have e : (i + n).toNat = j := Option.some.inj h
      exact ⟨by rw [seqIndex_neg (by omega) h1, e], by omega, h1, by omega⟩
    · rw [if_neg h1] at h; cases h
theorem atI_get {α : Type} {xs : List α} {i : Int} {v : α} (h : atI xs i = some v) : ∃ j, seqIndex? i xs.length = some j ∧ xs[j]? = some v ∧ j < xs.length ∧ -(xs.length : Int) ≤ i ∧ i < xs.length := by
  unfold atI at h
  cases e : ixN xs.length i with
  | none => rw [e] at h; cases h
  | some j =>
    rw [e] at h
    obtain ⟨h1, h2, h3, h4⟩ := ixN_seq e
    exact ⟨j, h1, h, h2, h3, h4⟩
def PlainIx (b : Expr) : Prop := ∀ o i, subscripted b false o i = operate [o, i] (getItem o i)
def IxR (X : Cx) (r : R2) : Prop :=
  ∀ (value slice : Expr) (pins : List (Addr × Obj)) (s : Shared) (σ : St) (H : Hp) (x y : V) (v u : Value) (Q : VK), Inv X pins σ H s → RelV x v → RelV y u → r x y H Q →
    subscripted slice false v u = operate [v, u] (getItem v u) → wpAny (model X.prog X.w) X.A (subscriptTail value slice v u) (EP X pins σ Q) X.xe s
def MtR (X : Cx) (id : String) (r : V → List V → Hp → VK → Prop) : Prop :=
  ∀ (pins : List (Addr × Obj)) (s : Shared) (σ : St) (H : Hp) (x : V) (xs : List V) (v : Value) (us : List Value) (Q : VK), Inv X pins σ H s → RelV x v → Vals xs us → r x xs H Q →
    wpAny (model X.prog X.w) X.A (call (.builtin id) (v :: us)) (EP X pins σ Q) X.xe s
section
variable {X : Cx} {a b : Expr} {ta tb : TE} {pos : Pos}
theorem IxR.or {r r' : R2} (h : IxR X r) (h' : IxR X r') : IxR X (fun x y H Q => r x y H Q ∨ r' x y H Q) := by
  intro value slice pins s σ H x y v u Q I rx ry q hs
  rcases q with q | q
  · exact h value slice pins s σ H x y v u Q I rx ry q hs
  · exact h' value slice pins s σ H x y v u Q I rx ry q hs
theorem MtR.or {id : String} {r r' : V → List V → Hp → VK → Prop} (h : MtR X id r) (h' : MtR X id r') : MtR X id (fun x xs H Q => r x xs H Q ∨ r' x xs H Q) := by
  intro pins s σ H x xs v us Q I rx rs q
  rcases q with q | q
  · exact h pins s σ H x xs v us Q I rx rs q
  · exact h' pins s σ H x xs v us Q I rx rs q
theorem pe_ix {r : R2} (hr : IxR X r) (ha : PE X a ta) (hb : PE X b tb) (hs : PlainIx b) : PE X (.Subscript a b pos) (tOp r ta tb) := by
  intro pins s σ H Q I h
  exact Subscript_ (binT ha hb I h fun v u s2 x y H2 I2 rx ry q => hr a b pins s2 σ H2 x y v u Q I2 rx ry q (hs _ _))
def rIxL (K : PySem.W.Frag) : R2 := fun x y H Q => ∃ p xs i v, x = .ref p ∧ y = .int i ∧ SqL K H p xs ∧ atI xs i = some v ∧ Q v H
def rIxT (K : PySem.W.Frag) : R2 := fun x y H Q => ∃ p xs i v, x = .ref p ∧ y = .int i ∧ SqT K H p xs ∧ atI xs i = some v ∧ Q v H
def rIxS : R2 := fun x y H Q => ∃ z i c, x = .str z ∧ y = .int i ∧ z.length ≤ sizeLine ∧ atI z.cps.toList i = some c ∧ Q (.str ⟨#[c]⟩) H
theorem ix_list : IxR X (rIxL X.K) := by
  intro value slice pins s σ H x y v u Q I rx ry h hs
  obtain ⟨p, xs, i, z, rfl, rfl, hq, he, q⟩ := h
  cases rx
  obtain ⟨t, rfl⟩ := ry
  obtain ⟨its, r, pl, hz⟩ := I.list hq
  obtain ⟨j, h1, h2, h3, h4, h5⟩ := atI_get he
  obtain ⟨w, ew, rw'⟩ := r.get h2
  have hl := r.length
  have hn := line63
  have fin : EP X pins σ Q w s := ⟨z, H, I, rw', q⟩
  by_cases h0 : 0 ≤ i
  · have hj : i.toNat = j := by
      rw [seqIndex_of h0 h5] at h1
      exact Option.some.inj h1
    exact item_listR pl.isList h0 (by omega) (by rw [hj]; simpa using ew) fin hs
  · have hj : (i + (its.toArray.size : Int)).toNat = j := by
      rw [seqIndex_neg (by omega) h4] at h1
      rw [List.size_toArray, ← hl]
      exact Option.some.inj h1
    exact subscriptTail_builtinR (x := w) pl.isList.typeIs slot_list_getitem.lookup
      (wpAny_getItem_list_neg (Q := fun r s' => r = w ∧ EP X pins σ Q r s') pl.isList (by omega) (by rw [List.size_toArray] <;> omega) (by omega) (by rw [hj]; simpa using ew) ⟨rfl, fin⟩) hs
theorem ix_tup : IxR X (rIxT X.K) := by
  intro value slice pins s σ H x y v u Q I rx ry h hs
  obtain ⟨p, xs, i, z, rfl, rfl, hq, he, q⟩ := h
  cases rx
  obtain ⟨t, rfl⟩ := ry
  obtain ⟨its, r, pl, hz⟩ := I.tuple hq
  obtain ⟨j, h1, h2, h3, h4, h5⟩ := atI_get he
  obtain ⟨w, ew, rw'⟩ := r.get h2
  have hl := r.length
  have hn := line63
  have fin : EP X pins σ Q w s := ⟨z, H, I, rw', q⟩
  exact subscriptTail_builtinR (x := w) pl.typeIs slot_tuple_getitem.lookup
    (getItem_tuple (j := j) (Q := fun r s' => r = w ∧ EP X pins σ Q r s') pl (by omega) (by omega) (by rw [List.size_toArray, ← hl]; exact h1) (by simpa using ew) ⟨rfl, fin⟩) hs
theorem ix_str : IxR X rIxS := by
  intro value slice pins s σ H x y v u Q I rx ry h hs
  obtain ⟨z, i, c, rfl, rfl, hz, he, q⟩ := h
  obtain ⟨t, rfl⟩ := rx
  obtain ⟨t', rfl⟩ := ry
  obtain ⟨j, h1, h2, h3, h4, h5⟩ := atI_get he
  have hl : z.cps.toList.length = z.length := by simp [Str.length]
  rw [hl] at h1 h4 h5
  have hn := line63
  exact tail_any (typeIs_str s z t) slot_str_getitem.lookup (getItem_str (c := c) (by
    have e1 : decide (i < -(2 ^ 63 : Int)) = false := decide_eq_false (by omega)
    have e2 : decide (i ≥ 2 ^ 63) = false := decide_eq_false (by omega)
    rw [e1, e2, Bool.or_false]) (by rw [h1]; simpa using h2) ⟨.str ⟨#[c]⟩, H, I.tok _, ⟨_, rfl⟩, q⟩) hs
def rIx (K : PySem.W.Frag) : R2 := fun x y H Q => rIxL K x y H Q ∨ rIxT K x y H Q ∨ rIxS x y H Q
theorem ix_seq : IxR X (rIx X.K) := ix_list.or (ix_tup.or ix_str)
theorem mapSeq_set (its : List Value) (n j : Nat) (u : Value) : Obj.mapSeq (·.setIfInBounds j u) { cls := .type "list", data := .seq its.toArray n } = { cls := .type "list", data := .seq (its.set j u).toArray n } := by
  simp [Obj.mapSeq]
theorem Inv.lst {pins : List (Addr × Obj)} {σ : St} {H : Hp} {s : Shared} {p : Addr} {xs : List V} (I : Inv X pins σ H s) (h : H p = some (.lst xs)) :
    ∃ (its : List Value) (n : Nat), Vals xs its ∧ s.heap.get? p = some { cls := .type "list", data := .seq its.toArray n } ∧ xs.length ≤ sizeLine := by
  obtain ⟨z, its, n, r, e⟩ := I.hok p _ h
  exact ⟨its, n, r, e, z⟩
theorem Inv.lstUpd {pins : List (Addr × Obj)} {σ : St} {H : Hp} {s : Shared} {p : Addr} {xs ys : List V} {its its' : List Value} {n n' : Nat} {f : Obj → Obj} (I : Inv X pins σ H s) (h : H p = some (.lst xs))
    (ho : s.heap.get? p = some { cls := .type "list", data := .seq its.toArray n }) (hf : f { cls := .type "list", data := .seq its.toArray n } = { cls := .type "list", data := .seq its'.toArray n' }) (r : Vals ys its') (hz : ys.length ≤ sizeLine) (t : Nat) :
    Inv X pins σ (upd H p (.lst ys)) { s with heap := s.heap.update p f, toks := t } := by
  have e : (s.heap.update p f).get? p = some { cls := .type "list", data := .seq its'.toArray n' } := by
    rw [Heap.get?_update_self f ho (by rw [hf] <;> rfl), hf]
  refine I.write (x := p) (e := p) (by rw [h]; trivial) (.inl rfl) (fun b u hb q => (Heap.get?_update_other _ _ (Ne.symm hb)).trans q) ⟨_, e⟩ ?_
  exact ⟨hz, its', n', r, e⟩
def rSetL : V → V → V → Hp → (Hp → Prop) → Prop := fun o i v H Q => ∃ p xs k j, o = .ref p ∧ i = .int k ∧ H p = some (.lst xs) ∧ ixN xs.length k = some j ∧ Q (upd H p (.lst (xs.set j v)))
theorem set_list : PSet X rSetL := by
  intro pins s σ H o i v ov iv u Q I ro ri rv h
  obtain ⟨p, xs, k, j, rfl, rfl, hp, hj, q⟩ := h
  cases ro
  obtain ⟨t, rfl⟩ := ri
  obtain ⟨its, n, r, ho, hz⟩ := I.lst hp
  obtain ⟨h1, h2, h3, h4⟩ := ixN_seq hj
  have hl := r.length
  have hn := line63
  have I' : Inv X pins σ (upd H p (.lst (xs.set j v))) { s with heap := s.heap.update p (Obj.mapSeq (·.setIfInBounds j u)) } :=
    I.lstUpd hp ho (mapSeq_set its n j u) (r.set rv j) (by rw [List.length_set]; exact hz) s.toks
  by_cases h0 : 0 ≤ k
  · have hk : k.toNat = j := by
      rw [seqIndex_of h0 h4] at h1
      exact Option.some.inj h1
    exact PySem.W.ki_setAt ho h0 (by omega) (by rw [List.size_toArray, ← hl]; exact h4) (by rw [hk]; exact ⟨_, I', q⟩)
  · have hk : (k + (its.toArray.size : Int)).toNat = j := by
      rw [seqIndex_neg (by omega) h3] at h1
      rw [List.size_toArray, ← hl]
      exact Option.some.inj h1
    exact PySem.W.ki_setBack ho (by omega) (by rw [List.size_toArray, ← hl]; exact h3) (by omega) (by rw [hk]; exact ⟨_, I', q⟩)
theorem slice_bounds (lo hi : Option Int) (n : Nat) : (sliceBounds lo hi none n).1 = ((HT.sIx n 0 lo : Nat) : Int) ∧ (sliceBounds lo hi none n).2.1 = ((HT.sIx n n hi : Nat) : Int) ∧ (sliceBounds lo hi none n).2.2 = 1 := by
  refine ⟨?_, ?_, rfl⟩
  · cases lo with
    | none => simp [sliceBounds, HT.sIx]
    | some i =>
      simp only [sliceBounds, HT.sIx, Option.getD_none, show (1 : Int) > 0 by decide, if_true]
      by_cases h : i < 0
      · simp only [h, if_true] <;> omega
      · simp only [h, if_false] <;> omega
  · cases hi with
    | none => simp [sliceBounds, HT.sIx]
    | some i =>
      simp only [sliceBounds, HT.sIx, Option.getD_none, show (1 : Int) > 0 by decide, if_true]
      by_cases h : i < 0
      · simp only [h, if_true] <;> omega
      · simp only [h, if_false] <;> omega
theorem slicePick_cut (its : List Value) (lo hi : Option Int) : slicePick its.toArray lo hi none = ((its.drop (HT.sIx its.length 0 lo)).take (HT.sIx its.length its.length hi - HT.sIx its.length 0 lo)).toArray := by
  obtain ⟨h1, h2, h3⟩ := slice_bounds lo hi its.toArray.size
  unfold slicePick
  rw [h1, h2, h3]
  simp only [sliceRange_one, pick_run, List.size_toArray] <;> rfl
def rSlL (K : PySem.W.Frag) : V → Option Int → Option Int → Hp → VK → Prop := fun x lo hi H Q => ∃ a xs, x = .ref a ∧ SqL K H a xs ∧ ∀ p, H p = none → Q (.ref p) (upd H p (.lst (cutV xs lo hi)))
theorem sl_list : SlR X (rSlL X.K) := by
  intro pins s σ H x v vl vu lo hi sl Q I rx hs pl pu h
  obtain ⟨a, xs, rfl, hx, q⟩ := h
  cases rx
  obtain ⟨its, r, ht, hz⟩ := I.list hx
  have hlen := r.length
  refine ⟨"list", _, slot_list_getitem.lookup, ht.isList.typeIs, ?_⟩
  refine wpAny_getItem_list_slice ht.isList hs pl pu .none (by simp) ?_ (by rw [List.size_toArray] <;> omega)
  rw [slicePick_cut, ← hlen]
  refine ⟨.ref s.heap.objs.size, _, I.laid (t' := s.toks) (o := .lst (cutV xs lo hi)) (fun b ob q => Heap.get?_push_of_some _ q) (Nat.le_refl _) ?_, rfl, q _ (I.hok.fresh (Nat.le_refl _))⟩
  exact ⟨Nat.le_trans (cutV_length xs lo hi) hz, _, 0, (r.drop (HT.sIx xs.length 0 lo)).take (HT.sIx xs.length xs.length hi - HT.sIx xs.length 0 lo), Heap.get?_push_size _ rfl⟩
theorem CallR.or {f : Value} {r r' : List V → Hp → VK → Prop} (h : CallR X f r) (h' : CallR X f r') : CallR X f (fun xs H Q => r xs H Q ∨ r' xs H Q) := by
  intro pins s σ H xs us Q I rs q
  rcases q with q | q
  · exact h pins s σ H xs us Q I rs q
  · exact h' pins s σ H xs us Q I rs q
theorem call_tuple_of : CallR X (.type "tuple") (fun xs H Q => ∃ p ys, xs = [.ref p] ∧ ((SqL X.K H p ys ∧ ∀ l, H l = none → Q (.ref l) (upd H l (.tup ys))) ∨ (SqT X.K H p ys ∧ Q (.ref p) H))) := by
  intro pins s σ H xs us Q I r h
  obtain ⟨p, ys, rfl, h⟩ := h
  obtain ⟨u, rfl, rx⟩ := vals1 r
  cases rx
  rcases h with ⟨hq, q⟩ | ⟨hq, q⟩
  · obtain ⟨its, r', pl, hz⟩ := I.list hq
    have hlen := r'.length
    refine call_tuple_list pl.isList (fun h' kp => ?_) (by simp only [List.size_toArray] <;> omega)
    have I1 : Inv X pins σ H { s with heap := h' } := I.kept (t' := s.toks) kp
    have I2 : Inv X pins σ (upd H h'.objs.size (.tup ys)) { s with heap := h'.push { cls := .type "tuple", data := .seq its.toArray } } :=
      I1.laid (t' := s.toks) (fun b o e => Heap.get?_push_of_some _ e) (Nat.le_refl _) (show ObjOk X.prog X.w _ _ _ (.tup ys) from ⟨hz, its, r', IsTup.new _ _⟩)
    exact ⟨.ref h'.objs.size, _, I2, rfl, q _ (I1.hok.fresh (Nat.le_refl _))⟩
  · obtain ⟨its, r', pl, hz⟩ := I.tuple hq
    exact call_tuple_same pl ⟨.ref p, H, I, rfl, q⟩
variable {o e : Expr} {es : List Expr} {to : TE} {t : TA} {name : Str} {apos cpos : Pos} {T id : String} {r : V → List V → Hp → VK → Prop}
end
end L2
namespace L2
open PySem PySem.Spec PyProof.Rows
theorem Vals.one : ∀ {x : V} {us : List Value}, Vals [x] us → ∃ u, us = [u] ∧ RelV x u
  | _, _, .cons r .nil => ⟨_, rfl, r⟩
theorem Vals.two : ∀ {x y : V} {us : List Value}, Vals [x, y] us → ∃ u v, us = [u, v] ∧ RelV x u ∧ RelV y v
  | _, _, _, .cons r (.cons q .nil) => ⟨_, _, rfl, r, q⟩
theorem Vals.zero : ∀ {us : List Value}, Vals [] us → us = []
  | _, .nil => rfl
theorem Vals.dropLast {xs : List V} {us : List Value} (h : Vals xs us) : Vals xs.dropLast us.dropLast := by
  induction h with
  | nil => exact .nil
  | cons r t ih =>
    cases t with
    | nil => exact .nil
    | cons q t' => exact .cons r ih
theorem Vals.reverse {xs : List V} {us : List Value} (h : Vals xs us) : Vals xs.reverse us.reverse := by
  induction h with
  | nil => exact .nil
  | cons r t ih => rw [List.reverse_cons, List.reverse_cons]; exact Vals.append ih (.cons r .nil)
theorem Vals.rep {xs : List V} {us : List Value} (h : Vals xs us) : ∀ k : Nat, Vals (List.replicate k xs).flatten (List.replicate k us).flatten
  | 0 => .nil
  | k + 1 => by
    rw [List.replicate_succ, List.replicate_succ, List.flatten_cons, List.flatten_cons]
    exact Vals.append h (Vals.rep h k)
theorem foldl_rep (its : List Value) : ∀ (k : Nat) (acc : List Value),
    List.foldl (fun x1 x2 => x1 ++ x2) acc.toArray (List.replicate k its.toArray) = (acc ++ (List.replicate k its).flatten).toArray
  | 0, acc => by simp
  | k + 1, acc => by
    have e : acc.toArray ++ its.toArray = (acc ++ its).toArray := by simp
    have e2 : (acc ++ its) ++ (List.replicate k its).flatten = acc ++ (List.replicate (k + 1) its).flatten := by
      rw [List.replicate_succ, List.flatten_cons, List.append_assoc]
    rw [← e2, ← foldl_rep its k (acc ++ its), ← e, List.replicate_succ, List.foldl_cons]
section
variable {X : Cx} {pins : List (Addr × Obj)} {σ : St} {H : Hp} {s : Shared} {l b : Addr} {xs ys zs : List V}
theorem Inv.lnew {its : List Value} {t' : Nat} (I : Inv X pins σ H s) (hv : Vals ys its) (hz : ys.length ≤ sizeLine) :
    Inv X pins σ (upd H s.heap.objs.size (.lst ys)) { s with heap := s.heap.push { cls := .type "list", data := .seq its.toArray }, toks := t' } :=
  I.laid (fun _ _ q => Heap.get?_push_of_some _ q) (Nat.le_refl _) ⟨hz, its, 0, hv, Heap.get?_push_size _ rfl⟩
theorem Inv.fresh (I : Inv X pins σ H s) : H s.heap.objs.size = none := I.hok.fresh (Nat.le_refl _)
theorem Inv.lstM (I : Inv X pins σ H s) (hH : H l = some (.lst xs)) : xs.length ≤ sizeLine ∧ ∃ (its : List Value) (n : Nat), Vals xs its ∧ xs.length = its.length ∧ s.heap.get? l = some { cls := .type "list", data := .seq its.toArray n } := by
  obtain ⟨z, its, n, r, e⟩ := I.hok l _ hH
  exact ⟨z, its, n, r, r.length, e⟩
theorem notLongL {n : Nat} (h : n ≤ sizeLine) : Builtin.List.listTooLong n = false := by
  unfold Builtin.List.listTooLong
  exact decide_eq_false (by omega)
end
section
variable {X : Cx}
def rCat : R2 := fun x y H Q => ∃ l b xs zs, x = .ref l ∧ y = .ref b ∧ H l = some (.lst xs) ∧ H b = some (.lst zs) ∧ xs.length + zs.length ≤ sizeLine ∧ ∀ p, H p = none → Q (.ref p) (upd H p (.lst (xs ++ zs)))
theorem op_cat : OpR X (binaryOp .Add) rCat := by
  intro pins s σ H x y v u Q I rx ry h
  obtain ⟨l, b, xs, zs, rfl, rfl, hH, hB, hz, q⟩ := h
  cases rx
  cases ry
  obtain ⟨z, its, n, r, hl, e⟩ := I.lstM hH
  obtain ⟨z2, its2, n2, r2, hl2, e2⟩ := I.lstM hB
  refine PySem.P.add_list e e2 ?_ (by rw [List.size_toArray, List.size_toArray]; omega)
  have ea : its.toArray ++ its2.toArray = (its ++ its2).toArray := by simp
  rw [ea]
  exact ⟨.ref _, _, I.lnew (t' := s.toks) (r.append r2) (by rw [List.length_append]; omega), rfl, q _ I.fresh⟩
def rRep : R2 := fun x y H Q => ∃ l k xs, x = .ref l ∧ y = .int k ∧ H l = some (.lst xs) ∧ -(2 ^ 63) ≤ k ∧ k < 2 ^ 63 ∧ xs.length * k.toNat ≤ sizeLine ∧
  ∀ p, H p = none → Q (.ref p) (upd H p (.lst (List.replicate k.toNat xs).flatten))
theorem len_rep {α : Type} (xs : List α) (k : Nat) : (List.replicate k xs).flatten.length = k * xs.length := by
  induction k with
  | zero => simp
  | succ k ih => rw [List.replicate_succ, List.flatten_cons, List.length_append, ih, Nat.succ_mul, Nat.add_comm]
theorem op_rep : OpR X (binaryOp .Mult) rRep := by
  intro pins s σ H x y v u Q I rx ry h
  obtain ⟨l, k, xs, rfl, rfl, hH, h1, h2, hz, q⟩ := h
  cases rx
  obtain ⟨t, rfl⟩ := ry
  obtain ⟨z, its, n, r, hl, e⟩ := I.lstM hH
  have hlen : its.toArray.size * k.toNat ≤ sizeLine := by rw [List.size_toArray, ← hl]; exact hz
  have hcap : ¬ its.toArray.size * k.toNat > (2 ^ 63 - 1) / 8 := by
    have : (sizeLine : Nat) ≤ (2 ^ 63 - 1) / 8 := by decide
    omega
  have hfit : ¬ (!Builtin.List.listFitsIndex k) = true := by
    rw [fitsIndex_both h1 h2]
    exact Bool.false_ne_true
  have hlong : ¬ Builtin.List.listTooLong (its.toArray.size * k.toNat) = true := by
    rw [notLongL hlen]
    exact Bool.false_ne_true
  have hnew : List.foldl (fun x1 x2 => x1 ++ x2) #[] (List.replicate (if its.toArray.isEmpty = true then 0 else k.toNat) its.toArray) = (List.replicate k.toNat its).flatten.toArray := by
    have f0 : ∀ m : Nat, List.foldl (fun x1 x2 => x1 ++ x2) #[] (List.replicate m its.toArray) = (List.replicate m its).flatten.toArray := fun m => by
      have := foldl_rep its m []
      rw [List.nil_append] at this
      exact this
    rw [f0]
    cases its with
    | nil => simp
    | cons a r' => rw [if_neg (by simp)]
  refine wpAny_binaryOp_repeat_ref (T := "list") (U := "int") (by decide) ⟨_, e, rfl⟩ (fun s' => typeIs_int s' k t) noFill_list_mul F.fills_int_mul F.slot_int_rmul repeat_list F.slot_int_index.lookup
    (call_meets F.slot_int_rmul (typeIs_int s k t) F.entry_int_rmul (F.args_int_rmul_2 _ _) (int___rmul___int_list k t l its.toArray n)
      ⟨e, rfl, ⟨_, e, rfl⟩, call_meets F.slot_list_mul ⟨_, e, rfl⟩ F.entry_list_mul (F.args_list_mul_2 _ _) (AutoListH.list___mul___list_int_3 l its.toArray n k t hfit hcap hlong) ⟨e, ?_⟩⟩)
  rw [hnew]
  exact ⟨.ref _, _, I.lnew (t' := s.toks) (r.rep k.toNat) (by rw [len_rep, Nat.mul_comm]; exact hz), rfl, q _ I.fresh⟩
end
section
variable {prog : Program} {w : World} {A : Around} {E : Value → Shared → Prop} {s : Shared}
end
section
variable {X : Cx}
end
end L2
namespace Att
open PySem PySem.W PySem.Calls PyProof.Rows
theorem ints_of_wellAll {P : Params} {h : Heap} : ∀ (ns : List Int) (vs : List Value), WellAll P h vs (ns.map WData.int) → IntsAre vs ns := by
  intro ns
  induction ns with
  | nil =>
    intro vs w
    rw [List.map_nil] at w
    cases w
    exact .nil
  | cons n ns ih =>
    intro vs w
    rw [List.map_cons] at w
    cases w with
    | cons a b =>
      cases a
      exact .cons _ _ (ih _ b)
theorem script_of {l : OpenLaw} {n : Nat} (hn : l.most = some n) {P : Params} {h : Heap} {args : List WData} {vals : List Value}
    (hpre : l.row.toRowW.claim.pre args = true) (hwl : WellAll P h vals args) :
    ∃ a vs ns, vals = [Value.ref a] ∧ args = [WData.list (ns.map WData.int)] ∧ h.get? a = some { cls := .type "list", data := .seq vs.toArray } ∧ IntsAre vs ns ∧ ns.length ≤ n := by
  have hsh : WShape.hasAll [] args [.list .int] = true := (pre_splitW hpre).1
  have hc : l.pre.holds [] { args := args } = true := (pre_splitW hpre).2
  obtain ⟨d, r, rfl, h1, h2⟩ := hasAllW_cons hsh
  obtain rfl := hasAllW_nil h2
  obtain ⟨xs, rfl, h3⟩ := hasW_list h1
  obtain ⟨ns, rfl⟩ := items_int h3
  have hlen : ns.length ≤ n := by
    unfold OpenLaw.pre at hc
    have h4 : (WTm.not (.lt (.lit (.int (n : Int))) (.len (.arg 0)))).holds [] { args := [.list (ns.map .int)] } = true := by
      have h4 := (holds_andW hc).1
      rw [hn] at h4
      exact h4
    have h5 := condW_of h4 (w_not (w_lt w_lit (w_len_list (w_arg rfl))))
    rw [List.length_map] at h5
    refine Nat.le_of_not_lt fun q => ?_
    have q' : (n : Int) < ((ns.length : Nat) : Int) := by omega
    first
      | (rw [decide_eq_true q'] at h5; exact absurd h5 (by decide))
      | (simp at h5; omega)
  cases hwl with
  | cons w1 w2 =>
    cases w2
    cases w1 with
    | list ho hall => exact ⟨_, _, ns, rfl, rfl, ho, ints_of_wellAll ns _ hall, hlen⟩
theorem post_true (l : OpenLaw) (args : List WData) : l.row.toRowW.claim.post args (.bool true) args = true :=
  postW_of (r := l.row.toRowW) (X := (true == true))
    (show WShape.has [] (.bool true) .bool = true by first | rfl | decide | simp [WShape.has, WShape.arms, WShape.armsAll])
    (show (WTm.eq .res (.lit (.bool true))).value [] { args := args, res := some (.bool true), after := args } = some (.bool (true == true)) from w_eq_bool (w_res rfl) w_lit) rfl
theorem attach_call {l : OpenLaw} {n : Nat} {q : Program} {loose : List Str} {XP : (Str → Option Value) → Heap → Prop} {YP : World → Heap → Prop} {d : DefRec}
    (hn : l.most = some n) (hdf : d.params.defaults = [])
    (call : ∀ (w : World) (s₀ s₁ : Shared) (mg mb : Str → Option Value) (fa : Addr) (o : Obj) (pm cd doc : Value) (a : Addr) (vs : List Value) (ns : List Int),
      Ground q loose [] XP w s₀ mg mb s₁.heap → YP w s₁.heap →
      s₁.heap.get? fa = some o → o.data = .func (docDef d.name d.params d.body d.scope pm cd doc) → s₁.heap.CodeRec cd d.name → mg d.name = some (.ref fa) →
      s₁.heap.get? a = some { cls := .type "list", data := .seq vs.toArray } → IntsAre vs ns → ns.length ≤ n → s₁.gens = #[] →
      codeAny (model l.prog w) callerA (.call (.ref fa) ⟨[.ref a], []⟩) (fun r s' => r = .ok (.ret (.bool true)) ∧ OldK s₁.heap s'.heap ∧ s'.os = s₁.os ∧ AllBare s'.gens) s₁) :
    WalkO q loose XP YP l.row.toRowW d [] (fun f vs => PySem.call f vs) := by
  intro w s₀ s₁ mg mb G Y fa o pm cd doc dV kV ho hd hcd hD hmg hg args vals as hpre hlay hrd hwl hlo
  obtain rfl : dV = .none := Dflts.none hD hdf
  obtain rfl : kV = .none := Dflts.noKw hD
  obtain ⟨a, vs, ns, rfl, rfl, hobj, hints, hlen⟩ := script_of hn hpre hwl
  refine enter_call (codeAny_mono (call w s₀ s₁ mg mb fa o pm cd doc a vs ns G Y ho (fd_plain hd) hcd hmg hobj hints hlen hg) fun r s' hq => ?_)
  obtain ⟨rfl, h2, h3, h4⟩ := hq
  exact ⟨.inl ⟨.bool true, .bool true, [], rfl, fun _ => rfl, .bool true, post_true l _, fun _ => ⟨List.Pairwise.nil, fun _ hm => (nomatch hm)⟩⟩, h2, h3, h4⟩
section
variable {prog : Program} {w : World} {A : Around} {E : Value → Shared → Prop} {s : Shared} {K : Frag}
end
end Att
namespace L2
open PySem PySem.Spec PyProof.Rows
theorem vals_ints : ∀ {vs : List Value} {ns : List Int}, IntsAre vs ns → Vals (ns.map V.int) vs
  | _, _, .nil => .nil
  | _, _, .cons n t h => .cons ⟨t, rfl⟩ (vals_ints h)
def Only (H : Hp) : Prop := ∀ b, H b = none ∨ ∃ o xs, H b = some (.frz o (.lst xs))
theorem law_call {P : Program} {w : World} {K : PySem.W.Frag} {mg mb : Str → Option Value} {CX : CXT} {k : Nat} {fa a : Addr} {fd : FuncData} {x : Str} {sp : Sp} {s₁ : Shared} {vs : List Value} {ns : List Int}
    (KX : K.In s₁.heap) (hns : s₁.heap.Ns mainGlobals mg) (hb : s₁.heap.Ns builtinsNs mb) (hbb : ∀ x : Str, x ≠ "__name__" → mb x = bootBuiltins x) (hlim : s₁.heap.NoLimit) (hg : s₁.gens = #[])
    (ha : s₁.heap.get? a = some { cls := .type "list", data := .seq vs.toArray }) (hi : IntsAre vs ns) (hl : ns.length ≤ sizeLine) (hr : Room k callerA)
    (F : ∀ base : Heap, K.In base → base.Ns mainGlobals mg → FnOk P w K mg base CX k fa fd [x] sp) (hbind : ∀ (s : Shared) (u : Value), BindsTo s fd ⟨[u], []⟩ [(x, u)])
    (hsp : ∀ H : Hp, Only H → SqL K H a (ns.map V.int) → sp [.ref a] H (fun v _ => v = .bl true) fun _ _ _ => False)
    (hCX : ∀ H e s', CX [] H s₁ (fun _ _ _ => False) e s' → False) :
    codeAny (model P w) callerA (.call (.ref fa) ⟨[.ref a], []⟩) (fun r s' => r = .ok (.ret (.bool true)) ∧ OldK s₁.heap s'.heap ∧ s'.os = s₁.os ∧ AllBare s'.gens) s₁ := by
  have rv := vals_ints hi
  have lenV := hi.length
  have core : ∀ H : Hp, Only H → SqL K H a (ns.map V.int) → HOk P w H s₁.heap → (∀ b, H b ≠ none → b = a) → (H a ≠ none → K.lookup a = none) →
      codeAny (model P w) callerA (.call (.ref fa) ⟨[.ref a], []⟩) (fun r s' => r = .ok (.ret (.bool true)) ∧ OldK s₁.heap s'.heap ∧ s'.os = s₁.os ∧ AllBare s'.gens) s₁ := by
    intro H hO hS hok hA hK
    have base_of : ∀ {b : Addr} {o : Obj}, s₁.heap.get? b = some o → H b = none → (hidT s₁.heap H).get? b = some o := fun e n => hidT_get e n
    have noA : ∀ {b : Addr} {o : Obj} {es : Array DictEntry} {ep : Nat}, s₁.heap.get? b = some o → o.data = .dict es ep → H b = none := fun {b o es ep} e d => by
      cases q : H b with
      | none => rfl
      | some u =>
        have e' : b = a := hA b (by rw [q]; simp)
        subst e'
        rw [ha] at e; cases e
        have d' : Data.seq vs.toArray _ = Data.dict es ep := d
        cases d'
    have nsK : ∀ {b : Addr} {m : Str → Option Value}, s₁.heap.Ns b m → (hidT s₁.heap H).Ns b m := fun {b m} ⟨o, es, ep, e, d, r⟩ => ⟨o, es, ep, base_of e (noA e d), d, r⟩
    have hKb : K.In (hidT s₁.heap H) := fun b o e => base_of (KX b o e) (by
      cases q : H b with
      | none => rfl
      | some u =>
        have e' : b = a := hA b (by rw [q]; simp)
        subst e'
        rw [hK (by rw [q]; simp)] at e; cases e)
    have hM : Mod K mg (hidT s₁.heap H) := ⟨hKb, nsK hns, ⟨mb, nsK hb, hbb⟩, let ⟨mc, h1, h2⟩ := hlim; ⟨mc, nsK h1, h2⟩⟩
    have e0 : Env0 P w K mg (hidT s₁.heap H) callerA [] s₁ H := ⟨rfl, hM, fun b o e => of_hidT e, Nat.le_of_eq (hidT_size _ _), trivial, fun b hb => absurd (show b ∈ ([] : List Addr) from hb) (by simp), hok, .of_eq hg⟩
    refine codeAny_mono ((F _ hKb (nsK hns)).run callerA [] s₁ H ⟨[.ref a], []⟩ [.ref a] [.ref a] _ _ hr e0 (hbind s₁ (.ref a)) (.cons rfl .nil) (hsp H hO hS)) fun r s' h => ?_
    cases r with
    | error e => exact (hCX H e s' h).elim
    | ok fl =>
      cases fl with
      | next => exact False.elim h
      | brk => exact False.elim h
      | cont => exact False.elim h
      | ret u =>
        obtain ⟨v, H', os, bare, un, hok', r', q⟩ := h
        have q' : v = .bl true := q
        subst q'
        obtain rfl : u = Value.bool true := r'
        refine ⟨rfl, OldK.of_keep fun b o e => ?_, os, bare⟩
        cases q : H b with
        | none => exact un.keep b o e q (by intro z; exact absurd (show b ∈ ([] : List Addr) from z) (by simp)) (by simp)
        | some u =>
          rcases hO b with z | ⟨ob, xs, z⟩
          · rw [q] at z; cases z
          · have z2 := un.frzs b ob _ z
            obtain ⟨e1, _⟩ := hok b _ z
            obtain ⟨e2, _⟩ := hok' b _ z2
            rw [e] at e1; cases e1
            exact e2
  cases hk : K.lookup a with
  | some o =>
    have e := KX a o hk
    rw [ha] at e
    cases e
    refine core (fun _ => none) (fun _ => .inl rfl) (.inr ⟨_, vs.toArray, _, hk, rfl, rfl, rfl, by rw [List.size_toArray, lenV]; exact hl, by simpa using rv⟩) (fun b u z => by have z' : (none : Option HO) = some u := z; cases z') (fun b z => absurd rfl z) fun z => absurd rfl z
  | none =>
    refine core (fun b => if b = a then some (.frz { cls := .type "list", data := .seq vs.toArray } (.lst (ns.map V.int))) else none) (fun b => ?_) (.inl (.inr ⟨{ cls := .type "list", data := .seq vs.toArray }, if_pos rfl⟩)) (fun b u z => ?_) (fun b z => ?_) fun _ => hk
    · by_cases hb : b = a
      · exact .inr ⟨_, _, if_pos hb⟩
      · exact .inl (if_neg hb)
    · by_cases hb : b = a
      · have z' := (if_pos hb).symm.trans z
        cases z'
        subst hb
        exact ⟨ha, by rw [List.length_map]; exact hl, vs, _, rv, ha⟩
      · have z' := (if_neg hb).symm.trans z
        cases z'
    · by_cases hb : b = a
      · exact hb
      · exact absurd (if_neg hb) z
end L2
namespace L2
open PySem PySem.Spec PyProof.Rows
theorem walk_of {l : PySem.W.OpenLaw} {n k : Nat} {q : Program} {loose : List Str} {XP : (Str → Option Value) → Heap → Prop} {YP : World → Heap → Prop} {d : DefRec} {K : Params → PySem.W.Frag} {CX : World → CXT} {sp : World → Sp} {x : Str}
    (hn : l.most = some n) (hn2 : n ≤ sizeLine) (hdf : d.params.defaults = []) (hr : Room k callerA)
    (hY : ∀ (w : World) (h : Heap), YP w h → (K w.params).In h)
    (F : ∀ (w : World) (mg : Str → Option Value) (fa : Addr) (h : Heap), (K w.params).In h → h.Ns mainGlobals mg → mg d.name = some (.ref fa) →
      ∃ fd : FuncData, (∀ (s : Shared) (u : Value), BindsTo s fd ⟨[u], []⟩ [(x, u)]) ∧
        ∀ base : Heap, (K w.params).In base → base.Ns mainGlobals mg → FnOk l.prog w (K w.params) mg base (CX w) k fa fd [x] (sp w))
    (hsp : ∀ (w : World) (H : Hp) (a : Addr) (ns : List Int), ns.length ≤ n → Only H → SqL (K w.params) H a (ns.map V.int) → sp w [.ref a] H (fun v _ => v = .bl true) fun _ _ _ => False)
    (hCX : ∀ (w : World) (H : Hp) (s : Shared) (e : Value) (s' : Shared), CX w [] H s (fun _ _ _ => False) e s' → False) :
    PySem.W.WalkO q loose XP YP l.row.toRowW d [] (fun f vs => PySem.call f vs) := by
  refine Att.attach_call hn hdf fun w s₀ s₁ mg mb fa o pm cd doc a vs ns G Y ho hd hcd hmg hobj hints hlen hg => ?_
  have KX := hY w _ Y
  obtain ⟨fd, hb, hF⟩ := F w mg fa _ KX G.T.g hmg
  exact law_call KX G.T.g G.T.b G.T.builtins G.T.nolimit hg hobj hints (Nat.le_trans hlen hn2) hr hF hb (fun H hO hS => hsp w H a ns hlen hO hS) fun H e s' => hCX w H s₁ e s'
end L2
namespace L2
open PySem PySem.Spec PyProof.Rows
def inClass (s : Stmt) (j : Nat) : Stmt := match s with
  | .ClassDef _ _ _ body _ _ _ _ _ _ _ => body.getD j (.Pass ⟨0, 0, 0, 0⟩)
  | _ => .Pass ⟨0, 0, 0, 0⟩
def defArgs (s : Stmt) : Arguments := match s with
  | .FunctionDef _ a _ _ _ _ _ _ _ _ => a
  | _ => { posonlyargs := [], args := [], vararg := none, kwonlyargs := [], kw_defaults := [], kwarg := none, defaults := [] }
def defBody (s : Stmt) : List Stmt := match s with
  | .FunctionDef _ _ b _ _ _ _ _ _ _ => b
  | _ => []
def defScope (s : Stmt) : Scope := match s with
  | .FunctionDef _ _ _ _ _ _ sc _ _ _ => sc
  | _ => { kind := .function, names := [], isGenerator := false, isCoroutine := false }
abbrev CX0 : CXT := fun _ _ _ _ _ _ => False
abbrev E0 : XK := fun _ _ _ => False
theorem pass0 {X : Cx} : Passes CX0 X E0 := fun _ _ _ _ _ _ _ h => h.elim
structure Fun (K : PySem.W.Frag) (x qual : Str) (st : Stmt) (f : Addr) (fd : FuncData) : Prop where
  ex : ∃ (oc : Value) (od : Option Addr) (kV doc pm : Value) (an : Option Addr) (cdv ct : Value) (osl : Array (Option Value)),
    fd = PySem.W.fnOf x qual (defArgs st) (defBody st) (defScope st) .none kV doc pm an cdv ct ∧ K.lookup f = some ⟨oc, od, .func fd, osl⟩ ∧ PySem.W.codeIn K cdv qual = true
  kp : PySem.W.keepIn K (.ref f) = true
section
variable {P : Program} {w : World} {K : PySem.W.Frag} {mg : Str → Option Value} {base : Heap}
theorem Fun.ok {x qual : Str} {st : Stmt} {f : Addr} {fd : FuncData} {N ps : List Str} {k : Nat} {sp : Sp} (F : Fun K x qual st f fd) (S : FnScope N ps (defScope st)) (len : ∀ vs H Q E, sp vs H Q E → vs.length = ps.length)
    (hbody : ∀ (cdv : Value) (A : Around) (outer : List Env) (s : Shared) (H : Hp) (vs : List V) (Q : VK) (E : XK), Room k (A.deeper (envOfC qual (defScope st) s.heap.objs.size f cdv)) → sp vs H Q E →
      ∃ t, PSs (cxOf CX0 P w K mg base N qual (defScope st) f cdv A outer s H E).nox (defBody st) t ∧ t { nx := fun _ H' => Q .non H', rt := Q } (start N vs) H) : FnOk P w K mg base CX0 (k + 1) f fd ps sp := by
  obtain ⟨oc, od, kV, doc, pm, an, cdv, ct, osl, rfl, lk, hcd⟩ := F.ex
  refine fn_of lk hcd S len fun A outer s H vs Q E hr hsp => ?_
  obtain ⟨t, h, q⟩ := hbody cdv A outer s H vs Q E hr hsp
  exact ⟨t, h.nox, q⟩
theorem Fun.binds {x qual : Str} {st : Stmt} {f : Addr} {fd : FuncData} {ps : List Str} (F : Fun K x qual st f fd)
    (h : ∀ (kV doc pm : Value) (an : Option Addr) (cdv ct : Value) (us : List Value), us.length = ps.length → bindArgs (PySem.W.fnOf x qual (defArgs st) (defBody st) (defScope st) .none kV doc pm an cdv ct) ⟨us, []⟩ = pure (ps.zip us)) : Binds K fd ps [] := by
  obtain ⟨oc, od, kV, doc, pm, an, cdv, ct, osl, rfl, lk, hcd⟩ := F.ex
  exact .all (h kV doc pm an cdv ct)
theorem fun_mk {x qual : Str} {st : Stmt} {f : Addr} {oc : Value} {od an : Option Addr} {osl : Array (Option Value)} {kV doc pm cdv ct : Value} (l : K.lookup f = some ⟨oc, od, .func (PySem.W.fnOf x qual (defArgs st) (defBody st) (defScope st) .none kV doc pm an cdv ct), osl⟩)
    (c : PySem.W.codeIn K cdv qual = true) (k : PySem.W.keepIn K (.ref f) = true) : Fun K x qual st f (PySem.W.fnOf x qual (defArgs st) (defBody st) (defScope st) .none kV doc pm an cdv ct) := ⟨⟨oc, od, kV, doc, pm, an, cdv, ct, osl, rfl, l, c⟩, k⟩
end
theorem small1000 {n : Nat} (h : n ≤ 1000) : n < sizeLine := Nat.lt_of_le_of_lt h (by decide)
section
variable {X : Cx}
end
theorem iteF {A B : Prop} (h : B) : if false = true then A else B := by
  rw [if_neg Bool.false_ne_true]
  exact h
theorem iteT {A B : Prop} (h : A) : if true = true then A else B := by
  rw [if_pos rfl]
  exact h
def Same (H H' : Hp) : Prop := ∀ b o, H b = some o → H' b = some o
theorem Same.refl (H : Hp) : Same H H := fun _ _ h => h
theorem Same.trans {H H1 H2 : Hp} (a : Same H H1) (b : Same H1 H2) : Same H H2 := fun c o h => b c o (a c o h)
theorem Same.free {H H' : Hp} (e : Same H H') {l : Addr} (h : H' l = Option.none) : H l = Option.none := by
  cases q : H l with
  | none => rfl
  | some o =>
    rw [e l o q] at h
    cases h
theorem Same.seq {K : PySem.W.Frag} {H H' : Hp} {a : Addr} {xs : List V} (e : Same H H') (h : SqL K H a xs) : SqL K H' a xs := by
  rcases h with (h | ⟨o, h⟩) | h
  · exact .inl (.inl (e _ _ h))
  · exact .inl (.inr ⟨o, e _ _ h⟩)
  · exact .inr h
end L2
set_option Elab.async false
set_option linter.all false
set_option maxRecDepth 100000
set_option maxHeartbeats 4000000
namespace L2
open PySem PySem.Spec PyProof.Rows
section
variable {κ : Type} [DecidableEq κ]
def valV (kvs : List (κ × V)) (k : κ) : Option V := (kvs.find? fun kv => decide (kv.1 = k)).map (·.2)
def putK (kvs : List (κ × V)) (k : κ) (v : V) : List (κ × V) :=
  if (kvs.any fun kv => decide (kv.1 = k)) = true then kvs.map (fun kv => if kv.1 = k then (kv.1, v) else kv) else kvs ++ [(k, v)]
def dropK (kvs : List (κ × V)) (k : κ) : List (κ × V) := kvs.filter fun kv => decide (kv.1 ≠ k)
theorem valV_pos {p : κ × V} {r : List (κ × V)} {k : κ} (e : p.1 = k) : valV (p :: r) k = some p.2 := by simp [valV, List.find?_cons, e]
theorem valV_neg {p : κ × V} {r : List (κ × V)} {k : κ} (e : ¬ p.1 = k) : valV (p :: r) k = valV r k := by simp [valV, List.find?_cons, e]
theorem valV_any (k : κ) : ∀ kvs : List (κ × V), (kvs.any fun kv => decide (kv.1 = k)) = (valV kvs k).isSome
  | [] => rfl
  | p :: r => by
    rw [List.any_cons]
    by_cases e : p.1 = k
    · simp only [valV_pos e, decide_eq_true e, Bool.true_or, Option.isSome_some]
    · rw [valV_neg e, decide_eq_false e, Bool.false_or]; exact valV_any k r
theorem RelO.isSome_eq {o : Option V} {u : Option Value} (r : RelO o u) : o.isSome = u.isSome := by
  cases o with
  | none => cases u with
    | none => rfl
    | some _ => exact (show False from r).elim
  | some _ => cases u with
    | none => exact (show False from r).elim
    | some _ => rfl
theorem RelO.getD {o : Option V} {u : Option Value} {d : V} {d' : Value} (r : RelO o u) (rd : RelV d d') : RelV (o.getD d) (u.getD d') := by
  cases o with
  | none => cases u with
    | none => exact rd
    | some _ => exact (show False from r).elim
  | some _ => cases u with
    | none => exact (show False from r).elim
    | some _ => exact r
theorem KV.val {kvs : List (κ × V)} {vs : List (κ × Value)} (r : KV kvs vs) (k : κ) : RelO (valV kvs k) (valueAt vs k) := by
  unfold KV at r
  induction r with
  | nil => exact True.intro
  | @cons p q ps qs h t ih =>
    obtain ⟨h1, h2⟩ := h
    by_cases e : p.1 = k
    · have e' : q.1 = k := h1.symm.trans e
      have b : valueAt (q :: qs) k = some q.2 := by simp [valueAt, List.find?_cons, e']
      rw [valV_pos e, b]; exact h2
    · have e' : ¬ q.1 = k := fun z => e (h1.trans z)
      have b : valueAt (q :: qs) k = valueAt qs k := by simp [valueAt, List.find?_cons, e']
      rw [valV_neg e, b]; exact ih
theorem KV.any {kvs : List (κ × V)} {vs : List (κ × Value)} (r : KV kvs vs) (k : κ) : (kvs.any fun kv => decide (kv.1 = k)) = vs.any fun kv => decide (kv.1 = k) := by
  unfold KV at r
  induction r with
  | nil => rfl
  | cons h t ih => rw [List.any_cons, List.any_cons, ih, h.1]
theorem KV.repl {kvs : List (κ × V)} {vs : List (κ × Value)} (r : KV kvs vs) (k : κ) {y : V} {u : Value} (ry : RelV y u) :
    KV (kvs.map fun kv => if kv.1 = k then (kv.1, y) else kv) (vs.map fun kv => if kv.1 = k then (kv.1, u) else kv) := by
  unfold KV at r ⊢
  induction r with
  | nil => exact .nil
  | @cons p q ps qs h t ih =>
    rw [List.map_cons, List.map_cons]
    refine .cons ?_ ih
    obtain ⟨h1, h2⟩ := h
    by_cases e : p.1 = k
    · rw [if_pos e, if_pos (h1.symm.trans e)]; exact ⟨h1, ry⟩
    · rw [if_neg e, if_neg (fun z => e (h1.trans z))]; exact ⟨h1, h2⟩
theorem KV.put {kvs : List (κ × V)} {vs : List (κ × Value)} (r : KV kvs vs) (k : κ) {y : V} {u : Value} (ry : RelV y u) : KV (putK kvs k y) (stored vs k u) := by
  unfold putK stored
  rw [r.any k]
  by_cases e : (vs.any fun kv => decide (kv.1 = k)) = true
  · rw [if_pos e, if_pos e]; exact r.repl k ry
  · rw [if_neg e, if_neg e]; exact Paired.snoc r ⟨rfl, ry⟩
theorem KV.drop {kvs : List (κ × V)} {vs : List (κ × Value)} (r : KV kvs vs) (k : κ) : KV (dropK kvs k) (without vs k) := by
  unfold KV at r ⊢
  unfold dropK without
  induction r with
  | nil => exact .nil
  | @cons p q ps qs h t ih =>
    obtain ⟨h1, h2⟩ := h
    rw [List.filter_cons, List.filter_cons]
    by_cases e : p.1 = k
    · have a : ¬ decide (p.1 ≠ k) = true := by simp [e]
      have b : ¬ decide (q.1 ≠ k) = true := by simp [h1.symm.trans e]
      rw [if_neg a, if_neg b]; exact ih
    · have e' : ¬ q.1 = k := fun z => e (h1.trans z)
      have a : decide (p.1 ≠ k) = true := by simp [e]
      have b : decide (q.1 ≠ k) = true := by simp [e']
      rw [if_pos a, if_pos b]; exact .cons ⟨h1, h2⟩ ih
theorem KV.keys {kvs : List (κ × V)} {vs : List (κ × Value)} (r : KV kvs vs) : kvs.map (·.1) = vs.map (·.1) := by
  unfold KV at r
  induction r with
  | nil => rfl
  | cons h t ih => rw [List.map_cons, List.map_cons, ih, h.1]
theorem KV.length {kvs : List (κ × V)} {vs : List (κ × Value)} (r : KV kvs vs) : kvs.length = vs.length := Paired.length r
end
abbrev KT (H : Hp) : List (List Key × V) → List (List Key × Addr × Value) → Prop := Paired fun p q => p.1 = q.1 ∧ H q.2.1 = some (.tup (p.1.map kV)) ∧ RelV p.2 q.2.2
theorem KT.val {H : Hp} {kvs : List (List Key × V)} {xs : List (List Key × Addr × Value)} (r : KT H kvs xs) (k : List Key) : RelO (valV kvs k) ((atKey xs k).map (·.2)) := by
  induction r with
  | nil => exact True.intro
  | @cons p q ps qs h t ih =>
    obtain ⟨h1, _, h2⟩ := h
    by_cases e : p.1 = k
    · have e' : q.1 = k := h1.symm.trans e
      have b : atKey (q :: qs) k = some q.2 := by simp [atKey, List.find?_cons, e']
      rw [valV_pos e, b]; exact h2
    · have e' : ¬ q.1 = k := fun z => e (h1.trans z)
      have b : atKey (q :: qs) k = atKey qs k := by simp [atKey, List.find?_cons, e']
      rw [valV_neg e, b]; exact ih
theorem KT.repl {H : Hp} {kvs : List (List Key × V)} {xs : List (List Key × Addr × Value)} (r : KT H kvs xs) (k : List Key) {y : V} {u : Value} (ry : RelV y u) :
    KT H (kvs.map fun kv => if kv.1 = k then (kv.1, y) else kv) (xs.map (putAt k u)) := by
  induction r with
  | nil => exact .nil
  | @cons p q ps qs h t ih =>
    rw [List.map_cons, List.map_cons]
    refine .cons ?_ ih
    obtain ⟨h1, h2, h3⟩ := h
    unfold putAt
    by_cases e : p.1 = k
    · rw [if_pos e, if_pos (h1.symm.trans e)]; exact ⟨h1, h2, ry⟩
    · rw [if_neg e, if_neg (fun z => e (h1.trans z))]; exact ⟨h1, h2, h3⟩
theorem KT.put {H : Hp} {kvs : List (List Key × V)} {xs : List (List Key × Addr × Value)} (r : KT H kvs xs) (k : List Key) {b : Addr} {y : V} {u : Value} (hb : H b = some (.tup (k.map kV))) (ry : RelV y u) :
    KT H (putK kvs k y) (storedH xs k b u) := by
  have e : (kvs.any fun kv => decide (kv.1 = k)) = (atKey xs k).isSome := by
    rw [valV_any, (r.val k).isSome_eq, Option.isSome_map]
  unfold putK storedH
  rw [e]
  by_cases q : (atKey xs k).isSome = true
  · rw [if_pos q, if_pos q]; exact r.repl k ry
  · rw [if_neg q, if_neg q]; exact Paired.snoc r ⟨rfl, hb, ry⟩
theorem KT.keeps {H H' : Hp} {kvs : List (List Key × V)} {xs : List (List Key × Addr × Value)} (r : KT H kvs xs) (ht : ∀ b ys, H b = some (.tup ys) → H' b = some (.tup ys)) : KT H' kvs xs :=
  Paired.mapP r fun _ _ z => ⟨z.1, ht _ _ z.2.1, z.2.2⟩
section
variable {P : Program} {w : World} {H : Hp} {h : Heap} {a : Addr}
end
def DGet (H : Hp) (a : Addr) (y : V) (r : Option V) : Prop :=
  (∃ kvs k, Rd H a (.dK kvs) ∧ y = kV k ∧ r = valV kvs k) ∨ ∃ kvs k b, Rd H a (.dT kvs) ∧ y = .ref b ∧ H b = some (.tup (k.map kV)) ∧ r = valV kvs k
def DPut (H : Hp) (a : Addr) (y v : V) (H' : Hp) : Prop :=
  (∃ kvs k, H a = some (.dK kvs) ∧ y = kV k ∧ kvs.length < sizeLine ∧ H' = upd H a (.dK (putK kvs k v))) ∨
  ∃ kvs k b, H a = some (.dT kvs) ∧ y = .ref b ∧ H b = some (.tup (k.map kV)) ∧ kvs.length < sizeLine ∧ H' = upd H a (.dT (putK kvs k v))
theorem DGet.k {H : Hp} {a : Addr} {kvs : List (Key × V)} {k : Key} (e : H a = some (.dK kvs)) : DGet H a (kV k) (valV kvs k) := .inl ⟨kvs, k, .inl e, rfl, rfl⟩
theorem DGet.t {H : Hp} {a b : Addr} {kvs : List (List Key × V)} {k : List Key} (e : H a = some (.dT kvs)) (eb : H b = some (.tup (k.map kV))) : DGet H a (.ref b) (valV kvs k) := .inr ⟨kvs, k, b, .inl e, rfl, eb, rfl⟩
theorem DPut.k {H : Hp} {a : Addr} {kvs : List (Key × V)} {k : Key} {v : V} (e : H a = some (.dK kvs)) (hl : kvs.length < sizeLine) : DPut H a (kV k) v (upd H a (.dK (putK kvs k v))) := .inl ⟨kvs, k, e, rfl, hl, rfl⟩
theorem DPut.t {H : Hp} {a b : Addr} {kvs : List (List Key × V)} {k : List Key} {v : V} (e : H a = some (.dT kvs)) (eb : H b = some (.tup (k.map kV))) (hl : kvs.length < sizeLine) :
    DPut H a (.ref b) v (upd H a (.dT (putK kvs k v))) := .inr ⟨kvs, k, b, e, rfl, eb, hl, rfl⟩
section
variable {X : Cx} {pins : List (Addr × Obj)} {σ : St} {H : Hp} {s : Shared} {a : Addr} {y v : V} {u r : Value} {o : Option V} {A : Around} {E : Value → Shared → Prop}
end
section
variable {X : Cx} {pins : List (Addr × Obj)} {σ : St} {H : Hp} {s : Shared} {a : Addr} {kvs : List (Key × V)} {k : Key} {u : Value} {A : Around} {E : Value → Shared → Prop}
end
section
variable {X : Cx} {o i e value : Expr} {pos pos' tpos : Pos} {td ty tv : TE}
end
section
variable {X : Cx} {pos : Pos}
end
structure M1 (X : Cx) (o : Expr) (m : Str) (apos : Pos) (e : Expr) (cpos : Pos) : Prop where
  base : attributeBase o m X.env (eval o X.env) = eval o X.env
  few : ((backTo cpos (starEach [e] X.env)).all (fun x => !x.1) && (backToKw cpos (keywordEach [] X.env)).all (fun x => x.1.isSome)
    && decide (([e] : List Expr).length + ([] : List Keyword).length + (if ([] : List Keyword).isEmpty then 0 else 1) < 30)) = true
  line : (apos.endLine == cpos.line) = true
  trees : backTo cpos (starEach [e] X.env) = [(false, eval e X.env)]
structure M2 (X : Cx) (o : Expr) (m : Str) (apos : Pos) (e f : Expr) (cpos : Pos) : Prop where
  base : attributeBase o m X.env (eval o X.env) = eval o X.env
  few : ((backTo cpos (starEach [e, f] X.env)).all (fun x => !x.1) && (backToKw cpos (keywordEach [] X.env)).all (fun x => x.1.isSome)
    && decide (([e, f] : List Expr).length + ([] : List Keyword).length + (if ([] : List Keyword).isEmpty then 0 else 1) < 30)) = true
  line : (apos.endLine == cpos.line) = true
  trees : backTo cpos (starEach [e, f] X.env) = [(false, eval e X.env), (false, eval f X.env)]
section
variable {X : Cx} {pins : List (Addr × Obj)} {σ : St} {H : Hp} {s : Shared} {a : Addr} {y d : V} {u r : Value} {o : Option V} {A : Around} {E : Value → Shared → Prop}
end
section
variable {X : Cx} {o e f : Expr} {apos cpos : Pos} {td ty tx : TE}
end
section
variable {X : Cx} {pins : List (Addr × Obj)} {σ : St} {H : Hp} {s : Shared} {a : Addr} {kvs : List (Key × V)} {A : Around} {E : Value → Shared → Prop}
end
section
variable {X : Cx} {pins : List (Addr × Obj)} {σ : St} {H : Hp} {s : Shared} {a : Addr} {y : V} {u : Value} {A : Around} {E : Value → Shared → Prop}
end
end L2
set_option Elab.async false
set_option linter.all false
set_option maxRecDepth 100000
set_option maxHeartbeats 1000000
namespace MR
open PySem PySem.Spec PyProof.Rows L2
inductive U where
  | non | bl (b : Bool) | int (i : Int) | str (x : Str) | tup (l : List U) | ref (n : Nat)
inductive HU where
  | lst (xs : List U) | ro (xs : List U) | dic (kvs : List (Key × U)) | rod (kvs : List (Key × U)) | ins (C : Str) (fs : List (Str × U)) | exc (C : Str) (fr : Bool) (fs : List (Str × U))
noncomputable abbrev UH := List HU
noncomputable abbrev UE := List (Option U)
section
variable (K : PySem.W.Frag) (H : Hp) (α : List Addr)
mutual
noncomputable def RepU : U → V → Prop
  | .non, v => v = .non
  | .bl b, v => v = .bl b
  | .int i, v => v = .int i
  | .str x, v => v = .str x
  | .tup l, v => ∃ a xs, v = .ref a ∧ SqT K H a xs ∧ RepL l xs
  | .ref n, v => ∃ a, α[n]? = some a ∧ v = .ref a
noncomputable def RepL : List U → List V → Prop
  | [], xs => xs = []
  | u :: l, xs => ∃ x r, xs = x :: r ∧ RepU u x ∧ RepL l r
end
end
noncomputable def Stay (H H' : Hp) : Prop := (∀ b xs, H b = some (.tup xs) → H' b = some (.tup xs)) ∧ ∀ b o u, H b = some (.frz o u) → H' b = some (.frz o u)
theorem Stay.refl (H : Hp) : Stay H H := ⟨fun _ _ q => q, fun _ _ _ q => q⟩
theorem Stay.trans {H H1 H2 : Hp} (a : Stay H H1) (b : Stay H1 H2) : Stay H H2 := ⟨fun c xs q => b.1 c xs (a.1 c xs q), fun c o u q => b.2 c o u (a.2 c o u q)⟩
theorem Stay.sqT {K : PySem.W.Frag} {H H' : Hp} {a : Addr} {xs : List V} (e : Stay H H') (h : SqT K H a xs) : SqT K H' a xs := by
  rcases h with (h | ⟨o, h⟩) | h
  · exact .inl (.inl (e.1 _ _ h))
  · exact .inl (.inr ⟨o, e.2 _ _ _ h⟩)
  · exact .inr h
theorem Stay.new {H : Hp} {p : Addr} (h : H p = none) (o : HO) : Stay H (upd H p o) := ⟨fun b u q => by rw [upd_ne (ne_of_none q h)]; exact q, fun b o u q => by rw [upd_ne (ne_of_none q h)]; exact q⟩
theorem Stay.write {H : Hp} {p : Addr} {o : HO} (h : H p = some o) (m : Mut (some o)) (o' : HO) : Stay H (upd H p o') :=
  ⟨fun b u q => by rw [upd_ne (ne_of q h (fun z => by subst z; exact m))]; exact q, fun b w u q => by rw [upd_ne (ne_of q h (fun z => by subst z; exact m))]; exact q⟩
structure Gr (H : Hp) (α : List Addr) (H' : Hp) (α' : List Addr) : Prop where
  pre : ∃ β, α' = α ++ β
  st : Stay H H'
theorem Gr.refl (H : Hp) (α : List Addr) : Gr H α H α := ⟨⟨[], by simp⟩, .refl H⟩
theorem Gr.trans {H H1 H2 : Hp} {α α1 α2 : List Addr} (a : Gr H α H1 α1) (b : Gr H1 α1 H2 α2) : Gr H α H2 α2 := by
  obtain ⟨⟨β, e⟩, s⟩ := a
  obtain ⟨⟨γ, e'⟩, s'⟩ := b
  exact ⟨⟨β ++ γ, by rw [e', e, List.append_assoc]⟩, s.trans s'⟩
theorem Gr.at {H H' : Hp} {α α' : List Addr} (g : Gr H α H' α') {n : Nat} {a : Addr} (h : α[n]? = some a) : α'[n]? = some a := by
  obtain ⟨β, e⟩ := g.pre
  have hn : n < α.length := (List.getElem?_eq_some_iff.mp h).1
  rw [e, List.getElem?_append_left hn]; exact h
section
variable {K : PySem.W.Frag} {H H' : Hp} {α α' : List Addr}
mutual
theorem RepU.mono (g : Gr H α H' α') : ∀ (u : U) (v : V), RepU K H α u v → RepU K H' α' u v
  | .non, _, h => h
  | .bl _, _, h => h
  | .int _, _, h => h
  | .str _, _, h => h
  | .tup l, v, h => by
    unfold RepU at h ⊢
    obtain ⟨a, xs, e, s, r⟩ := h
    exact ⟨a, xs, e, g.st.sqT s, RepL.mono g l xs r⟩
  | .ref n, v, h => by
    unfold RepU at h ⊢
    obtain ⟨a, e, q⟩ := h
    exact ⟨a, g.at e, q⟩
theorem RepL.mono (g : Gr H α H' α') : ∀ (l : List U) (xs : List V), RepL K H α l xs → RepL K H' α' l xs
  | [], xs, h => h
  | u :: l, xs, h => by
    unfold RepL at h ⊢
    obtain ⟨x, r, e, h1, h2⟩ := h
    exact ⟨x, r, e, RepU.mono g u x h1, RepL.mono g l r h2⟩
end
theorem RepL.length : ∀ {l : List U} {xs : List V}, RepL K H α l xs → l.length = xs.length
  | [], xs, h => by unfold RepL at h; subst h; rfl
  | u :: l, xs, h => by
    unfold RepL at h
    obtain ⟨x, r, e, _, h2⟩ := h
    subst e
    simp [RepL.length h2]
theorem RepL.get : ∀ {l : List U} {xs : List V} {i : Nat} {u : U}, RepL K H α l xs → l[i]? = some u → ∃ x, xs[i]? = some x ∧ RepU K H α u x
  | [], xs, i, u, h, e => by simp at e
  | w :: l, xs, i, u, h, e => by
    unfold RepL at h
    obtain ⟨x, r, e', h1, h2⟩ := h
    subst e'
    cases i with
    | zero => simp at e; subst e; exact ⟨x, rfl, h1⟩
    | succ i => simpa using RepL.get (i := i) h2 (by simpa using e)
theorem RepL.nil : RepL K H α [] [] := by unfold RepL; rfl
theorem RepL.cons {u : U} {l : List U} {x : V} {xs : List V} (h : RepU K H α u x) (t : RepL K H α l xs) : RepL K H α (u :: l) (x :: xs) := by
  unfold RepL; exact ⟨x, xs, rfl, h, t⟩
theorem RepL.append : ∀ {l l' : List U} {xs ys : List V}, RepL K H α l xs → RepL K H α l' ys → RepL K H α (l ++ l') (xs ++ ys)
  | [], l', xs, ys, h, t => by unfold RepL at h; subst h; exact t
  | u :: l, l', xs, ys, h, t => by
    unfold RepL at h
    obtain ⟨x, r, e, h1, h2⟩ := h
    subst e
    exact .cons h1 (RepL.append h2 t)
theorem RepL.take : ∀ {l : List U} {xs : List V} (n : Nat), RepL K H α l xs → RepL K H α (l.take n) (xs.take n)
  | [], xs, n, h => by unfold RepL at h; subst h; simp [RepL.nil]
  | u :: l, xs, 0, h => by simp [RepL.nil]
  | u :: l, xs, n + 1, h => by
    unfold RepL at h
    obtain ⟨x, r, e, h1, h2⟩ := h
    subst e
    exact .cons h1 (RepL.take n h2)
theorem RepL.drop : ∀ {l : List U} {xs : List V} (n : Nat), RepL K H α l xs → RepL K H α (l.drop n) (xs.drop n)
  | [], xs, n, h => by unfold RepL at h; subst h; simp [RepL.nil]
  | u :: l, xs, 0, h => h
  | u :: l, xs, n + 1, h => by
    unfold RepL at h
    obtain ⟨x, r, e, h1, h2⟩ := h
    subst e
    exact RepL.drop n h2
theorem RepL.set {u : U} {x : V} (q : RepU K H α u x) : ∀ {l : List U} {xs : List V} (n : Nat), RepL K H α l xs → RepL K H α (l.set n u) (xs.set n x)
  | [], xs, n, h => by unfold RepL at h; subst h; exact .nil
  | w :: l, xs, 0, h => by
    unfold RepL at h
    obtain ⟨y, r, e, h1, h2⟩ := h
    subst e
    exact .cons q h2
  | w :: l, xs, n + 1, h => by
    unfold RepL at h
    obtain ⟨y, r, e, h1, h2⟩ := h
    subst e
    exact .cons h1 (RepL.set q n h2)
theorem RepL.reverse : ∀ {l : List U} {xs : List V}, RepL K H α l xs → RepL K H α l.reverse xs.reverse
  | [], xs, h => by unfold RepL at h; subst h; exact .nil
  | w :: l, xs, h => by
    unfold RepL at h
    obtain ⟨y, r, e, h1, h2⟩ := h
    subst e
    rw [List.reverse_cons, List.reverse_cons]
    exact (RepL.reverse h2).append (.cons h1 .nil)
theorem RepL.ints : ∀ (ns : List Int), RepL K H α (ns.map U.int) (ns.map V.int)
  | [] => .nil
  | n :: r => .cons rfl (RepL.ints r)
end
noncomputable def RO (K : PySem.W.Frag) (H : Hp) (a : Addr) (xs : List V) : Prop :=
  (∃ o, H a = some (.frz o (.lst xs))) ∨ ∃ (o : Obj) (its : Array Value) (n : Nat), K.lookup a = some o ∧ o.cls = .type "list" ∧ o.dict = none ∧ o.data = .seq its n ∧ its.size ≤ sizeLine ∧ Vals xs its.toList
theorem RO.sq {K : PySem.W.Frag} {H : Hp} {a : Addr} {xs : List V} (h : RO K H a xs) : SqL K H a xs := by
  rcases h with ⟨o, h⟩ | h
  · exact .inl (.inr ⟨o, h⟩)
  · exact .inr h
theorem RO.stay {K : PySem.W.Frag} {H H' : Hp} {a : Addr} {xs : List V} (st : Stay H H') (h : RO K H a xs) : RO K H' a xs := by
  rcases h with ⟨o, h⟩ | h
  · exact .inl ⟨o, st.2 _ _ _ h⟩
  · exact .inr h
noncomputable def ExcIs (a Ca : Addr) (dd : Option Addr) (fr : Bool) (h : Heap) : Prop := ∃ (o : Obj) (vs : Array Value), h.get? a = some o ∧ o.cls = .ref Ca ∧ o.dict = dd ∧ o.data = .fields vs ∧ 1 < vs.size ∧ o.slots = #[] ∧ (fr = true → vs[1]? = some .none)
noncomputable def DictIs (H : Hp) (dd : Option Addr) (vs : List (Str × V)) : Prop := match dd with
  | none => vs = []
  | some dx => ∃ od, H dx = some (.frz od (.xd vs))
theorem DictIs.stay {H H' : Hp} {dd : Option Addr} {vs : List (Str × V)} (st : ∀ b o ws, H b = some (.frz o (.xd ws)) → H' b = some (.frz o (.xd ws))) (h : DictIs H dd vs) : DictIs H' dd vs := by
  cases dd with
  | none => exact h
  | some dx => obtain ⟨od, q⟩ := h; exact ⟨od, st _ _ _ q⟩
noncomputable def HRep (K : PySem.W.Frag) (H : Hp) (α : List Addr) (a : Addr) : HU → Prop
  | .lst us => ∃ xs, H a = some (.lst xs) ∧ RepL K H α us xs
  | .ro us => ∃ xs, RO K H a xs ∧ RepL K H α us xs
  | .dic kvs => ∃ vs, H a = some (.dK vs) ∧ kvs.map (·.1) = vs.map (·.1) ∧ RepL K H α (kvs.map (·.2)) (vs.map (·.2))
  | .rod kvs => ∃ o vs, H a = some (.frz o (.dK vs)) ∧ kvs.map (·.1) = vs.map (·.1) ∧ RepL K H α (kvs.map (·.2)) (vs.map (·.2))
  | .ins C fs => ∃ Ca dx vs, PySem.W.nsIn K mainGlobals C = some (some (.ref Ca)) ∧ H a = some (.ins Ca dx vs) ∧ fs.map (·.1) = vs.map (·.1) ∧ RepL K H α (fs.map (·.2)) (vs.map (·.2))
  | .exc C fr fs => ∃ Ca dd vs, PySem.W.nsIn K mainGlobals C = some (some (.ref Ca)) ∧ H a = some (.ext (ExcIs a Ca dd fr)) ∧ DictIs H dd vs ∧ fs.map (·.1) = vs.map (·.1) ∧ RepL K H α (fs.map (·.2)) (vs.map (·.2))
noncomputable def HU.isRo : HU → Bool
  | .ro _ => true
  | _ => false
structure Abs (K : PySem.W.Frag) (H : Hp) (α : List Addr) (L : UH) : Prop where
  len : α.length = L.length
  inj : ∀ (i j : Nat) (a : Addr) (o o' : HU), α[i]? = some a → α[j]? = some a → L[i]? = some o → L[j]? = some o' → i = j ∨ o.isRo = true ∨ o'.isRo = true
  rep : ∀ (i : Nat) (a : Addr) (o : HU), α[i]? = some a → L[i]? = some o → HRep K H α a o
theorem Abs.addr {K : PySem.W.Frag} {H : Hp} {α : List Addr} {L : UH} (A : Abs K H α L) {n : Nat} {o : HU} (h : L[n]? = some o) : ∃ a, α[n]? = some a ∧ HRep K H α a o := by
  have hn : n < α.length := by rw [A.len]; exact (List.getElem?_eq_some_iff.mp h).1
  exact ⟨α[n], List.getElem?_eq_getElem hn, A.rep n _ o (List.getElem?_eq_getElem hn) h⟩
theorem HRep.other {K : PySem.W.Frag} {H H' : Hp} {α α' : List Addr} {a : Addr} {o : HU} (g : Gr H α H' α') (hs : o.isRo = true ∨ ∀ u, H a = some u → H' a = some u) (h : HRep K H α a o) : HRep K H' α' a o := by
  cases o with
  | lst us => obtain ⟨xs, e, r⟩ := h; exact ⟨xs, (hs.resolve_left (by simp [HU.isRo])) _ e, r.mono g⟩
  | ro us => obtain ⟨xs, e, r⟩ := h; exact ⟨xs, e.stay g.st, r.mono g⟩
  | dic kvs => obtain ⟨vs, e, k, r⟩ := h; exact ⟨vs, (hs.resolve_left (by simp [HU.isRo])) _ e, k, r.mono g⟩
  | rod kvs => obtain ⟨o, vs, e, k, r⟩ := h; exact ⟨o, vs, (hs.resolve_left (by simp [HU.isRo])) _ e, k, r.mono g⟩
  | ins C fs => obtain ⟨Ca, dx, vs, n, e, k, r⟩ := h; exact ⟨Ca, dx, vs, n, (hs.resolve_left (by simp [HU.isRo])) _ e, k, r.mono g⟩
  | exc C fr fs => obtain ⟨Ca, dd, vs, n, e, d, k, r⟩ := h; exact ⟨Ca, dd, vs, n, (hs.resolve_left (by simp [HU.isRo])) _ e, d.stay fun b o ws q => g.st.2 b o _ q, k, r.mono g⟩
theorem HRep.some {K : PySem.W.Frag} {H : Hp} {α : List Addr} {a : Addr} {o : HU} (h : HRep K H α a o) (n : o.isRo = false) : ∃ u, H a = some u := by
  cases o with
  | lst us => obtain ⟨xs, e, r⟩ := h; exact ⟨_, e⟩
  | ro us => simp [HU.isRo] at n
  | dic kvs => obtain ⟨vs, e, k, r⟩ := h; exact ⟨_, e⟩
  | rod kvs => obtain ⟨o, vs, e, k, r⟩ := h; exact ⟨_, e⟩
  | ins C fs => obtain ⟨Ca, dx, vs, n', e, k, r⟩ := h; exact ⟨_, e⟩
  | exc C fr fs => obtain ⟨Ca, dd, vs, n', e, k, r⟩ := h; exact ⟨_, e⟩
theorem Abs.new {K : PySem.W.Frag} {H : Hp} {α : List Addr} {L : UH} {p : Addr} {o : HO} {u : HU} (A : Abs K H α L) (hp : H p = none) (hr : HRep K (upd H p o) (α ++ [p]) p u) :
    Abs K (upd H p o) (α ++ [p]) (L ++ [u]) ∧ Gr H α (upd H p o) (α ++ [p]) := by
  have g : Gr H α (upd H p o) (α ++ [p]) := ⟨⟨[p], rfl⟩, .new hp o⟩
  have hl := A.len
  refine ⟨⟨by simp [hl], fun i j a o1 o2 e1 e2 e3 e4 => ?_, fun i a o1 e1 e2 => ?_⟩, g⟩
  · have fresh : ∀ (k : Nat) (o3 : HU), α[k]? = some p → L[k]? = some o3 → o3.isRo = true := fun k o3 q1 q2 => by
      cases hh : o3.isRo with
      | true => rfl
      | false =>
        obtain ⟨u3, q⟩ := (A.rep k p o3 q1 q2).some hh
        rw [hp] at q; cases q
    by_cases hi : i < α.length
    · rw [List.getElem?_append_left hi] at e1
      rw [List.getElem?_append_left (by omega)] at e3
      by_cases hj : j < α.length
      · rw [List.getElem?_append_left hj] at e2
        rw [List.getElem?_append_left (by omega)] at e4
        exact A.inj i j a o1 o2 e1 e2 e3 e4
      · rw [List.getElem?_append_right (by omega)] at e2
        have : a = p := by
          cases hk : j - α.length with
          | zero => rw [hk] at e2; simp at e2; exact e2.symm
          | succ k => rw [hk] at e2; simp at e2
        subst this
        exact .inr (.inl (fresh i o1 e1 e3))
    · rw [List.getElem?_append_right (by omega)] at e1
      have hia : a = p ∧ i = α.length := by
        cases hk : i - α.length with
        | zero => rw [hk] at e1; simp at e1; exact ⟨e1.symm, by omega⟩
        | succ k => rw [hk] at e1; simp at e1
      obtain ⟨rfl, hi'⟩ := hia
      by_cases hj : j < α.length
      · rw [List.getElem?_append_left hj] at e2
        rw [List.getElem?_append_left (by omega)] at e4
        exact .inr (.inr (fresh j o2 e2 e4))
      · rw [List.getElem?_append_right (by omega)] at e2
        have : j = α.length := by
          cases hk : j - α.length with
          | zero => omega
          | succ k => rw [hk] at e2; simp at e2
        exact .inl (by omega)
  · by_cases hi : i < α.length
    · rw [List.getElem?_append_left hi] at e1
      rw [List.getElem?_append_left (by omega)] at e2
      refine (A.rep i a o1 e1 e2).other g ?_
      exact .inr fun u3 q => by rw [upd_ne (ne_of_none q hp)]; exact q
    · rw [List.getElem?_append_right (by omega)] at e1
      rw [List.getElem?_append_right (by omega)] at e2
      have h1 : i - α.length = 0 := by
        cases hk : i - α.length with
        | zero => rfl
        | succ k => rw [hk] at e1; simp at e1
      rw [h1] at e1
      rw [show i - L.length = 0 by omega] at e2
      simp at e1 e2
      subst e1; subst e2
      exact hr
theorem Abs.put {K : PySem.W.Frag} {H : Hp} {α : List Addr} {L : UH} {p : Addr} {n : Nat} {o0 o : HO} {u0 u : HU} (A : Abs K H α L) (hn : α[n]? = some p) (hL : L[n]? = some u0) (hro : u0.isRo = false) (hro' : u.isRo = false) (hp : H p = some o0) (hm : Mut (some o0)) (hr : HRep K (upd H p o) α p u) :
    Abs K (upd H p o) α (L.set n u) ∧ Gr H α (upd H p o) α := by
  have g : Gr H α (upd H p o) α := ⟨⟨[], by simp⟩, .write hp hm o⟩
  have hl := A.len
  have hlt : n < L.length := (List.getElem?_eq_some_iff.mp hL).1
  have look : ∀ (i : Nat) (o1 : HU), (L.set n u)[i]? = some o1 → ∃ o2, L[i]? = some o2 ∧ o2.isRo = o1.isRo ∧ (i ≠ n → o2 = o1) := fun i o1 e => by
    by_cases hi : n = i
    · subst hi
      rw [List.getElem?_set_self hlt] at e
      cases e
      exact ⟨u0, hL, by rw [hro, hro'], fun z => absurd rfl z⟩
    · rw [List.getElem?_set_ne hi] at e
      exact ⟨o1, e, rfl, fun _ => rfl⟩
  refine ⟨⟨by simp [hl], fun i j a o1 o2 e1 e2 e3 e4 => ?_, fun i a o1 e1 e2 => ?_⟩, g⟩
  · obtain ⟨x1, q1, r1, _⟩ := look i o1 e3
    obtain ⟨x2, q2, r2, _⟩ := look j o2 e4
    rw [← r1, ← r2]
    exact A.inj i j a x1 x2 e1 e2 q1 q2
  · by_cases hi : n = i
    · subst hi
      rw [List.getElem?_set_self hlt] at e2
      cases e2
      rw [hn] at e1; cases e1
      exact hr
    · rw [List.getElem?_set_ne hi] at e2
      refine (A.rep i a o1 e1 e2).other g ?_
      by_cases hap : a = p
      · subst hap
        rcases A.inj i n a o1 u0 e1 hn e2 hL with z | z | z
        · exact absurd z.symm hi
        · exact .inl z
        · rw [hro] at z; cases z
      · exact .inr fun u3 q => by rw [upd_ne hap]; exact q
structure RepS (K : PySem.W.Frag) (H : Hp) (α : List Addr) (δ : UE) (σ : L2.St) : Prop where
  len : δ.length = σ.length
  at_ : ∀ (i : Nat) (u : U), δ[i]? = some (some u) → ∃ v, σ[i]? = some (some v) ∧ RepU K H α u v
theorem RepS.mono {K : PySem.W.Frag} {H H' : Hp} {α α' : List Addr} {δ : UE} {σ : L2.St} (g : Gr H α H' α') (h : RepS K H α δ σ) : RepS K H' α' δ σ :=
  ⟨h.len, fun i u e => let ⟨v, q, r⟩ := h.at_ i u e; ⟨v, q, r.mono g⟩⟩
theorem RepS.set {K : PySem.W.Frag} {H : Hp} {α : List Addr} {δ : UE} {σ : L2.St} (h : RepS K H α δ σ) (i : Nat) {u : U} {v : V} (r : RepU K H α u v) : RepS K H α (δ.set i (some u)) (σ.set i (some v)) :=
  ⟨by simp [h.len], fun j w e => by
    by_cases hj : i = j
    · subst hj
      by_cases hi : i < δ.length
      · rw [List.getElem?_set_self hi] at e
        cases e
        exact ⟨v, List.getElem?_set_self (by rw [← h.len]; exact hi), r⟩
      · rw [List.getElem?_eq_none (by simpa using hi)] at e; cases e
    · rw [List.getElem?_set_ne hj] at e
      obtain ⟨v', q, r'⟩ := h.at_ j w e
      exact ⟨v', by rw [List.getElem?_set_ne hj]; exact q, r'⟩⟩
theorem RepS.start {K : PySem.W.Frag} {H : Hp} {α : List Addr} (N : List Str) {us : List U} {vs : List V} (h : RepL K H α us vs) : RepS K H α (us.map some ++ List.replicate (N.length - us.length) none) (start N vs) := by
  have hl := h.length
  refine ⟨by simp [L2.start, hl], fun i u e => ?_⟩
  by_cases hi : i < us.length
  · rw [List.getElem?_append_left (by simpa using hi), List.getElem?_map] at e
    cases q : us[i]? with
    | none => rw [q] at e; simp at e
    | some w =>
      rw [q] at e
      simp at e
      subst e
      obtain ⟨x, e2, r⟩ := h.get q
      refine ⟨x, ?_, r⟩
      unfold L2.start
      rw [List.getElem?_append_left (by simp; omega), List.getElem?_map, e2]; rfl
  · rw [List.getElem?_append_right (by simpa using hi)] at e
    have := List.mem_of_getElem? e
    simp at this
noncomputable abbrev FE := UE → UH → Option (U × UH)
noncomputable abbrev FT := UE → UH → Option (Bool × UH)
noncomputable abbrev FA := UE → UH → Option (List U × UH)
noncomputable def lE (K : PySem.W.Frag) (f : FE) : TE := fun σ H Q => ∃ α δ L, Abs K H α L ∧ RepS K H α δ σ ∧ ∃ u L', f δ L = some (u, L') ∧ ∀ v H' α', Gr H α H' α' → Abs K H' α' L' → RepU K H' α' u v → Q v H'
noncomputable def lT (K : PySem.W.Frag) (f : FT) : TT := fun σ H Q => ∃ α δ L, Abs K H α L ∧ RepS K H α δ σ ∧ ∃ b L', f δ L = some (b, L') ∧ ∀ H' α', Gr H α H' α' → Abs K H' α' L' → Q b H'
noncomputable def lA (K : PySem.W.Frag) (f : FA) : TA := fun σ H Q => ∃ α δ L, Abs K H α L ∧ RepS K H α δ σ ∧ ∃ us L', f δ L = some (us, L') ∧ ∀ vs H' α', Gr H α H' α' → Abs K H' α' L' → RepL K H' α' us vs → Q vs H'
noncomputable def PEF (X : Cx) (e : Expr) (f : FE) : Prop := PE X e (lE X.K f)
noncomputable def PTF (X : Cx) (e : Expr) (f : FT) : Prop := PT X e (lT X.K f)
noncomputable def PWF (X : Cx) (e : Expr) (f : FT) : Prop := PW X e (lT X.K f)
noncomputable def PAF (X : Cx) (es : List Expr) (f : FA) : Prop := PA X es (lA X.K f)
section
variable {X : Cx} {e : Expr} {es : List Expr}
theorem PE.imp {t t' : TE} (h : PE X e t) (hi : ∀ σ H Q, t' σ H Q → t σ H Q) : PE X e t' := fun pins s σ H Q I q => h pins s σ H Q I (hi σ H Q q)
theorem PT.imp {t t' : TT} (h : PT X e t) (hi : ∀ σ H Q, t' σ H Q → t σ H Q) : PT X e t' := fun pins s σ H Q I q => h pins s σ H Q I (hi σ H Q q)
theorem PW.imp {t t' : TT} (h : PW X e t) (hi : ∀ σ H Q, t' σ H Q → t σ H Q) : PW X e t' := fun wh pins s σ H Q I q => h wh pins s σ H Q I (hi σ H Q q)
theorem PA.imp {t t' : TA} (h : PA X es t) (hi : ∀ σ H Q, t' σ H Q → t σ H Q) : PA X es t' := fun pos pins s σ H Q I q => h pos pins s σ H Q I (hi σ H Q q)
end
noncomputable def fVar (i : Nat) : FE := fun δ L => (δ[i]?).join.map fun u => (u, L)
noncomputable def fC (u : U) : FE := fun _ L => some (u, L)
section
variable {X : Cx} {a b c e : Expr} {pos : Pos}
theorem pf_v (i : Nat) {x : Str} {pos : Pos} (hN : X.N[i]? = some x := by rfl) (hv : Vis X.env.scope x := by first | exact Or.inl rfl | exact Or.inr (Or.inl rfl) | exact Or.inr (Or.inr rfl))
    (hd : (x == ("__debug__" : Str)) = false := by decide) (hcd : (x == ("__classdict__" : Str)) = false := by decide) : PEF X (.Name x pos) (fVar i) := by
  refine PE.imp (pe_var hN hv hd hcd) ?_
  rintro σ H Q ⟨α, δ, L, A, S, u, L', e, q⟩
  unfold fVar at e
  cases h : δ[i]? with
  | none => rw [h] at e; simp at e
  | some o =>
    cases o with
    | none => rw [h] at e; simp at e
    | some w =>
      rw [h] at e
      simp at e
      obtain ⟨rfl, rfl⟩ := e
      obtain ⟨v, hv, r⟩ := S.at_ i w h
      exact ⟨v, hv, q v H α (.refl _ _) A r⟩
theorem pf_c {v : V} {u : U} (h : PE X e (tC v)) (r : ∀ H α, RepU X.K H α u v) : PEF X e (fC u) := by
  refine PE.imp h ?_
  rintro σ H Q ⟨α, δ, L, A, S, w, L', e, q⟩
  unfold fC at e
  cases e
  exact q v H α (.refl _ _) A (r H α)
theorem pf_int {i : Int} {j pos} : PEF X (.Constant (.int i) j pos) (fC (.int i)) := pf_c pe_int fun _ _ => rfl
theorem pf_bl {b : Bool} {j pos} : PEF X (.Constant (.bool b) j pos) (fC (.bl b)) := pf_c pe_bl fun _ _ => rfl
theorem pf_non {j pos} : PEF X (.Constant .none j pos) (fC .non) := pf_c pe_non fun _ _ => rfl
theorem pf_str {x : Str} {j pos} : PEF X (.Constant (.str x) j pos) (fC (.str x)) := pf_c pe_str fun _ _ => rfl
noncomputable abbrev S2 := U → U → UH → Option (U × UH)
noncomputable def SemR2 (K : PySem.W.Frag) (r : R2) (sem : S2) : Prop := ∀ (H : Hp) (α : List Addr) (L : UH) (u w : U) (x y : V) (z : U) (L' : UH) (Q : VK), Abs K H α L → RepU K H α u x → RepU K H α w y → sem u w L = some (z, L') →
  (∀ v H' α', Gr H α H' α' → Abs K H' α' L' → RepU K H' α' z v → Q v H') → r x y H Q
noncomputable def f2 (sem : S2) (fa fb : FE) : FE := fun δ L => (fa δ L).bind fun p => (fb δ p.2).bind fun q => sem p.1 q.1 q.2
theorem lE_op {K : PySem.W.Frag} {r : R2} {sem : S2} {fa fb : FE} (h : SemR2 K r sem) : ∀ σ H Q, lE K (f2 sem fa fb) σ H Q → tOp r (lE K fa) (lE K fb) σ H Q := by
  rintro σ H Q ⟨α, δ, L, A, S, z, L3, e, q⟩
  obtain ⟨⟨u, L1⟩, e1, e⟩ := Option.bind_eq_some_iff.mp e
  obtain ⟨⟨w, L2⟩, e2, e3⟩ := Option.bind_eq_some_iff.mp e
  refine ⟨α, δ, L, A, S, u, L1, e1, fun x H1 α1 g1 A1 r1 => ⟨α1, δ, L1, A1, S.mono g1, w, L2, e2, fun y H2 α2 g2 A2 r2 => ?_⟩⟩
  exact h H2 α2 L2 u w x y z L3 Q A2 (r1.mono g2) r2 e3 fun v H3 α3 g3 A3 r3 => q v H3 α3 (g1.trans (g2.trans g3)) A3 r3
theorem pf_op {op : Operator} {r : R2} {sem : S2} {fa fb : FE} (ho : OpR X (binaryOp op) r) (h : SemR2 X.K r sem) (ha : PEF X a fa) (hb : PEF X b fb) : PEF X (.BinOp a op b pos) (f2 sem fa fb) := PE.imp (pe_op ho ha hb) (lE_op h)
theorem pf_cmp {op : CmpOp} {r : R2} {sem : S2} {fa fb : FE} (ho : OpR X (compareOp op) r) (h : SemR2 X.K r sem) (ha : PEF X a fa) (hb : PEF X b fb) (hm : behindInMarks op b = false) : PEF X (.Compare a [op] [b] pos) (f2 sem fa fb) := PE.imp (pe_cmpR ho ha hb hm) (lE_op h)
noncomputable def fTest (f : FE) : FT := fun δ L => (f δ L).bind fun p => match p.1 with | .bl k => some (k, p.2) | _ => none
theorem lT_test {K : PySem.W.Frag} {t : TE} {f : FE} (ht : ∀ σ H Q, lE K f σ H Q → t σ H Q) : ∀ σ H Q, lT K (fTest f) σ H Q → tTest t σ H Q := by
  rintro σ H Q ⟨α, δ, L, A, S, b, L1, e, q⟩
  obtain ⟨⟨u, L2⟩, e1, e⟩ := Option.bind_eq_some_iff.mp e
  refine ht σ H _ ⟨α, δ, L, A, S, u, L2, e1, fun x H1 α1 g1 A1 r1 => ?_⟩
  cases u with
  | bl k => simp at e; obtain ⟨rfl, rfl⟩ := e; exact ⟨k, r1, q H1 α1 g1 A1⟩
  | _ => simp at e
theorem ptf_cmp {op : CmpOp} {r : R2} {sem : S2} {fa fb : FE} (ho : OpR X (compareOp op) r) (h : SemR2 X.K r sem) (ha : PEF X a fa) (hb : PEF X b fb) (hm : behindInMarks op b = false) : PTF X (.Compare a [op] [b] pos) (fTest (f2 sem fa fb)) := PT.imp (pt_cmpR ho ha hb hm) (lT_test (lE_op h))
end
end MR
set_option Elab.async false
set_option linter.all false
set_option maxRecDepth 100000
set_option maxHeartbeats 1000000
namespace MR
open PySem PySem.Spec PyProof.Rows L2
section
variable {X : Cx} {a b c e : Expr} {pos : Pos} {rest : List Expr}
noncomputable def fAnd (f g : FT) : FT := fun δ L => (f δ L).bind fun p => if p.1 = true then g δ p.2 else some (false, p.2)
noncomputable def fOr (f g : FT) : FT := fun δ L => (f δ L).bind fun p => if p.1 = true then some (true, p.2) else g δ p.2
noncomputable def fNot (f : FT) : FT := fun δ L => (f δ L).map fun p => (!p.1, p.2)
noncomputable def fAndV (f g : FE) : FE := fun δ L => (f δ L).bind fun p => match p.1 with | .bl k => if k = true then g δ p.2 else some (.bl false, p.2) | _ => none
noncomputable def fOrV (f g : FE) : FE := fun δ L => (f δ L).bind fun p => match p.1 with | .bl k => if k = true then some (.bl true, p.2) else g δ p.2 | _ => none
noncomputable def fNotV (f : FE) : FE := fun δ L => (f δ L).bind fun p => match p.1 with | .bl k => some (.bl (!k), p.2) | _ => none
noncomputable def fIf (c : FT) (f g : FE) : FE := fun δ L => (c δ L).bind fun p => if p.1 = true then f δ p.2 else g δ p.2
theorem pwf_and1 {f : FT} (ha : PTF X a f) : PWF X (.BoolOp .And [a] pos) f := pw_and1 ha
theorem pwf_or1 {f : FT} (ha : PTF X a f) : PWF X (.BoolOp .Or [a] pos) f := pw_or1 ha
theorem pwf_and {f g : FT} (ha : PTF X a f) (hb : PWF X (.BoolOp .And (b :: rest) pos) g) : PWF X (.BoolOp .And (a :: b :: rest) pos) (fAnd f g) := by
  refine PW.imp (pw_and ha hb) ?_
  rintro σ H Q ⟨α, δ, L, A, S, z, L3, e, q⟩
  obtain ⟨⟨u, L1⟩, e1, e⟩ := Option.bind_eq_some_iff.mp e
  refine ⟨α, δ, L, A, S, u, L1, e1, fun H1 α1 g1 A1 => ?_⟩
  cases u with
  | true => exact iteT ⟨α1, δ, L1, A1, S.mono g1, z, L3, e, fun H2 α2 g2 A2 => q H2 α2 (g1.trans g2) A2⟩
  | false => cases e; exact iteF (q H1 α1 g1 A1)
theorem pwf_or {f g : FT} (ha : PTF X a f) (hb : PWF X (.BoolOp .Or (b :: rest) pos) g) : PWF X (.BoolOp .Or (a :: b :: rest) pos) (fOr f g) := by
  refine PW.imp (pw_or ha hb) ?_
  rintro σ H Q ⟨α, δ, L, A, S, z, L3, e, q⟩
  obtain ⟨⟨u, L1⟩, e1, e⟩ := Option.bind_eq_some_iff.mp e
  refine ⟨α, δ, L, A, S, u, L1, e1, fun H1 α1 g1 A1 => ?_⟩
  cases u with
  | false => exact iteF ⟨α1, δ, L1, A1, S.mono g1, z, L3, e, fun H2 α2 g2 A2 => q H2 α2 (g1.trans g2) A2⟩
  | true => cases e; exact iteT (q H1 α1 g1 A1)
theorem PWF.pt {f : FT} (h : PWF X e f) : PTF X e f := PW.pt h
theorem ptf_not {f : FT} (ha : PTF X a f) : PTF X (.UnaryOp .Not a pos) (fNot f) := by
  refine PT.imp (pt_not ha) ?_
  rintro σ H Q ⟨α, δ, L, A, S, z, L3, e, q⟩
  obtain ⟨⟨u, L1⟩, e1, e⟩ := Option.map_eq_some_iff.mp e
  cases e
  exact ⟨α, δ, L, A, S, u, L1, e1, fun H1 α1 g1 A1 => q H1 α1 g1 A1⟩
theorem pf_one {op} {f : FE} (h : PEF X a f) : PEF X (.BoolOp op [a] pos) f := pe_one h
theorem pf_and {f g : FE} (ha : PEF X a f) (hb : PEF X (.BoolOp .And (b :: rest) pos) g) : PEF X (.BoolOp .And (a :: b :: rest) pos) (fAndV f g) := by
  refine PE.imp (pe_and ha hb) ?_
  rintro σ H Q ⟨α, δ, L, A, S, z, L3, e, q⟩
  obtain ⟨⟨u, L1⟩, e1, e⟩ := Option.bind_eq_some_iff.mp e
  refine ⟨α, δ, L, A, S, u, L1, e1, fun v H1 α1 g1 A1 r1 => ?_⟩
  cases u with
  | bl k =>
    cases k with
    | true => exact ⟨true, r1, iteT ⟨α1, δ, L1, A1, S.mono g1, z, L3, e, fun v H2 α2 g2 A2 r => q v H2 α2 (g1.trans g2) A2 r⟩⟩
    | false => cases e; exact ⟨false, r1, iteF (q _ H1 α1 g1 A1 rfl)⟩
  | _ => simp at e
theorem pf_not {f : FE} (ha : PEF X a f) : PEF X (.UnaryOp .Not a pos) (fNotV f) := by
  refine PE.imp (pe_not ha) ?_
  rintro σ H Q ⟨α, δ, L, A, S, z, L3, e, q⟩
  obtain ⟨⟨u, L1⟩, e1, e⟩ := Option.bind_eq_some_iff.mp e
  refine ⟨α, δ, L, A, S, u, L1, e1, fun v H1 α1 g1 A1 r1 => ?_⟩
  cases u with
  | bl k => cases e; exact ⟨k, r1, q _ H1 α1 g1 A1 rfl⟩
  | _ => simp at e
noncomputable def fNil : FA := fun _ L => some ([], L)
noncomputable def fCons (f : FE) (g : FA) : FA := fun δ L => (f δ L).bind fun p => (g δ p.2).map fun q => (p.1 :: q.1, q.2)
theorem paf_nil : PAF X [] fNil := by
  refine PA.imp pa_nil ?_
  rintro σ H Q ⟨α, δ, L, A, S, z, L3, e, q⟩
  cases e
  exact q [] H α (.refl _ _) A .nil
theorem paf_cons {es : List Expr} {f : FE} {g : FA} (ha : PEF X e f) (hr : PAF X es g) (hs : starEach (e :: es) X.env = (false, eval e X.env) :: starEach es X.env := by rfl) : PAF X (e :: es) (fCons f g) := by
  refine PA.imp (pa_cons ha hr hs) ?_
  rintro σ H Q ⟨α, δ, L, A, S, z, L3, e, q⟩
  obtain ⟨⟨u, L1⟩, e1, e⟩ := Option.bind_eq_some_iff.mp e
  obtain ⟨⟨us, L2⟩, e2, e⟩ := Option.map_eq_some_iff.mp e
  cases e
  exact ⟨α, δ, L, A, S, u, L1, e1, fun x H1 α1 g1 A1 r1 => ⟨α1, δ, L1, A1, S.mono g1, us, L2, e2, fun xs H2 α2 g2 A2 r2 => q (x :: xs) H2 α2 (g1.trans g2) A2 (.cons (r1.mono g2) r2)⟩⟩
noncomputable def small (n : Nat) : Bool := decide (n ≤ sizeLine)
noncomputable def fTup (g : FA) : FE := fun δ L => (g δ L).bind fun p => if small p.1.length = true then some (.tup p.1, p.2) else none
noncomputable def fLst (g : FA) : FE := fun δ L => (g δ L).bind fun p => if small p.1.length = true then some (.ref p.2.length, p.2 ++ [.lst p.1]) else none
theorem small_le {n : Nat} (h : small n = true) : n ≤ sizeLine := of_decide_eq_true h
theorem Abs.tup {K : PySem.W.Frag} {H : Hp} {α : List Addr} {L : UH} {p : Addr} {us : List U} {xs : List V} (A : Abs K H α L) (r : RepL K H α us xs) (hp : H p = none) :
    Gr H α (upd H p (.tup xs)) α ∧ Abs K (upd H p (.tup xs)) α L ∧ RepU K (upd H p (.tup xs)) α (.tup us) (.ref p) := by
  have g : Gr H α (upd H p (.tup xs)) α := ⟨⟨[], by simp⟩, .new hp _⟩
  refine ⟨g, ⟨A.len, A.inj, fun i a o e1 e2 => (A.rep i a o e1 e2).other g (.inr fun u q => by rw [upd_ne (ne_of_none q hp)]; exact q)⟩, ?_⟩
  unfold RepU
  exact ⟨p, xs, rfl, .of upd_same, r.mono g⟩
theorem Abs.lst {K : PySem.W.Frag} {H : Hp} {α : List Addr} {L : UH} {p : Addr} {us : List U} {xs : List V} (A : Abs K H α L) (r : RepL K H α us xs) (hp : H p = none) :
    Gr H α (upd H p (.lst xs)) (α ++ [p]) ∧ Abs K (upd H p (.lst xs)) (α ++ [p]) (L ++ [.lst us]) ∧ RepU K (upd H p (.lst xs)) (α ++ [p]) (.ref L.length) (.ref p) := by
  have g : Gr H α (upd H p (.lst xs)) (α ++ [p]) := ⟨⟨[p], rfl⟩, .new hp _⟩
  obtain ⟨A', _⟩ := A.new (o := .lst xs) (u := .lst us) hp ⟨xs, upd_same, r.mono g⟩
  refine ⟨g, A', ?_⟩
  unfold RepU
  exact ⟨p, by rw [← A.len]; simp, rfl⟩
theorem pf_tup {es : List Expr} {g : FA} {x1} (h : PAF X es g) : PEF X (.Tuple es x1 pos) (fTup g) := by
  refine PE.imp (pe_tup h) ?_
  rintro σ H Q ⟨α, δ, L, A, S, z, L3, e, q⟩
  obtain ⟨⟨us, L1⟩, e1, e⟩ := Option.bind_eq_some_iff.mp e
  refine ⟨α, δ, L, A, S, us, L1, e1, fun xs H1 α1 g1 A1 r1 => ?_⟩
  simp only at e
  split at e
  · rename_i hs
    cases e
    refine ⟨by rw [← r1.length]; exact small_le hs, fun p hp => ?_⟩
    obtain ⟨g2, A2, r2⟩ := A1.tup r1 hp
    exact q _ _ α1 (g1.trans g2) A2 r2
  · cases e
theorem pf_lst {es : List Expr} {g : FA} (h : PAF X es g) : PEF X (.List es pos) (fLst g) := by
  refine PE.imp (pe_lst h) ?_
  rintro σ H Q ⟨α, δ, L, A, S, z, L3, e, q⟩
  obtain ⟨⟨us, L1⟩, e1, e⟩ := Option.bind_eq_some_iff.mp e
  refine ⟨α, δ, L, A, S, us, L1, e1, fun xs H1 α1 g1 A1 r1 => ?_⟩
  simp only at e
  split at e
  · rename_i hs
    cases e
    refine ⟨by rw [← r1.length]; exact small_le hs, fun p hp => ?_⟩
    obtain ⟨g2, A2, r2⟩ := A1.lst r1 hp
    exact q _ _ _ (g1.trans g2) A2 r2
  · cases e
noncomputable abbrev SC := List U → UH → Option (U × UH)
noncomputable def SemC (K : PySem.W.Frag) (r : List V → Hp → VK → Prop) (sem : SC) : Prop := ∀ (H : Hp) (α : List Addr) (L : UH) (us : List U) (xs : List V) (z : U) (L' : UH) (Q : VK), Abs K H α L → RepL K H α us xs → sem us L = some (z, L') →
  (∀ v H' α', Gr H α H' α' → Abs K H' α' L' → RepU K H' α' z v → Q v H') → r xs H Q
noncomputable def fCall (sem : SC) (g : FA) : FE := fun δ L => (g δ L).bind fun p => sem p.1 p.2
theorem lE_cb {K : PySem.W.Frag} {r : List V → Hp → VK → Prop} {sem : SC} {g : FA} (h : SemC K r sem) : ∀ σ H Q, lE K (fCall sem g) σ H Q → tCB r (lA K g) σ H Q := by
  rintro σ H Q ⟨α, δ, L, A, S, z, L3, e, q⟩
  obtain ⟨⟨us, L1⟩, e1, e⟩ := Option.bind_eq_some_iff.mp e
  exact ⟨α, δ, L, A, S, us, L1, e1, fun xs H1 α1 g1 A1 r1 => h H1 α1 L1 us xs z L3 Q A1 r1 e fun v H2 α2 g2 A2 r2 => q v H2 α2 (g1.trans g2) A2 r2⟩
variable {x : Str} {p : Pos} {es : List Expr} {id T : String} {r : List V → Hp → VK → Prop} {sem : SC} {g : FA}
theorem pf_callB (hc : CallR X (.builtin id) r) (h : SemC X.K r sem) (hg : Gl X x) (hm : X.mg x = none) (hv : bootBuiltins x = some (.builtin id)) (ha : PAF X (e :: es) g) (hn : x ≠ "__name__" := by decide) (hdb : (x == ("__debug__" : Str)) = false := by decide)
    (he : starEach (e :: es) X.env = (false, eval e X.env) :: starEach es X.env := by rfl) (hpl : (backTo pos (starEach es X.env)).any (·.1) = false := by rfl) :
    PEF X (.Call (.Name x p) (e :: es) [] pos) (fCall sem g) := PE.imp (pe_callB hc hg hm hv ha hn hdb he hpl) (lE_cb h)
theorem pf_callTy (hc : CallR X (.type T) r) (h : SemC X.K r sem) (hg : Gl X x) (hm : X.mg x = none) (hv : bootBuiltins x = some (.type T)) (ha : PAF X (e :: es) g) (hn : x ≠ "__name__" := by decide) (hdb : (x == ("__debug__" : Str)) = false := by decide)
    (he : starEach (e :: es) X.env = (false, eval e X.env) :: starEach es X.env := by rfl) (hpl : (backTo pos (starEach es X.env)).any (·.1) = false := by rfl) :
    PEF X (.Call (.Name x p) (e :: es) [] pos) (fCall sem g) := PE.imp (pe_callTy hc hg hm hv ha hn hdb he hpl) (lE_cb h)
noncomputable abbrev SM := U → List U → UH → Option (U × UH)
noncomputable def tyU (T : String) (u : U) (L : UH) : Bool := match u with
  | .str _ => T == "str"
  | .int _ => T == "int"
  | .ref n => match L[n]? with
    | some (.lst _) => T == "list"
    | some (.ro _) => T == "list"
    | some (.dic _) => T == "dict"
    | _ => false
  | _ => false
noncomputable def fMeth (T : String) (sem : SM) (f : FE) (g : FA) : FE := fun δ L => (f δ L).bind fun p => if tyU T p.1 p.2 = true then (g δ p.2).bind fun q => sem p.1 q.1 q.2 else none
section
variable {o e : Expr} {es : List Expr} {f : FE} {g : FA} {name : Str} {apos cpos : Pos} {T id : String} {r : V → List V → Hp → VK → Prop} {sem : SM}
end
end
end MR
set_option Elab.async false
set_option linter.all false
set_option maxRecDepth 100000
set_option maxHeartbeats 1000000
namespace MR
open PySem PySem.Spec PyProof.Rows L2
noncomputable abbrev FN := List U → UH → Option (U × UH)
noncomputable def spF (K : PySem.W.Frag) (n : Nat) (f : FN) : Sp := fun vs H Q _ => ∃ α L us, Abs K H α L ∧ RepL K H α us vs ∧ us.length = n ∧ ∃ u L', f us L = some (u, L') ∧ ∀ v H' α', Gr H α H' α' → Abs K H' α' L' → RepU K H' α' u v → Q v H'
section
variable {X : Cx} {a b c e o : Expr} {es : List Expr} {pos p : Pos} {x : Str} {k : Nat} {f : Addr} {fd : FuncData} {ps : List Str} {F : FN} {g : FA} {fa fb fc : FE}
noncomputable def fOwn (n : Nat) (F : FN) (g : FA) : FE := fun δ L => (g δ L).bind fun p => if p.1.length = n then F p.1 p.2 else none
theorem pf_call {n : Nat} (hF : FnOk X.prog X.w X.K X.mg X.base CX0 k f fd ps (spF X.K n F)) (hr : Room k X.A) (hg : Gl X x) (hm : X.mg x = some (.ref f)) (hk : PySem.W.keepIn X.K (.ref f) = true) (hb : Binds X.K fd ps [])
    (ha : PAF X (e :: es) g) (hdb : (x == ("__debug__" : Str)) = false := by decide) (he : starEach (e :: es) X.env = (false, eval e X.env) :: starEach es X.env := by rfl) (hpl : (backTo pos (starEach es X.env)).any (·.1) = false := by rfl) :
    PEF X (.Call (.Name x p) (e :: es) [] pos) (fOwn n F g) := by
  refine PE.imp (pe_call hF hr hg hm hk hb .nil pass0 ha hdb he hpl) ?_
  rintro σ H Q ⟨α, δ, L, A, S, z, L3, e, q⟩
  obtain ⟨⟨us, L1⟩, e1, e⟩ := Option.bind_eq_some_iff.mp e
  simp only at e
  split at e
  · rename_i hl
    refine ⟨α, δ, L, A, S, us, L1, e1, fun xs H1 α1 g1 A1 r1 => ?_⟩
    exact ⟨α1, L1, us, A1, by rw [List.append_nil]; exact r1, hl, z, L3, e, fun v H2 α2 g2 A2 r2 => q v H2 α2 (g1.trans g2) A2 r2⟩
  · cases e
theorem pf_ix {r : R2} {sem : S2} (hr : IxR X r) (h : SemR2 X.K r sem) (ha : PEF X a fa) (hb : PEF X b fb) (hs : PlainIx b) : PEF X (.Subscript a b pos) (f2 sem fa fb) := PE.imp (pe_ix hr ha hb hs) (lE_op h)
noncomputable abbrev FO := UE → UH → Option (Option Int × UH)
noncomputable def lO (K : PySem.W.Frag) (f : FO) : TO := fun σ H Q => ∃ α δ L, Abs K H α L ∧ RepS K H α δ σ ∧ ∃ i L', f δ L = some (i, L') ∧ ∀ H' α', Gr H α H' α' → Abs K H' α' L' → Q i H'
noncomputable def POF (X : Cx) (e : Option Expr) (f : FO) : Prop := PO X e (lO X.K f)
noncomputable def fNoPart : FO := fun _ L => some (none, L)
noncomputable def fPart (f : FE) : FO := fun δ L => (f δ L).bind fun p => match p.1 with | .int i => some (some i, p.2) | _ => none
theorem PO.imp {e : Option Expr} {t t' : TO} (h : PO X e t) (hi : ∀ σ H Q, t' σ H Q → t σ H Q) : PO X e t' := fun pins s σ H Q I q => h pins s σ H Q I (hi σ H Q q)
theorem pof_none : POF X none fNoPart := by
  refine PO.imp po_none ?_
  rintro σ H Q ⟨α, δ, L, A, S, z, L3, e, q⟩
  cases e
  exact q H α (.refl _ _) A
theorem pof_some (h : PEF X e fa) : POF X (some e) (fPart fa) := by
  refine PO.imp (po_some h) ?_
  rintro σ H Q ⟨α, δ, L, A, S, z, L3, e, q⟩
  obtain ⟨⟨u, L1⟩, e1, e⟩ := Option.bind_eq_some_iff.mp e
  refine ⟨α, δ, L, A, S, u, L1, e1, fun x H1 α1 g1 A1 r1 => ?_⟩
  cases u with
  | int i => cases e; exact ⟨i, r1, q H1 α1 g1 A1⟩
  | _ => simp at e
noncomputable abbrev SS := U → Option Int → Option Int → UH → Option (U × UH)
noncomputable def SemSl (K : PySem.W.Frag) (r : V → Option Int → Option Int → Hp → VK → Prop) (sem : SS) : Prop := ∀ (H : Hp) (α : List Addr) (L : UH) (u : U) (x : V) (lo hi : Option Int) (z : U) (L' : UH) (Q : VK), Abs K H α L → RepU K H α u x → sem u lo hi L = some (z, L') →
  (∀ v H' α', Gr H α H' α' → Abs K H' α' L' → RepU K H' α' z v → Q v H') → r x lo hi H Q
noncomputable def fSl (sem : SS) (f : FE) (l h : FO) : FE := fun δ L => (f δ L).bind fun p => (l δ p.2).bind fun q => (h δ q.2).bind fun r => sem p.1 q.1 r.1 r.2
theorem pf_slice {r : V → Option Int → Option Int → Hp → VK → Prop} {sem : SS} {lo hi : Option Expr} {fl fh : FO} {p2 : Pos} (hr : SlR X r) (h : SemSl X.K r sem) (he : PEF X e fa) (hl : POF X lo fl) (hu : POF X hi fh) : PEF X (.Subscript e (.Slice lo hi none p2) pos) (fSl sem fa fl fh) := by
  refine PE.imp (pe_slice hr he hl hu) ?_
  rintro σ H Q ⟨α, δ, L, A, S, z, L3, e, q⟩
  obtain ⟨⟨u, L1⟩, e1, e⟩ := Option.bind_eq_some_iff.mp e
  obtain ⟨⟨i, L2⟩, e2, e⟩ := Option.bind_eq_some_iff.mp e
  obtain ⟨⟨j, L4⟩, e3, e⟩ := Option.bind_eq_some_iff.mp e
  refine ⟨α, δ, L, A, S, u, L1, e1, fun x H1 α1 g1 A1 r1 => ⟨α1, δ, L1, A1, S.mono g1, i, L2, e2, fun H2 α2 g2 A2 => ⟨α2, δ, L2, A2, (S.mono g1).mono g2, j, L4, e3, fun H3 α3 g3 A3 => ?_⟩⟩⟩
  exact h H3 α3 L4 u x i j z L3 Q A3 ((r1.mono g2).mono g3) e fun v H4 α4 g4 A4 r4 => q v H4 α4 (g1.trans (g2.trans (g3.trans g4))) A4 r4
noncomputable def fNeg (f : FE) : FE := fun δ L => (f δ L).bind fun p => match p.1 with | .int i => some (.int (-i), p.2) | _ => none
theorem pf_neg (ha : PEF X a fa) : PEF X (.UnaryOp .USub a pos) (fNeg fa) := by
  refine PE.imp (pe_un un_neg ha) ?_
  rintro σ H Q ⟨α, δ, L, A, S, z, L3, e, q⟩
  obtain ⟨⟨u, L1⟩, e1, e⟩ := Option.bind_eq_some_iff.mp e
  refine ⟨α, δ, L, A, S, u, L1, e1, fun x H1 α1 g1 A1 r1 => ?_⟩
  cases u with
  | int i => cases e; exact ⟨i, r1, q _ H1 α1 g1 A1 rfl⟩
  | _ => simp at e
noncomputable def truU (u : U) (L : UH) : Option Bool := match u with
  | .non => some false
  | .bl b => some b
  | .int i => some (i != 0)
  | .str y => if small y.length = true then some ((y.length : Int) != 0) else none
  | .tup l => some (!l.isEmpty)
  | .ref n => match L[n]? with
    | some (.lst xs) => some (!xs.isEmpty)
    | some (.ro xs) => some (!xs.isEmpty)
    | some (.dic kvs) => some (!kvs.isEmpty)
    | _ => none
theorem isEmpty_len {α β : Type} {l : List α} {m : List β} (h : l.length = m.length) : l.isEmpty = m.isEmpty := by
  cases l <;> cases m <;> simp_all
theorem truU_ok {K : PySem.W.Frag} {H : Hp} {α : List Addr} {L : UH} {u : U} {x : V} {k : Bool} (A : Abs K H α L) (r : RepU K H α u x) (h : truU u L = some k) : TruV K x H k := by
  cases u with
  | non => unfold RepU at r; subst r; exact (Option.some.inj h).symm
  | bl b => unfold RepU at r; subst r; exact (Option.some.inj h).symm
  | int i => unfold RepU at r; subst r; exact (Option.some.inj h).symm
  | str y =>
    unfold RepU at r; subst r
    unfold truU at h
    simp only at h
    split at h
    · rename_i hs; cases h; exact ⟨small_le hs, rfl⟩
    · cases h
  | tup l =>
    unfold RepU at r
    obtain ⟨a, xs, rfl, s, r⟩ := r
    exact .inr (.inl ⟨xs, s, by rw [← isEmpty_len r.length]; exact (Option.some.inj h).symm⟩)
  | ref n =>
    unfold RepU at r
    obtain ⟨a, ea, rfl⟩ := r
    unfold truU at h
    simp only at h
    cases q : L[n]? with
    | none => rw [q] at h; simp at h
    | some o =>
      have hr := A.rep n a o ea q
      rw [q] at h
      cases o with
      | lst us => obtain ⟨xs, e, r⟩ := hr; exact .inl ⟨xs, .of e, by rw [← isEmpty_len r.length]; exact (Option.some.inj h).symm⟩
      | ro us => obtain ⟨xs, e, r⟩ := hr; exact .inl ⟨xs, e.sq, by rw [← isEmpty_len r.length]; exact (Option.some.inj h).symm⟩
      | dic kvs => obtain ⟨vs, e, ek, _⟩ := hr; exact .inr (.inr ⟨vs, e, by rw [← isEmpty_len (show kvs.length = vs.length by simpa using congrArg List.length ek)]; exact (Option.some.inj h).symm⟩)
      | rod kvs => simp at h
      | ins C fs => simp at h
      | exc C fr fs => simp at h
noncomputable def fTru (f : FE) : FT := fun δ L => (f δ L).bind fun p => (truU p.1 p.2).map fun k => (k, p.2)
theorem ptf_tru (ha : PEF X a fa) (he : ∀ whole, isTrue a X.env whole = (do let v ← whole; standAt a.pos; holding [v] (truthy v)) := by intro _; rfl) : PTF X a (fTru fa) := by
  refine PT.imp (pt_truth ha he) ?_
  rintro σ H Q ⟨α, δ, L, A, S, z, L3, e, q⟩
  obtain ⟨⟨u, L1⟩, e1, e⟩ := Option.bind_eq_some_iff.mp e
  obtain ⟨k, e2, e⟩ := Option.map_eq_some_iff.mp e
  cases e
  exact ⟨α, δ, L, A, S, u, _, e1, fun x H1 α1 g1 A1 r1 => ⟨_, truU_ok A1 r1 e2, q H1 α1 g1 A1⟩⟩
end
inductive Fl where
  | nx (δ : UE) | rt (u : U) | bk (δ : UE) | ct (δ : UE)
noncomputable abbrev FS := UE → UH → Option (Fl × UH)
noncomputable def Post (K : PySem.W.Frag) (D : Ends) (H : Hp) (α : List Addr) (fl : Fl) (L' : UH) : Prop := match fl with
  | .nx δ' => ∀ σ' H' α', Gr H α H' α' → Abs K H' α' L' → RepS K H' α' δ' σ' → D.nx σ' H'
  | .bk δ' => ∀ σ' H' α', Gr H α H' α' → Abs K H' α' L' → RepS K H' α' δ' σ' → D.bk σ' H'
  | .ct δ' => ∀ σ' H' α', Gr H α H' α' → Abs K H' α' L' → RepS K H' α' δ' σ' → D.ct σ' H'
  | .rt u => ∀ v H' α', Gr H α H' α' → Abs K H' α' L' → RepU K H' α' u v → D.rt v H'
theorem Post.from {K : PySem.W.Frag} {D : Ends} {H H1 : Hp} {α α1 : List Addr} {fl : Fl} {L' : UH} (g : Gr H α H1 α1) (p : Post K D H α fl L') : Post K D H1 α1 fl L' := by
  cases fl with
  | nx δ => exact fun σ' H' α' g' => p σ' H' α' (g.trans g')
  | bk δ => exact fun σ' H' α' g' => p σ' H' α' (g.trans g')
  | ct δ => exact fun σ' H' α' g' => p σ' H' α' (g.trans g')
  | rt u => exact fun v H' α' g' => p v H' α' (g.trans g')
noncomputable def lS (K : PySem.W.Frag) (f : FS) : TS := fun D σ H => ∃ α δ L, Abs K H α L ∧ RepS K H α δ σ ∧ ∃ fl L', f δ L = some (fl, L') ∧ Post K D H α fl L'
noncomputable def PSF (X : Cx) (st : Stmt) (f : FS) : Prop := PS X st (lS X.K f)
noncomputable def PSsF (X : Cx) (st : List Stmt) (f : FS) : Prop := PSs X st (lS X.K f)
section
variable {X : Cx} {st : Stmt} {rest : List Stmt} {e : Expr} {pos : Pos} {f g : FS} {fe : FE}
theorem PS.imp {t t' : TS} (h : PS X st t) (hi : ∀ D σ H, t' D σ H → t D σ H) : PS X st t' := fun pins s σ H D I q => h pins s σ H D I (hi D σ H q)
theorem PSs.imp {sts : List Stmt} {t t' : TS} (h : PSs X sts t) (hi : ∀ D σ H, t' D σ H → t D σ H) : PSs X sts t' := fun pins s σ H D I q => h pins s σ H D I (hi D σ H q)
noncomputable def fNext : FS := fun δ L => some (.nx δ, L)
noncomputable def fSeq (f g : FS) : FS := fun δ L => (f δ L).bind fun p => match p.1 with | .nx δ' => g δ' p.2 | fl => some (fl, p.2)
theorem psf_nil : PSsF X [] fNext := by
  refine PSs.imp pss_nil ?_
  rintro D σ H ⟨α, δ, L, A, S, fl, L', e, q⟩
  cases e
  exact q σ H α (.refl _ _) A S
theorem psf_cons (h1 : PSF X st f) (h2 : PSsF X rest g) : PSsF X (st :: rest) (fSeq f g) := by
  refine PSs.imp (pss_cons h1 h2) ?_
  rintro D σ H ⟨α, δ, L, A, S, fl, L', e, q⟩
  obtain ⟨⟨fl1, L1⟩, e1, e⟩ := Option.bind_eq_some_iff.mp e
  refine ⟨α, δ, L, A, S, fl1, L1, e1, ?_⟩
  cases fl1 with
  | nx δ1 => exact fun σ1 H1 α1 g1 A1 S1 => ⟨α1, δ1, L1, A1, S1, fl, L', e, q.from g1⟩
  | rt u => cases e; exact q
  | bk δ1 => cases e; exact q
  | ct δ1 => cases e; exact q
theorem psf_one (h1 : PSF X st f) : PSsF X [st] f := pss_one h1
noncomputable def fRet (f : FE) : FS := fun δ L => (f δ L).map fun p => (.rt p.1, p.2)
noncomputable def fDrop (f : FE) : FS := fun δ L => (f δ L).map fun p => (.nx δ, p.2)
noncomputable def fRetN : FS := fun _ L => some (.rt .non, L)
theorem psf_ret (he : PEF X e fe) : PSF X (.Return (some e) pos) (fRet fe) := by
  refine PS.imp (ps_ret he) ?_
  rintro D σ H ⟨α, δ, L, A, S, fl, L', e, q⟩
  obtain ⟨⟨u, L1⟩, e1, e⟩ := Option.map_eq_some_iff.mp e
  cases e
  exact ⟨α, δ, L, A, S, u, _, e1, fun v H1 α1 g1 A1 r1 => q v H1 α1 g1 A1 r1⟩
theorem psf_expr (he : PEF X e fe) (hs : swapsWith e none pos.line X.env = pure false := by rfl) : PSF X (.Expr e pos) (fDrop fe) := by
  refine PS.imp (ps_expr he hs) ?_
  rintro D σ H ⟨α, δ, L, A, S, fl, L', e, q⟩
  obtain ⟨⟨u, L1⟩, e1, e⟩ := Option.map_eq_some_iff.mp e
  cases e
  exact ⟨α, δ, L, A, S, u, _, e1, fun v H1 α1 g1 A1 r1 => q σ H1 α1 g1 A1 (S.mono g1)⟩
noncomputable def fIfS (c : FT) (f g : FS) : FS := fun δ L => (c δ L).bind fun p => if p.1 = true then f δ p.2 else g δ p.2
theorem psf_if {c : Expr} {a b : List Stmt} {tc : FT} (hc : PTF X c tc) (ha : PSsF X a f) (hb : PSsF X b g) : PSF X (.If c a b pos) (fIfS tc f g) := by
  refine PS.imp (ps_if hc ha hb) ?_
  rintro D σ H ⟨α, δ, L, A, S, fl, L', e, q⟩
  obtain ⟨⟨u, L1⟩, e1, e⟩ := Option.bind_eq_some_iff.mp e
  refine ⟨α, δ, L, A, S, u, L1, e1, fun H1 α1 g1 A1 => ?_⟩
  cases u with
  | true => exact iteT ⟨α1, δ, L1, A1, S.mono g1, fl, L', e, q.from g1⟩
  | false => exact iteF ⟨α1, δ, L1, A1, S.mono g1, fl, L', e, q.from g1⟩
noncomputable def fNever : FS := fun _ _ => none
theorem psf_never : PSF X st fNever := by
  refine PS.imp ps_never ?_
  rintro D σ H ⟨α, δ, L, A, S, fl, L', e, q⟩
  cases e
end
noncomputable abbrev FG := U → UE → UH → Option (UE × UH)
noncomputable abbrev FGs := List U → UE → UH → Option (UE × UH)
noncomputable def lG (K : PySem.W.Frag) (f : FG) : TG := fun v σ H Q => ∃ α δ L u, Abs K H α L ∧ RepS K H α δ σ ∧ RepU K H α u v ∧ ∃ δ' L', f u δ L = some (δ', L') ∧ ∀ σ' H' α', Gr H α H' α' → Abs K H' α' L' → RepS K H' α' δ' σ' → Q σ' H'
noncomputable def lGs (K : PySem.W.Frag) (f : FGs) : TGs := fun vs σ H Q => ∃ α δ L us, Abs K H α L ∧ RepS K H α δ σ ∧ RepL K H α us vs ∧ ∃ δ' L', f us δ L = some (δ', L') ∧ ∀ σ' H' α', Gr H α H' α' → Abs K H' α' L' → RepS K H' α' δ' σ' → Q σ' H'
noncomputable def PGF (X : Cx) (e : Expr) (f : FG) : Prop := PG X e (lG X.K f)
noncomputable def PGsF (X : Cx) (es : List Expr) (f : FGs) : Prop := PGs X es (lGs X.K f)
section
variable {X : Cx} {e : Expr} {es : List Expr} {pos : Pos}
theorem PG.imp {t t' : TG} (h : PG X e t) (hi : ∀ v σ H Q, t' v σ H Q → t v σ H Q) : PG X e t' := fun pins s σ H v u Q I r q => h pins s σ H v u Q I r (hi v σ H Q q)
theorem PGs.imp {t t' : TGs} (h : PGs X es t) (hi : ∀ v σ H Q, t' v σ H Q → t v σ H Q) : PGs X es t' := fun pins s σ H v u Q I r q => h pins s σ H v u Q I r (hi v σ H Q q)
noncomputable def gN (i : Nat) : FG := fun u δ L => some (δ.set i (some u), L)
theorem pgf_name {i : Nat} {x : Str} (hN : X.N.Nodup) (hi : X.N[i]? = some x := by rfl) (hx : Loc X.env.scope x := by first | exact Or.inl rfl | exact Or.inr rfl) (hf : X.fn x = true ∨ X.env.scope.names.lookup x = some .local := by first | exact .inl rfl | exact .inr rfl) : PGF X (.Name x pos) (gN i) := by
  refine PG.imp (pg_name (i := i) hN hi hx hf) ?_
  rintro v σ H Q ⟨α, δ, L, u, A, S, r, δ', L', e, q⟩
  cases e
  exact q _ H α (.refl _ _) A (S.set i r)
noncomputable def gNil : FGs := fun us δ L => match us with | [] => some (δ, L) | _ => none
noncomputable def gCons (f : FG) (g : FGs) : FGs := fun us δ L => match us with | [] => none | u :: r => (f u δ L).bind fun p => g r p.1 p.2
theorem pgsf_nil : PGsF X [] MR.gNil := by
  refine PGs.imp pgs_nil ?_
  rintro vs σ H Q ⟨α, δ, L, us, A, S, r, δ', L', e, q⟩
  cases us with
  | nil => cases e; exact ⟨by unfold RepL at r; exact r, q σ H α (.refl _ _) A S⟩
  | cons u us => cases e
theorem pgsf_cons {f : FG} {g : FGs} (h1 : PGF X e f) (h2 : PGsF X es g) (hs : (assignEach (e :: es) X.env).map (·.2) = assign e X.env :: (assignEach es X.env).map (·.2) := by rfl) : PGsF X (e :: es) (MR.gCons f g) := by
  refine PGs.imp (pgs_cons h1 h2 hs) ?_
  rintro vs σ H Q ⟨α, δ, L, us, A, S, r, δ', L', e, q⟩
  cases us with
  | nil => cases e
  | cons u us =>
    unfold RepL at r
    obtain ⟨x, xs, rfl, r1, r2⟩ := r
    obtain ⟨⟨δ1, L1⟩, e1, e⟩ := Option.bind_eq_some_iff.mp e
    refine ⟨x, xs, rfl, α, δ, L, u, A, S, r1, δ1, L1, e1, fun σ1 H1 α1 g1 A1 S1 => ?_⟩
    exact ⟨α1, δ1, L1, us, A1, S1, r2.mono g1, δ', L', e, fun σ2 H2 α2 g2 A2 S2 => q σ2 H2 α2 (g1.trans g2) A2 S2⟩
noncomputable def gTup (n : Nat) (g : FGs) : FG := fun u δ L => match u with | .tup us => if us.length = n then g us δ L else none | _ => none
theorem pgf_tup {k : Nat} {g : FGs} {n : Nat} (hc : X.calm = true) (h : PGsF X es g) (hn : (assignEach es X.env).length = n := by rfl) (hst : (assignEach es X.env).findIdx? (·.1) = none := by rfl) : PGF X (.Tuple es k pos) (MR.gTup n g) := by
  refine PG.imp (pg_tup hc h hn hst) ?_
  rintro v σ H Q ⟨α, δ, L, u, A, S, r, δ', L', e, q⟩
  cases u with
  | tup us =>
    unfold RepU at r
    obtain ⟨a, xs, rfl, s, r⟩ := r
    unfold MR.gTup at e
    simp only at e
    split at e
    · rename_i hl
      exact ⟨a, xs, rfl, s, by rw [← r.length]; exact hl, α, δ, L, us, A, S, r, δ', L', e, q⟩
    · cases e
  | _ => simp [MR.gTup] at e
noncomputable def fAsg (fe : FE) (g : FG) : FS := fun δ L => (fe δ L).bind fun p => (g p.1 δ p.2).map fun q => (.nx q.1, q.2)
theorem psf_asg {tg : Expr} {fe : FE} {g : FG} (he : PEF X e fe) (hg : PGF X tg g) (hs : swapsWithSole [tg] e pos.line X.env = pure false := by rfl) (hw : swappedStores [tg] e X.env = pure none := by rfl) (h1 : (assignEach [tg] X.env).map (·.2) = [assign tg X.env] := by rfl) :
    PSF X (.Assign [tg] e pos) (fAsg fe g) := by
  refine PS.imp (ps_asg he hg hs hw h1) ?_
  rintro D σ H ⟨α, δ, L, A, S, fl, L', e, q⟩
  obtain ⟨⟨u, L1⟩, e1, e⟩ := Option.bind_eq_some_iff.mp e
  obtain ⟨⟨δ2, L2⟩, e2, e⟩ := Option.map_eq_some_iff.mp e
  cases e
  exact ⟨α, δ, L, A, S, u, L1, e1, fun v H1 α1 g1 A1 r1 => ⟨α1, δ, L1, u, A1, S.mono g1, r1, δ2, _, e2, fun σ2 H2 α2 g2 A2 S2 => q σ2 H2 α2 (g1.trans g2) A2 S2⟩⟩
theorem psf_set {i : Nat} {x : Str} {fe : FE} {pos' : Pos} (hN : X.N.Nodup) (he : PEF X e fe) (hi : X.N[i]? = some x := by rfl) (hx : Loc X.env.scope x := by first | exact Or.inl rfl | exact Or.inr rfl)
    (hs : swapsWith e (some (.Name x pos')) pos.line X.env = pure false := by rfl) (hf : X.fn x = true ∨ X.env.scope.names.lookup x = some .local := by first | exact .inl rfl | exact .inr rfl) :
    PSF X (.Assign [.Name x pos'] e pos) (fAsg fe (gN i)) := by
  refine PS.imp (ps_set (i := i) hN hi hx he hs hf) ?_
  rintro D σ H ⟨α, δ, L, A, S, fl, L', e, q⟩
  obtain ⟨⟨u, L1⟩, e1, e⟩ := Option.bind_eq_some_iff.mp e
  obtain ⟨⟨δ2, L2⟩, e2, e⟩ := Option.map_eq_some_iff.mp e
  cases e
  cases e2
  exact ⟨α, δ, L, A, S, u, _, e1, fun v H1 α1 g1 A1 r1 => q _ H1 α1 g1 A1 ((S.mono g1).set i r1)⟩
end
end MR
set_option Elab.async false
set_option linter.all false
set_option maxRecDepth 100000
set_option maxHeartbeats 1000000
namespace MR
open PySem PySem.Spec PyProof.Rows L2
noncomputable def lstAt (L : UH) (n : Nat) : Option (List U) := match L[n]? with
  | some (.lst us) => some us
  | _ => none
noncomputable def seqAt (L : UH) (n : Nat) : Option (List U) := match L[n]? with
  | some (.lst us) => some us
  | some (.ro us) => some us
  | _ => none
inductive IU where
  | seq (us : List U) | ref (n : Nat) | enm (n : Nat) | zip2 (n m : Nat) | zipT (us : List U) (m : Nat) | zipL (n : Nat) (ws : List U)
noncomputable def pairU : Option U → Option U → Option U
  | some x, some y => some (.tup [x, y])
  | _, _ => none
noncomputable def IU.at (i : IU) (k : Nat) (L : UH) : Option (Option U) := match i with
  | .seq us => some us[k]?
  | .ref n => match L[n]? with
    | some (.lst us) => some us[k]?
    | some (.ro us) => some us[k]?
    | _ => none
  | .enm n => (seqAt L n).map fun us => (us[k]?).map fun u => .tup [.int k, u]
  | .zip2 n m => (seqAt L n).bind fun us => (seqAt L m).map fun ws => pairU us[k]? ws[k]?
  | .zipT us m => (seqAt L m).map fun ws => pairU us[k]? ws[k]?
  | .zipL n ws => (seqAt L n).map fun us => pairU us[k]? ws[k]?
noncomputable def IU.size (i : IU) (L : UH) : Nat := match i with
  | .seq us => us.length
  | .ref n => match L[n]? with
    | some (.lst us) => us.length
    | some (.ro us) => us.length
    | _ => 0
  | .enm n => match seqAt L n with
    | some us => us.length
    | none => 0
  | .zip2 n m => match seqAt L n, seqAt L m with
    | some us, some ws => min us.length ws.length
    | _, _ => 0
  | .zipT us m => match seqAt L m with
    | some ws => min us.length ws.length
    | none => 0
  | .zipL n ws => match seqAt L n with
    | some us => min us.length ws.length
    | none => 0
noncomputable abbrev FI := UE → UH → Option (IU × UH)
noncomputable def ItRep (K : PySem.W.Frag) (J : It) (i : IU) (H : Hp) (α : List Addr) : Prop := ∀ (H2 : Hp) (α2 : List Addr) (L2 : UH), Gr H α H2 α2 → Abs K H2 α2 L2 → ∀ k : Nat,
  (∀ u, i.at k L2 = some (some u) → J.go k H2 ∧ ∀ x H3, J.yld k H2 x H3 → Gr H2 α2 H3 α2 ∧ Abs K H3 α2 L2 ∧ RepU K H3 α2 u x) ∧ (i.at k L2 = some none → J.stop k H2)
noncomputable def lI (K : PySem.W.Frag) (f : FI) : TI := fun σ H R => ∃ α δ L, Abs K H α L ∧ RepS K H α δ σ ∧ ∃ i L', f δ L = some (i, L') ∧ ∀ J H' α', Gr H α H' α' → Abs K H' α' L' → ItRep K J i H' α' → R J H'
noncomputable def PIF (X : Cx) (tg iter : Expr) (f : FI) : Prop := PI X tg iter (lI X.K f)
section
variable {X : Cx} {tg iter l : Expr} {pos : Pos} {fe : FE}
theorem PI.imp {t t' : TI} (h : PI X tg iter t) (hi : ∀ σ H R, t' σ H R → t σ H R) : PI X tg iter t' := fun pins s σ H R I q => h pins s σ H R I (hi σ H R q)
theorem PI.or {t t' : TI} (h : PI X tg iter t) (h' : PI X tg iter t') : PI X tg iter (fun σ H R => t σ H R ∨ t' σ H R) := fun pins s σ H R I q => by
  rcases q with q | q
  · exact h pins s σ H R I q
  · exact h' pins s σ H R I q
noncomputable def iSeqU (u : U) (L : UH) : Option IU := match u with
  | .tup us => some (.seq us)
  | .ref n => match L[n]? with
    | some (.lst _) => some (.ref n)
    | some (.ro _) => some (.ref n)
    | _ => none
  | _ => none
theorem itl_rep {K : PySem.W.Frag} {H : Hp} {α : List Addr} {n : Nat} {a : Addr} (ea : α[n]? = some a) : ItRep K (Itl K a) (.ref n) H α := by
  intro H2 α2 L2 g A2 k
  have ea2 := g.at ea
  have go : ∀ (us : List U) (xs : List V), SqL K H2 a xs → RepL K H2 α2 us xs → (∀ ys, SqL K H2 a ys → True) → (∀ u, us[k]? = some u → (Itl K a).go k H2 ∧ ∀ x H3, (Itl K a).yld k H2 x H3 → Gr H2 α2 H3 α2 ∧ Abs K H3 α2 L2 ∧ RepU K H3 α2 u x) ∧ (us[k]? = none → (Itl K a).stop k H2) := by
    intro us xs sq r _
    refine ⟨fun u eu => ?_, fun eu => ?_⟩
    · obtain ⟨x, ex, rx⟩ := r.get eu
      refine ⟨⟨xs, x, sq, ex⟩, ?_⟩
      rintro y H3 ⟨rfl, hy⟩
      have := hy xs sq
      rw [ex] at this; cases this
      exact ⟨.refl _ _, A2, rx⟩
    · exact ⟨xs, sq, by rw [← r.length]; exact List.getElem?_eq_none_iff.mp eu⟩
  unfold IU.at
  simp only
  cases q : L2[n]? with
  | none => simp
  | some o =>
    have hr := A2.rep n a o ea2 q
    cases o with
    | lst us =>
      obtain ⟨xs, e, r⟩ := hr
      obtain ⟨h1, h2⟩ := go us xs (.of e) r fun _ _ => trivial
      exact ⟨fun u eu => h1 u (Option.some.inj eu), fun eu => h2 (Option.some.inj eu)⟩
    | ro us =>
      obtain ⟨xs, e, r⟩ := hr
      obtain ⟨h1, h2⟩ := go us xs e.sq r fun _ _ => trivial
      exact ⟨fun u eu => h1 u (Option.some.inj eu), fun eu => h2 (Option.some.inj eu)⟩
    | dic kvs => simp
    | rod kvs => simp
    | ins C fs => simp
    | exc C fr fs => simp
theorem itt_rep {K : PySem.W.Frag} {H : Hp} {α : List Addr} {us : List U} {xs : List V} {a : Addr} (sq : SqT K H a xs) (r : RepL K H α us xs) : ItRep K (Itt K a) (.seq us) H α := by
  intro H2 α2 L2 g A2 k
  have sq2 := g.st.sqT (K := K) sq
  have r2 := r.mono g
  refine ⟨fun u eu => ?_, fun eu => ?_⟩
  · obtain ⟨x, ex, rx⟩ := r2.get (Option.some.inj eu)
    refine ⟨⟨xs, x, sq2, ex⟩, ?_⟩
    rintro y H3 ⟨rfl, hy⟩
    have := hy xs sq2
    rw [ex] at this; cases this
    exact ⟨.refl _ _, A2, rx⟩
  · exact ⟨xs, sq2, by rw [← r2.length]; exact List.getElem?_eq_none_iff.mp (Option.some.inj eu)⟩
theorem itr_rep {K : PySem.W.Frag} {H : Hp} {α : List Addr} (lo : Int) (n : Nat) : ItRep K (Itr lo n) (.seq ((List.range n).map fun i => U.int (lo + (i : Nat)))) H α := by
  intro H2 α2 L2 g A2 k
  refine ⟨fun u eu => ?_, fun eu => ?_⟩
  · have eu := Option.some.inj eu
    rw [List.getElem?_map] at eu
    by_cases hk : k < n
    · rw [List.getElem?_range hk] at eu
      simp at eu
      refine ⟨hk, ?_⟩
      rintro x H3 ⟨rfl, rfl⟩
      subst eu
      exact ⟨.refl _ _, A2, rfl⟩
    · rw [List.getElem?_eq_none (by simpa using hk)] at eu
      simp at eu
  · have := List.getElem?_eq_none_iff.mp (Option.some.inj eu)
    show n ≤ k
    simpa using this
noncomputable def fSeqI (f : FE) : FI := fun δ L => (f δ L).bind fun p => (iSeqU p.1 p.2).map fun i => (i, p.2)
theorem pif_seq (h : PEF X l fe) : PIF X tg l (fSeqI fe) := by
  refine PI.imp (PI.or (pi_list h) (pi_tup h)) ?_
  rintro σ H R ⟨α, δ, L, A, S, i, L3, e, q⟩
  obtain ⟨⟨u, L1⟩, e1, e⟩ := Option.bind_eq_some_iff.mp e
  obtain ⟨j, e2, e⟩ := Option.map_eq_some_iff.mp e
  cases e
  cases u with
  | tup us =>
    cases e2
    refine .inr ⟨α, δ, L, A, S, _, _, e1, fun x H1 α1 g1 A1 r1 => ?_⟩
    unfold RepU at r1
    obtain ⟨a, xs, rfl, sq, r⟩ := r1
    exact ⟨a, rfl, ⟨xs, sq⟩, q _ H1 α1 g1 A1 (itt_rep sq r)⟩
  | ref n =>
    refine .inl ⟨α, δ, L, A, S, _, _, e1, fun x H1 α1 g1 A1 r1 => ?_⟩
    unfold RepU at r1
    obtain ⟨a, ea, rfl⟩ := r1
    refine ⟨a, rfl, ?_⟩
    unfold iSeqU at e2
    simp only at e2
    cases w : L1[n]? with
    | none => simp only [w] at e2; cases e2
    | some o =>
      have hr := A1.rep n a o ea w
      cases o with
      | lst us => simp only [w] at e2; cases e2; obtain ⟨xs, e, r⟩ := hr; exact ⟨⟨xs, .of e⟩, q _ H1 α1 g1 A1 (itl_rep ea)⟩
      | ro us => simp only [w] at e2; cases e2; obtain ⟨xs, e, r⟩ := hr; exact ⟨⟨xs, e.sq⟩, q _ H1 α1 g1 A1 (itl_rep ea)⟩
      | dic kvs => simp only [w] at e2; cases e2
      | rod kvs => simp only [w] at e2; cases e2
      | ins C fs => simp only [w] at e2; cases e2
      | exc C fr fs => simp only [w] at e2; cases e2
  | _ => cases e2
noncomputable def rangeU (lo : Int) (n : Nat) : List U := (List.range n).map fun i => U.int (lo + (i : Nat))
noncomputable def fRng1 (g : FA) : FI := fun δ L => (g δ L).bind fun p => match p.1 with
  | [.int j] => if -(2 ^ 62) ≤ j ∧ j < 2 ^ 62 then some (.seq (rangeU 0 j.toNat), p.2) else none
  | _ => none
noncomputable def fRng2 (g : FA) : FI := fun δ L => (g δ L).bind fun p => match p.1 with
  | [.int i, .int j] => if (-(2 ^ 62) ≤ i ∧ i < 2 ^ 62) ∧ -(2 ^ 62) ≤ j ∧ j < 2 ^ 62 then some (.seq (rangeU i (j - i).toNat), p.2) else none
  | _ => none
theorem RepL.one {K : PySem.W.Frag} {H : Hp} {α : List Addr} {u : U} {xs : List V} (h : RepL K H α [u] xs) : ∃ x, xs = [x] ∧ RepU K H α u x := by
  unfold RepL at h
  obtain ⟨x, r, e, h1, h2⟩ := h
  unfold RepL at h2
  subst h2
  exact ⟨x, e, h1⟩
theorem RepL.two {K : PySem.W.Frag} {H : Hp} {α : List Addr} {u w : U} {xs : List V} (h : RepL K H α [u, w] xs) : ∃ x y, xs = [x, y] ∧ RepU K H α u x ∧ RepU K H α w y := by
  unfold RepL at h
  obtain ⟨x, r, e, h1, h2⟩ := h
  obtain ⟨y, e2, h3⟩ := h2.one
  subst e2
  exact ⟨x, y, e, h1, h3⟩
theorem pif_range1 {a : Expr} {g : FA} {p pos : Pos} (hg : Gl X "range") (hm : X.mg "range" = none) (ha : PAF X [a] g) (hs : starEach [a] X.env = [(false, eval a X.env)] := by rfl) : PIF X tg (.Call (.Name "range" p) [a] [] pos) (fRng1 g) := by
  refine PI.imp (pi_range1 hg hm ha hs) ?_
  rintro σ H R ⟨α, δ, L, A, S, i, L3, e, q⟩
  obtain ⟨⟨us, L1⟩, e1, e⟩ := Option.bind_eq_some_iff.mp e
  refine ⟨α, δ, L, A, S, us, L1, e1, fun xs H1 α1 g1 A1 r1 => ?_⟩
  simp only at e
  split at e
  · rename_i _ j
    split at e
    · rename_i hj
      cases e
      obtain ⟨x, rfl, rx⟩ := r1.one
      unfold RepU at rx
      subst rx
      exact ⟨j, rfl, hj.1, hj.2, q _ H1 α1 g1 A1 (itr_rep 0 _)⟩
    · cases e
  · cases e
theorem pif_range2 {a b : Expr} {g : FA} {p pos : Pos} (hg : Gl X "range") (hm : X.mg "range" = none) (ha : PAF X [a, b] g) (hs : starEach [a, b] X.env = [(false, eval a X.env), (false, eval b X.env)] := by rfl) (hs2 : starEach [b] X.env = [(false, eval b X.env)] := by rfl) : PIF X tg (.Call (.Name "range" p) [a, b] [] pos) (fRng2 g) := by
  refine PI.imp (pi_range2 hg hm ha hs hs2) ?_
  rintro σ H R ⟨α, δ, L, A, S, i, L3, e, q⟩
  obtain ⟨⟨us, L1⟩, e1, e⟩ := Option.bind_eq_some_iff.mp e
  refine ⟨α, δ, L, A, S, us, L1, e1, fun xs H1 α1 g1 A1 r1 => ?_⟩
  simp only at e
  split at e
  · rename_i _ i j
    split at e
    · rename_i hj
      cases e
      obtain ⟨x, y, rfl, rx, ry⟩ := r1.two
      unfold RepU at rx ry
      subst rx
      subst ry
      exact ⟨i, j, rfl, ⟨hj.1.1, hj.1.2, hj.2.1, hj.2.2⟩, q _ H1 α1 g1 A1 (itr_rep i _)⟩
    · cases e
  · cases e
noncomputable def loopU (i : IU) (g : FG) (body : FS) : Nat → Nat → UE → UH → Option (Fl × UH)
  | 0, _, _, _ => none
  | m + 1, k, δ, L => match i.at k L with
    | none => none
    | some none => some (.nx δ, L)
    | some (some u) => (g u δ L).bind fun p => (body p.1 p.2).bind fun q => match q.1 with
      | .nx δ' => loopU i g body m (k + 1) δ' q.2
      | .ct δ' => loopU i g body m (k + 1) δ' q.2
      | .bk δ' => some (.nx δ', q.2)
      | .rt w => some (.rt w, q.2)
noncomputable def fFor (fi : FI) (g : FG) (body : FS) : FS := fun δ L => (fi δ L).bind fun p => loopU p.1 g body (p.1.size p.2 + 1) 0 δ p.2
theorem psf_for {body : List Stmt} {fi : FI} {g : FG} {fb : FS} (hp : PassesOwn (model X.prog X.w) X.A X.env X.xe) (hc : X.calm = true) (hi : PIF X tg iter fi) (hg : PGF X tg g) (hb : PSsF X body fb)
    (hs : ∀ x, foldedSetIterable iter X.env x = pure x := by intro _; rfl) : PSF X (.For tg iter body [] pos) (fFor fi g fb) := by
  refine PS.imp (ps_for hp hc hi hg hb hs) ?_
  rintro D σ H ⟨α, δ, L, A, S, fl, L', e, q⟩
  obtain ⟨⟨it, L1⟩, e1, e⟩ := Option.bind_eq_some_iff.mp e
  refine ⟨α, δ, L, A, S, it, L1, e1, fun J H1 α1 g1 A1 hJ => ?_⟩
  refine ⟨fun k m σ2 H2 => ∃ α2 δ2 L2, Gr H1 α1 H2 α2 ∧ Abs X.K H2 α2 L2 ∧ RepS X.K H2 α2 δ2 σ2 ∧ loopU it g fb m k δ2 L2 = some (fl, L') ∧ Post X.K D H2 α2 fl L', ⟨_, α1, δ, L1, .refl _ _, A1, S.mono g1, e, q.from g1⟩, ?_⟩
  rintro k m σ2 H2 ⟨α2, δ2, L2, g2, A2, S2, e2, q2⟩
  cases m with
  | zero => cases e2
  | succ m =>
    obtain ⟨hgo, hstop⟩ := hJ H2 α2 L2 g2 A2 k
    unfold loopU at e2
    cases hat : it.at k L2 with
    | none => rw [hat] at e2; cases e2
    | some o =>
      cases o with
      | none =>
        rw [hat] at e2
        cases e2
        exact .inl ⟨hstop hat, q2 σ2 H2 α2 (.refl _ _) A2 S2⟩
      | some u =>
        rw [hat] at e2
        obtain ⟨go, yld⟩ := hgo u hat
        obtain ⟨⟨δ3, L3⟩, e3, e2⟩ := Option.bind_eq_some_iff.mp e2
        obtain ⟨⟨fl4, L4⟩, e4, e2⟩ := Option.bind_eq_some_iff.mp e2
        refine .inr ⟨go, fun σ5 H5 => ∃ α5 δ5 L5, Gr H1 α1 H5 α5 ∧ Abs X.K H5 α5 L5 ∧ RepS X.K H5 α5 δ5 σ5 ∧ loopU it g fb m (k + 1) δ5 L5 = some (fl, L') ∧ Post X.K D H5 α5 fl L', fun σ5 H5 h5 => ⟨m, Nat.lt_succ_self _, h5⟩, fun x H3 y3 => ?_⟩
        obtain ⟨g3, A3, r3⟩ := yld x H3 y3
        refine ⟨α2, δ2, L2, u, A3, S2.mono g3, r3, δ3, L3, e3, fun σ4 H4 α4 g4 A4 S4 => ⟨α4, δ3, L3, A4, S4, fl4, L4, e4, ?_⟩⟩
        have gA := g2.trans (g3.trans g4)
        have gB := g3.trans g4
        cases fl4 with
        | nx δ5 => exact fun σ5 H5 α5 g5 A5 S5 => ⟨α5, δ5, L4, gA.trans g5, A5, S5, e2, q2.from (gB.trans g5)⟩
        | ct δ5 => exact fun σ5 H5 α5 g5 A5 S5 => ⟨α5, δ5, L4, gA.trans g5, A5, S5, e2, q2.from (gB.trans g5)⟩
        | bk δ5 => cases e2; exact fun σ5 H5 α5 g5 A5 S5 => q2 σ5 H5 α5 (gB.trans g5) A5 S5
        | rt w => cases e2; exact fun v H5 α5 g5 A5 r5 => q2 v H5 α5 (gB.trans g5) A5 r5
noncomputable def whileU (c : FT) (body : FS) : Nat → UE → UH → Option (Fl × UH)
  | 0, _, _ => none
  | m + 1, δ, L => (c δ L).bind fun p => if p.1 = true then (body δ p.2).bind fun q => match q.1 with
      | .nx δ' => whileU c body m δ' q.2
      | .ct δ' => whileU c body m δ' q.2
      | .bk δ' => some (.nx δ', q.2)
      | .rt w => some (.rt w, q.2)
    else some (.nx δ, p.2)
theorem psf_while {c : Expr} {body : List Stmt} {tc : FT} {fb : FS} (n : Nat) (hp : PassesOwn (model X.prog X.w) X.A X.env X.xe) (hc : PTF X c tc) (hb : PSsF X body fb) : PSF X (.While c body [] pos) (whileU tc fb n) := by
  refine PS.imp (ps_while hp hc hb) ?_
  rintro D σ H ⟨α, δ, L, A, S, fl, L', e, q⟩
  refine ⟨fun m σ2 H2 => ∃ α2 δ2 L2, Abs X.K H2 α2 L2 ∧ RepS X.K H2 α2 δ2 σ2 ∧ whileU tc fb m δ2 L2 = some (fl, L') ∧ Post X.K D H2 α2 fl L', ⟨n, α, δ, L, A, S, e, q⟩, ?_⟩
  rintro m σ2 H2 ⟨α2, δ2, L2, A2, S2, e2, q2⟩
  cases m with
  | zero => cases e2
  | succ m =>
    unfold whileU at e2
    obtain ⟨⟨b, L3⟩, e3, e2⟩ := Option.bind_eq_some_iff.mp e2
    refine ⟨α2, δ2, L2, A2, S2, b, L3, e3, fun H3 α3 g3 A3 => ?_⟩
    cases b with
    | false => cases e2; exact iteF (q2 σ2 H3 α3 g3 A3 (S2.mono g3))
    | true =>
      obtain ⟨⟨fl4, L4⟩, e4, e2⟩ := Option.bind_eq_some_iff.mp e2
      refine iteT ⟨fun σ5 H5 => ∃ α5 δ5 L5, Abs X.K H5 α5 L5 ∧ RepS X.K H5 α5 δ5 σ5 ∧ whileU tc fb m δ5 L5 = some (fl, L') ∧ Post X.K D H5 α5 fl L', fun σ5 H5 h5 => ⟨m, Nat.lt_succ_self _, h5⟩, ?_⟩
      refine ⟨α3, δ2, L3, A3, S2.mono g3, fl4, L4, e4, ?_⟩
      cases fl4 with
      | nx δ5 => exact fun σ5 H5 α5 g5 A5 S5 => ⟨α5, δ5, L4, A5, S5, e2, q2.from (g3.trans g5)⟩
      | ct δ5 => exact fun σ5 H5 α5 g5 A5 S5 => ⟨α5, δ5, L4, A5, S5, e2, q2.from (g3.trans g5)⟩
      | bk δ5 => cases e2; exact fun σ5 H5 α5 g5 A5 S5 => q2 σ5 H5 α5 (g3.trans g5) A5 S5
      | rt w => cases e2; exact fun v H5 α5 g5 A5 r5 => q2 v H5 α5 (g3.trans g5) A5 r5
end
noncomputable def fnU (n m : Nat) (body : FS) : FN := fun us L => if us.length = m then (body (us.map some ++ List.replicate (n - us.length) none) L).bind fun p => match p.1 with
  | .rt u => some (u, p.2)
  | .nx _ => some (.non, p.2)
  | _ => none
  else none
section
variable {P : Program} {w : World} {K : PySem.W.Frag} {mg : Str → Option Value} {base : Heap}
theorem Fun.okF {x qual : Str} {st : Stmt} {f : Addr} {fd : FuncData} {N ps : List Str} {k : Nat} {body : FS} (F : Fun K x qual st f fd) (S : FnScope N ps (defScope st))
    (hbody : ∀ (cdv : Value) (A : Around) (outer : List PySem.Env) (s : Shared) (H : Hp) (E : XK), Room k (A.deeper (envOfC qual (defScope st) s.heap.objs.size f cdv)) → PSsF (cxOf CX0 P w K mg base N qual (defScope st) f cdv A outer s H E).nox (defBody st) body) :
    FnOk P w K mg base CX0 (k + 1) f fd ps (spF K ps.length (fnU N.length ps.length body)) := by
  refine F.ok S (fun vs H Q E ⟨α, L, us, A, r, hl, _⟩ => by rw [← r.length]; exact hl) (fun cdv A outer s H vs Q E hr h => ?_)
  obtain ⟨α, L, us, Ab, r, hl, u, L', e, q⟩ := h
  refine ⟨_, hbody cdv A outer s H E hr, ?_⟩
  unfold fnU at e
  rw [if_pos hl] at e
  obtain ⟨⟨fl, L1⟩, e1, e⟩ := Option.bind_eq_some_iff.mp e
  refine ⟨α, _, L, Ab, RepS.start N r, fl, L1, e1, ?_⟩
  cases fl with
  | rt w => cases e; exact q
  | nx δ => cases e; exact fun σ' H' α' g' A' S' => q .non H' α' g' A' rfl
  | bk δ => cases e
  | ct δ => cases e
end
end MR
set_option Elab.async false
set_option linter.all false
set_option maxRecDepth 100000
set_option maxHeartbeats 1000000
namespace MR
open PySem PySem.Spec PyProof.Rows L2
section
variable {K : PySem.W.Frag} {H : Hp} {α : List Addr} {L : UH} {u : U} {x : V}
theorem lstAt_some {n : Nat} {us : List U} (h : lstAt L n = some us) : L[n]? = some (.lst us) := by
  unfold lstAt at h
  split at h
  · rename_i e; cases h; exact e
  · cases h
theorem lstAt_ok {n : Nat} {us : List U} (A : Abs K H α L) (h : lstAt L n = some us) : ∃ a xs, α[n]? = some a ∧ H a = some (.lst xs) ∧ RepL K H α us xs := by
  obtain ⟨a, ea, xs, e, r⟩ := A.addr (lstAt_some h)
  exact ⟨a, xs, ea, e, r⟩
theorem seqAt_ok {n : Nat} {us : List U} (A : Abs K H α L) (h : seqAt L n = some us) : ∃ a xs, α[n]? = some a ∧ SqL K H a xs ∧ RepL K H α us xs := by
  unfold seqAt at h
  split at h
  · rename_i e; cases h
    obtain ⟨a, ea, xs, e, r⟩ := A.addr e
    exact ⟨a, xs, ea, .of e, r⟩
  · rename_i e; cases h
    obtain ⟨a, ea, xs, e, r⟩ := A.addr e
    exact ⟨a, xs, ea, e.sq, r⟩
  · cases h
theorem Abs.setL {n : Nat} {a : Addr} {xs ys : List V} {us ws : List U} (A : Abs K H α L) (h : lstAt L n = some us) (ea : α[n]? = some a) (e : H a = some (.lst xs)) (r : RepL K H α ws ys) :
    Gr H α (upd H a (.lst ys)) α ∧ Abs K (upd H a (.lst ys)) α (L.set n (.lst ws)) := by
  have g : Gr H α (upd H a (.lst ys)) α := ⟨⟨[], by simp⟩, .write e (by exact trivial) _⟩
  obtain ⟨A', _⟩ := A.put (o := .lst ys) (u := .lst ws) ea (lstAt_some h) rfl rfl e (by exact trivial) ⟨ys, upd_same, r.mono g⟩
  exact ⟨g, A'⟩
theorem RepU.ref_of {n : Nat} (A : Abs K H α L) (h : RepU K H α (.ref n) x) : ∃ a, α[n]? = some a ∧ x = .ref a := by unfold RepU at h; exact h
end
noncomputable def semAdd : S2 := fun u w L => match u, w with
  | .int i, .int j => some (.int (i + j), L)
  | .str a, .str b => if small (a.length + b.length) = true then some (.str (a ++ b), L) else none
  | .tup a, .tup b => if a.isEmpty = false ∧ small (a.length + b.length) = true then some (.tup (a ++ b), L) else none
  | .ref n, .ref m => (lstAt L n).bind fun a => (lstAt L m).bind fun b => if small (a.length + b.length) = true then some (.ref L.length, L ++ [.lst (a ++ b)]) else none
  | _, _ => none
noncomputable def rAddA (K : PySem.W.Frag) : R2 := fun x y H Q => rI0 (fun i j => .int (i + j)) x y H Q ∨ (∃ i j, x = .str i ∧ y = .str j ∧ i.length + j.length ≤ sizeLine ∧ Q (.str (i ++ j)) H) ∨ rCatT K x y H Q ∨ rCat x y H Q
theorem op_addA {X : Cx} : OpR X (binaryOp .Add) (rAddA X.K) := op_add.or (op_add_str.or (op_catT.or op_cat))
theorem sem_add {K : PySem.W.Frag} : SemR2 K (rAddA K) semAdd := by
  intro H α L u w x y z L' Q A ru rw e q
  unfold semAdd at e
  split at e
  · cases e
    unfold RepU at ru rw
    exact .inl ⟨_, _, ru, rw, q _ H α (.refl _ _) A rfl⟩
  · split at e
    · rename_i h
      cases e
      unfold RepU at ru rw
      exact .inr (.inl ⟨_, _, ru, rw, small_le h, q _ H α (.refl _ _) A rfl⟩)
    · cases e
  · rename_i a b
    split at e
    · rename_i h
      cases e
      unfold RepU at ru rw
      obtain ⟨p, xs, rfl, s1, r1⟩ := ru
      obtain ⟨p2, ys, rfl, s2, r2⟩ := rw
      have e1 := r1.length
      have e2 := r2.length
      refine .inr (.inr (.inl ⟨p, p2, xs, ys, rfl, rfl, s1, s2, ?_, by rw [← e1, ← e2]; exact small_le h.2, fun hy => ?_, fun hy l hl => ?_⟩))
      · intro hx; subst hx
        cases a with
        | nil => simp at h
        | cons _ _ => simp at e1
      · subst hy
        have hb : b = [] := by
          cases b with
          | nil => rfl
          | cons _ _ => simp at e2
        subst hb
        refine q _ H α (.refl _ _) A ?_
        unfold RepU
        exact ⟨p, xs, rfl, s1, by rw [List.append_nil]; exact r1⟩
      · obtain ⟨g, A', r⟩ := A.tup (r1.append r2) hl
        exact q _ _ α g A' r
    · cases e
  · rename_i n m
    obtain ⟨a, ha, e⟩ := Option.bind_eq_some_iff.mp e
    obtain ⟨b, hb, e⟩ := Option.bind_eq_some_iff.mp e
    split at e
    · rename_i h
      cases e
      obtain ⟨p, xs, e1, h1, r1⟩ := lstAt_ok A ha
      obtain ⟨p2, ys, e2, h2, r2⟩ := lstAt_ok A hb
      obtain ⟨p', e1', rfl⟩ := ru.ref_of A
      obtain ⟨p2', e2', rfl⟩ := rw.ref_of A
      rw [e1] at e1'; cases e1'
      rw [e2] at e2'; cases e2'
      refine .inr (.inr (.inr ⟨p, p2, xs, ys, rfl, rfl, h1, h2, by rw [← r1.length, ← r2.length]; exact small_le h, fun l hl => ?_⟩))
      obtain ⟨g, A', r⟩ := A.lst (r1.append r2) hl
      exact q _ _ _ g A' r
    · cases e
  · cases e
noncomputable def semI (C : Int → Int → Bool) (g : Int → Int → U) : S2 := fun u w L => match u, w with
  | .int i, .int j => if C i j = true then some (g i j, L) else none
  | _, _ => none
theorem sem_I {K : PySem.W.Frag} {C : Int → Int → Prop} {Cb : Int → Int → Bool} {g : Int → Int → V} {g' : Int → Int → U} (hC : ∀ i j, Cb i j = true → C i j) (hg : ∀ i j H α, RepU K H α (g' i j) (g i j)) : SemR2 K (rI C g) (semI Cb g') := by
  intro H α L u w x y z L' Q A ru rw e q
  unfold semI at e
  split at e
  · split at e
    · rename_i h
      cases e
      unfold RepU at ru rw
      exact ⟨_, _, ru, rw, hC _ _ h, q _ H α (.refl _ _) A (hg _ _ _ _)⟩
    · cases e
  · cases e
noncomputable def semI0 (g : Int → Int → U) : S2 := fun u w L => match u, w with
  | .int i, .int j => some (g i j, L)
  | _, _ => none
theorem sem_I0 {K : PySem.W.Frag} {g : Int → Int → V} {g' : Int → Int → U} (hg : ∀ i j H α, RepU K H α (g' i j) (g i j)) : SemR2 K (rI0 g) (semI0 g') := by
  intro H α L u w x y z L' Q A ru rw e q
  unfold semI0 at e
  split at e
  · cases e
    unfold RepU at ru rw
    exact ⟨_, _, ru, rw, q _ H α (.refl _ _) A (hg _ _ _ _)⟩
  · cases e
noncomputable def semSub : S2 := semI0 fun i j => .int (i - j)
theorem sem_sub {K : PySem.W.Frag} : SemR2 K (rI0 fun i j => .int (i - j)) semSub := sem_I0 fun _ _ _ _ => rfl
noncomputable def mulOk (i j : Int) : Bool := (decide (-(2 ^ 64) < i) && decide (i < 2 ^ 64)) || (decide (-(2 ^ 64) < j) && decide (j < 2 ^ 64))
noncomputable def semMul : S2 := fun u w L => match u, w with
  | .int i, .int j => if mulOk i j = true then some (.int (i * j), L) else none
  | .str a, .int j => if a.length ≤ 1000 ∧ -1000 ≤ j ∧ j ≤ 1000 then some (.str (Txt.mul a j), L) else none
  | .ref n, .int k => (lstAt L n).bind fun a => if -1000000 ≤ k ∧ k ≤ 1000000 ∧ small (a.length * k.toNat) = true then some (.ref L.length, L ++ [.lst (List.replicate k.toNat a).flatten]) else none
  | _, _ => none
noncomputable def rMulA : R2 := fun x y H Q => rI CMul (fun i j => .int (i * j)) x y H Q ∨ (∃ a j, x = .str a ∧ y = .int j ∧ MulOk a j ∧ Q (.str (Txt.mul a j)) H) ∨ rRep x y H Q
theorem op_mul_str {X : Cx} : OpR X (binaryOp .Mult) (fun x y H Q => ∃ a j, x = .str a ∧ y = .int j ∧ MulOk a j ∧ Q (.str (Txt.mul a j)) H) := by
  intro pins s σ H x y v u Q I rx ry h
  obtain ⟨a, j, rfl, rfl, hok, q⟩ := h
  obtain ⟨t, rfl⟩ := rx
  obtain ⟨t', rfl⟩ := ry
  exact SB.mul hok fun t' k => ⟨.str (Txt.mul a j), H, I.tok _, ⟨_, rfl⟩, q⟩
theorem op_mulA {X : Cx} : OpR X (binaryOp .Mult) rMulA := op_mul.or (op_mul_str.or op_rep)
theorem RepL.flat {K : PySem.W.Frag} {H : Hp} {α : List Addr} {us : List U} {xs : List V} (h : RepL K H α us xs) : ∀ k : Nat, RepL K H α (List.replicate k us).flatten (List.replicate k xs).flatten
  | 0 => .nil
  | k + 1 => by rw [List.replicate_succ, List.replicate_succ, List.flatten_cons, List.flatten_cons]; exact h.append (RepL.flat h k)
theorem sem_mul {K : PySem.W.Frag} : SemR2 K rMulA semMul := by
  intro H α L u w x y z L' Q A ru rw e q
  unfold semMul at e
  split at e
  · rename_i i j
    split at e
    · rename_i h
      cases e
      unfold RepU at ru rw
      refine .inl ⟨_, _, ru, rw, ?_, q _ H α (.refl _ _) A rfl⟩
      simp only [mulOk, Bool.or_eq_true, Bool.and_eq_true, decide_eq_true_eq] at h
      exact h
    · cases e
  · rename_i a j
    split at e
    · rename_i h
      cases e
      unfold RepU at ru rw
      exact .inr (.inl ⟨_, _, ru, rw, mulOk_of 1000 1000 h.1 (by omega) (by omega) (by decide) (by decide), q _ H α (.refl _ _) A rfl⟩)
    · cases e
  · rename_i n k
    obtain ⟨a, ha, e⟩ := Option.bind_eq_some_iff.mp e
    split at e
    · rename_i h
      cases e
      obtain ⟨p, xs, e1, h1, r1⟩ := lstAt_ok A ha
      obtain ⟨p', e1', rfl⟩ := ru.ref_of A
      rw [e1] at e1'; cases e1'
      unfold RepU at rw
      refine .inr (.inr ⟨p, k, xs, rfl, rw, h1, by omega, by omega, by rw [← r1.length]; exact small_le h.2.2, fun l hl => ?_⟩)
      obtain ⟨g, A', r⟩ := A.lst (r1.flat k.toNat) hl
      exact q _ _ _ g A' r
    · cases e
  · cases e
noncomputable def CDivW (i j : Int) : Prop := 0 < j ∧ j < 1152921504606846976
theorem op_fdivW {X : Cx} : OpR X (binaryOp .FloorDiv) (rI CDivW fun i j => .int (i / j)) := opI fun i j _ _ _ _ _ hc q => by
  have h1 : (0 : Int) < j := hc.1
  have h2 : j < 1152921504606846976 := hc.2
  refine floordiv_int (by omega) (by rw [Int.fdiv_eq_ediv_of_nonneg i (by omega)]; exact q) (.inl (PyProof.noPylong_of_log2 ?_))
  have h3 : j.natAbs.log2 < 60 := (Nat.log2_lt (by omega)).mpr (by omega)
  omega
noncomputable def divOk (i j : Int) : Bool := decide (0 < j) && decide (j < 1152921504606846976)
noncomputable def semDiv : S2 := semI divOk fun i j => .int (i / j)
theorem sem_div {K : PySem.W.Frag} : SemR2 K (rI CDivW fun i j => .int (i / j)) semDiv := sem_I (fun i j h => by simpa [divOk, CDivW] using h) fun _ _ _ _ => rfl
noncomputable def semMod : S2 := semI (fun _ j => decide (0 < j)) fun i j => .int (i % j)
theorem sem_mod {K : PySem.W.Frag} : SemR2 K (rI (fun _ j => 0 < j) fun i j => .int (i % j)) semMod := sem_I (fun i j h => by simpa using h) fun _ _ _ _ => rfl
noncomputable def powOk (i j : Int) : Bool := decide (0 ≤ j) && decide (j ≤ 1000000) && decide (i.natAbs < 2 ^ 64)
noncomputable def semPow : S2 := semI powOk fun i j => .int (i ^ j.toNat)
theorem sem_pow {K : PySem.W.Frag} : SemR2 K (rI CPow fun i j => .int (i ^ j.toNat)) semPow := sem_I (fun i j h => by simp [powOk] at h; exact ⟨h.1.1, h.1.2, h.2⟩) fun _ _ _ _ => rfl
noncomputable def semShl : S2 := semI powOk fun i j => .int (i * 2 ^ j.toNat)
theorem sem_shl {K : PySem.W.Frag} : SemR2 K (rI CPow fun i j => .int (i * 2 ^ j.toNat)) semShl := sem_I (fun i j h => by simp [powOk] at h; exact ⟨h.1.1, h.1.2, h.2⟩) fun _ _ _ _ => rfl
noncomputable def semBitAnd : S2 := semI0 fun i j => .int (Builtin.bitAnd i j)
theorem sem_bitAnd {K : PySem.W.Frag} : SemR2 K (rI0 fun i j => .int (Builtin.bitAnd i j)) semBitAnd := sem_I0 fun _ _ _ _ => rfl
noncomputable def semLe : S2 := semI0 fun i j => .bl (decide (i ≤ j))
noncomputable def semGt : S2 := semI0 fun i j => .bl (decide (j < i))
noncomputable def semGe : S2 := semI0 fun i j => .bl (decide (j ≤ i))
noncomputable def semLt : S2 := semI0 fun i j => .bl (decide (i < j))
theorem sem_le {K : PySem.W.Frag} : SemR2 K (rI0 fun i j => .bl (decide (i ≤ j))) semLe := sem_I0 fun _ _ _ _ => rfl
theorem sem_gt {K : PySem.W.Frag} : SemR2 K (rI0 fun i j => .bl (decide (j < i))) semGt := sem_I0 fun _ _ _ _ => rfl
theorem sem_ge {K : PySem.W.Frag} : SemR2 K (rI0 fun i j => .bl (decide (j ≤ i))) semGe := sem_I0 fun _ _ _ _ => rfl
theorem sem_lt {K : PySem.W.Frag} : SemR2 K (rI0 fun i j => .bl (decide (i < j))) semLt := sem_I0 fun _ _ _ _ => rfl
noncomputable def mapO {β γ : Type} (f : β → Option γ) : List β → Option (List γ)
  | [] => some []
  | u :: r => (f u).bind fun d => (mapO f r).map fun ds => d :: ds
noncomputable def toP (L : UH) : Nat → U → Option PyData
  | 0, _ => none
  | _ + 1, .non => some .none
  | _ + 1, .bl b => some (.bool b)
  | _ + 1, .int i => some (.int i)
  | _ + 1, .str x => some (.str x)
  | n + 1, .tup l => (mapO (toP L n) l).map .tuple
  | n + 1, .ref k => (seqAt L k).bind fun l => (mapO (toP L n) l).map .list
section
variable {X : Cx} {pins : List (Addr × Obj)} {σ : L2.St} {H : Hp} {s : Shared} {α : List Addr} {L : UH}
theorem toP_all {n : Nat} (ih : ∀ (u : U) (x : V) (v : Value) (d : PyData), RepU X.K H α u x → RelV x v → toP L n u = some d → ∃ as, Reads s.heap v d as) : ∀ (l : List U) (xs : List V) (vs : List Value) (ds : List PyData), RepL X.K H α l xs → Vals xs vs → mapO (toP L n) l = some ds → ∃ as, ReadsAll s.heap vs ds as
  | [], xs, vs, ds, r, hv, e => by
    unfold RepL at r; subst r; cases hv; cases e; exact ⟨_, .nil⟩
  | u :: l, xs, vs, ds, r, hv, e => by
    unfold RepL at r
    obtain ⟨x, xr, rfl, r1, r2⟩ := r
    cases hv with
    | cons h1 h2 =>
      obtain ⟨d, e1, e⟩ := Option.bind_eq_some_iff.mp e
      obtain ⟨dr, e2, e⟩ := Option.map_eq_some_iff.mp e
      subst e
      obtain ⟨as, q1⟩ := ih u x _ d r1 h1 e1
      obtain ⟨bs, q2⟩ := toP_all ih l xr _ dr r2 h2 e2
      exact ⟨_, .cons q1 q2⟩
theorem toP_ok (I : Inv X pins σ H s) (A : Abs X.K H α L) : ∀ (n : Nat) (u : U) (x : V) (v : Value) (d : PyData), RepU X.K H α u x → RelV x v → toP L n u = some d → ∃ as, Reads s.heap v d as
  | 0, _, _, _, _, _, _, e => by cases e
  | n + 1, u, x, v, d, r, hv, e => by
    cases u with
    | non => unfold RepU at r; subst r; cases hv; cases e; exact ⟨_, .none⟩
    | bl b => unfold RepU at r; subst r; cases hv; cases e; exact ⟨_, .bool b⟩
    | int i => unfold RepU at r; subst r; obtain ⟨t, rfl⟩ := hv; cases e; exact ⟨_, .int i t⟩
    | str y => unfold RepU at r; subst r; obtain ⟨t, rfl⟩ := hv; cases e; exact ⟨_, .str y t⟩
    | tup l =>
      unfold RepU at r
      obtain ⟨a, xs, rfl, sq, r⟩ := r
      cases hv
      unfold toP at e
      obtain ⟨ds, e1, e⟩ := Option.map_eq_some_iff.mp e
      subst e
      obtain ⟨its, hv, ⟨o, h1, h2, m, h3⟩, _⟩ := I.tuple sq
      obtain ⟨as, q⟩ := toP_all (toP_ok I A n) l xs its ds r hv e1
      exact ⟨_, .tuple h1 h2 h3 (by simpa using q)⟩
    | ref k =>
      unfold RepU at r
      obtain ⟨a, ea, rfl⟩ := r
      cases hv
      unfold toP at e
      obtain ⟨l, hl, e⟩ := Option.bind_eq_some_iff.mp e
      obtain ⟨ds, e1, e⟩ := Option.map_eq_some_iff.mp e
      subst e
      obtain ⟨a', xs, ea', sq, r⟩ := seqAt_ok A hl
      rw [ea] at ea'; cases ea'
      obtain ⟨its, hv, ⟨o, m, h1, h2, _, h3⟩, _⟩ := I.list sq
      obtain ⟨as, q⟩ := toP_all (toP_ok I A n) l xs its ds r hv e1
      exact ⟨_, .list h1 h2 h3 (by simpa using q)⟩
end
noncomputable def eqP (u w : U) (L : UH) : Option Bool := (toP L 8 u).bind fun d => (toP L 8 w).bind fun e => if SeqAt.shaped d = true ∧ SeqAt.shaped e = true then some (PyData.eqv d e) else none
noncomputable def rEqU (K : PySem.W.Frag) (neg : Bool) : R2 := fun x y H Q => ∃ α L u w b, Abs K H α L ∧ RepU K H α u x ∧ RepU K H α w y ∧ eqP u w L = some b ∧ Q (.bl (if neg then !b else b)) H
theorem op_eqU {X : Cx} (hu : X.A.units + 64 < cLine) : OpR X (compareOp .Eq) (rEqU X.K false) := by
  intro pins s σ H x y v u Q I rx ry h
  obtain ⟨α, L, a, b, k, A, ra, rb, e, q⟩ := h
  obtain ⟨d, e1, e⟩ := Option.bind_eq_some_iff.mp e
  obtain ⟨d2, e2, e⟩ := Option.bind_eq_some_iff.mp e
  split at e
  · rename_i hs
    cases e
    obtain ⟨as, q1⟩ := toP_ok I A 8 a x v d ra rx e1
    obtain ⟨bs, q2⟩ := toP_ok I A 8 b y u d2 rb ry e2
    exact eq_dataH q1 q2 hs.1 hs.2 hu ⟨.bl _, H, I, rfl, q⟩
  · cases e
theorem op_neU {X : Cx} (hu : X.A.units + 64 < cLine) : OpR X (compareOp .NotEq) (rEqU X.K true) := by
  intro pins s σ H x y v u Q I rx ry h
  obtain ⟨α, L, a, b, k, A, ra, rb, e, q⟩ := h
  obtain ⟨d, e1, e⟩ := Option.bind_eq_some_iff.mp e
  obtain ⟨d2, e2, e⟩ := Option.bind_eq_some_iff.mp e
  split at e
  · rename_i hs
    cases e
    obtain ⟨as, q1⟩ := toP_ok I A 8 a x v d ra rx e1
    obtain ⟨bs, q2⟩ := toP_ok I A 8 b y u d2 rb ry e2
    exact ne_dataH q1 q2 hs.1 hs.2 hu ⟨.bl _, H, I, rfl, q⟩
  · cases e
noncomputable def semEq : S2 := fun u w L => (eqP u w L).map fun b => (.bl b, L)
noncomputable def semNe : S2 := fun u w L => (eqP u w L).map fun b => (.bl (!b), L)
theorem sem_eq {K : PySem.W.Frag} : SemR2 K (rEqU K false) semEq := by
  intro H α L u w x y z L' Q A ru rw e q
  obtain ⟨b, e1, e⟩ := Option.map_eq_some_iff.mp e
  cases e
  exact ⟨α, _, u, w, b, A, ru, rw, e1, q _ H α (.refl _ _) A rfl⟩
theorem sem_ne {K : PySem.W.Frag} : SemR2 K (rEqU K true) semNe := by
  intro H α L u w x y z L' Q A ru rw e q
  obtain ⟨b, e1, e⟩ := Option.map_eq_some_iff.mp e
  cases e
  exact ⟨α, _, u, w, b, A, ru, rw, e1, q _ H α (.refl _ _) A rfl⟩
noncomputable def semIs (neg : Bool) : S2 := fun u w L => match u, w with
  | .non, .non => some (.bl (!neg), L)
  | .bl a, .bl b => some (.bl (if neg then !(a == b) else a == b), L)
  | .int _, .non => some (.bl neg, L)
  | .bl _, .non => some (.bl neg, L)
  | .str _, .non => some (.bl neg, L)
  | .tup _, .non => some (.bl neg, L)
  | .ref _, .non => some (.bl neg, L)
  | _, _ => none
noncomputable def isSome : U → Bool
  | .non => false
  | _ => true
end MR
set_option Elab.async false
set_option linter.all false
set_option maxRecDepth 100000
set_option maxHeartbeats 1000000
namespace MR
open PySem PySem.Spec PyProof.Rows L2
theorem RepL.atI {K : PySem.W.Frag} {H : Hp} {α : List Addr} {us : List U} {xs : List V} {i : Int} {u : U} (r : RepL K H α us xs) (h : L2.atI us i = some u) : ∃ x, L2.atI xs i = some x ∧ RepU K H α u x := by
  unfold L2.atI at h ⊢
  obtain ⟨j, e1, e2⟩ := Option.bind_eq_some_iff.mp h
  obtain ⟨x, e3, r3⟩ := r.get e2
  exact ⟨x, by rw [← r.length, e1]; exact e3, r3⟩
noncomputable def semIx : S2 := fun u w L => match u, w with
  | .tup l, .int i => (L2.atI l i).map fun z => (z, L)
  | .ref n, .int i => (seqAt L n).bind fun l => (L2.atI l i).map fun z => (z, L)
  | .str x, .int i => if small x.length = true then (L2.atI x.cps.toList i).map fun c => (.str ⟨#[c]⟩, L) else none
  | _, _ => none
theorem sem_ix {K : PySem.W.Frag} : SemR2 K (rIx K) semIx := by
  intro H α L u w x y z L' Q A ru rw e q
  unfold semIx at e
  split at e
  · obtain ⟨c, e1, e⟩ := Option.map_eq_some_iff.mp e
    cases e
    unfold RepU at ru rw
    obtain ⟨a, xs, rfl, sq, r⟩ := ru
    obtain ⟨v, e2, r2⟩ := r.atI e1
    exact .inr (.inl ⟨a, xs, _, v, rfl, rw, sq, e2, q _ H α (.refl _ _) A r2⟩)
  · obtain ⟨l, hl, e⟩ := Option.bind_eq_some_iff.mp e
    obtain ⟨c, e1, e⟩ := Option.map_eq_some_iff.mp e
    cases e
    obtain ⟨a, xs, ea, sq, r⟩ := seqAt_ok A hl
    obtain ⟨a', ea', rfl⟩ := ru.ref_of A
    rw [ea] at ea'; cases ea'
    unfold RepU at rw
    obtain ⟨v, e2, r2⟩ := r.atI e1
    exact .inl ⟨a, xs, _, v, rfl, rw, sq, e2, q _ H α (.refl _ _) A r2⟩
  · split at e
    · rename_i hs
      obtain ⟨c, e1, e⟩ := Option.map_eq_some_iff.mp e
      cases e
      unfold RepU at ru rw
      exact .inr (.inr ⟨_, _, c, ru, rw, small_le hs, e1, q _ H α (.refl _ _) A rfl⟩)
    · cases e
  · cases e
noncomputable def cutU (l : List U) (lo hi : Option Int) : List U := (l.drop (HT.sIx l.length 0 lo)).take (HT.sIx l.length l.length hi - HT.sIx l.length 0 lo)
theorem RepL.cut {K : PySem.W.Frag} {H : Hp} {α : List Addr} {us : List U} {xs : List V} (r : RepL K H α us xs) (lo hi : Option Int) : RepL K H α (cutU us lo hi) (cutV xs lo hi) := by
  unfold cutU cutV
  rw [r.length]
  exact (r.drop _).take _
noncomputable def semSl : SS := fun u lo hi L => match u with
  | .tup l => if HT.sIx l.length 0 lo = 0 ∧ HT.sIx l.length l.length hi = l.length then none else some (.tup (cutU l lo hi), L)
  | .ref n => (seqAt L n).map fun l => (.ref L.length, L ++ [.lst (cutU l lo hi)])
  | _ => none
noncomputable def rSlA (K : PySem.W.Frag) : V → Option Int → Option Int → Hp → VK → Prop := fun x lo hi H Q => rSlT K x lo hi H Q ∨ rSlL K x lo hi H Q
theorem sl_all {X : Cx} : SlR X (rSlA X.K) := sl_tup.or sl_list
theorem sem_sl {K : PySem.W.Frag} : SemSl K (rSlA K) semSl := by
  intro H α L u x lo hi z L' Q A ru e q
  unfold semSl at e
  split at e
  · split at e
    · cases e
    · rename_i hn
      cases e
      unfold RepU at ru
      obtain ⟨a, xs, rfl, sq, r⟩ := ru
      refine .inl ⟨a, xs, rfl, sq, by rw [← r.length]; exact hn, fun p hp => ?_⟩
      obtain ⟨g, A', r'⟩ := A.tup (r.cut lo hi) hp
      exact q _ _ α g A' r'
  · obtain ⟨l, hl, e⟩ := Option.map_eq_some_iff.mp e
    cases e
    obtain ⟨a, xs, ea, sq, r⟩ := seqAt_ok A hl
    obtain ⟨a', ea', rfl⟩ := ru.ref_of A
    rw [ea] at ea'; cases ea'
    refine .inr ⟨a, xs, rfl, sq, fun p hp => ?_⟩
    obtain ⟨g, A', r'⟩ := A.lst (r.cut lo hi) hp
    exact q _ _ _ g A' r'
  · cases e
noncomputable def lenU (u : U) (L : UH) : Option Nat := match u with
  | .str y => if small y.length = true then some y.length else none
  | .tup l => some l.length
  | .ref n => (seqAt L n).map List.length
  | _ => none
noncomputable def semLen : SC := fun us L => match us with
  | [u] => (lenU u L).map fun (n : Nat) => (U.int (n : Int), L)
  | _ => none
theorem sem_len {K : PySem.W.Frag} : SemC K (fun xs H Q => ∃ x n, xs = [x] ∧ LenV K x H n ∧ Q (.int n) H) semLen := by
  intro H α L us xs z L' Q A r e q
  unfold semLen at e
  split at e
  · rename_i u
    obtain ⟨n, e1, e⟩ := Option.map_eq_some_iff.mp e
    cases e
    obtain ⟨x, rfl, rx⟩ := r.one
    refine ⟨x, n, rfl, ?_, q _ H α (.refl _ _) A rfl⟩
    cases u with
    | str y =>
      unfold lenU at e1
      simp only at e1
      split at e1
      · rename_i hs; cases e1; unfold RepU at rx; subst rx; exact ⟨small_le hs, rfl⟩
      · cases e1
    | tup l =>
      cases e1
      unfold RepU at rx
      obtain ⟨a, ys, rfl, sq, r2⟩ := rx
      exact .inr ⟨ys, sq, r2.length⟩
    | ref k =>
      obtain ⟨l, hl, e2⟩ := Option.map_eq_some_iff.mp e1
      subst e2
      obtain ⟨a, ys, ea, sq, r2⟩ := seqAt_ok A hl
      obtain ⟨a', ea', rfl⟩ := rx.ref_of A
      rw [ea] at ea'; cases ea'
      exact .inl ⟨ys, sq, r2.length⟩
    | _ => cases e1
  · cases e
noncomputable def toI : U → Option Int
  | .int i => some i
  | _ => none
theorem toIs_ok {K : PySem.W.Frag} {H : Hp} {α : List Addr} : ∀ {us : List U} {xs : List V} {ns : List Int}, RepL K H α us xs → mapO toI us = some ns → xs = ns.map V.int
  | [], xs, ys, r, h => by unfold RepL at r; subst r; cases h; rfl
  | u :: us, xs, ys, r, h => by
    unfold RepL at r
    obtain ⟨x, xr, rfl, r1, r2⟩ := r
    obtain ⟨y, e1, h⟩ := Option.bind_eq_some_iff.mp h
    obtain ⟨yr, e2, h⟩ := Option.map_eq_some_iff.mp h
    subst h
    cases u <;> simp only [toI] at e1 <;> first
      | (cases e1; unfold RepU at r1; subst r1; rw [toIs_ok r2 e2]; rfl)
      | cases e1
noncomputable def maxI : List Int → Int
  | [] => 0
  | [a] => a
  | a :: r => max a (maxI r)
noncomputable def minI : List Int → Int
  | [] => 0
  | [a] => a
  | a :: r => min a (minI r)
theorem maxI_is : ∀ (ns : List Int) (M : Int), M ∈ ns → (∀ a, a ∈ ns → a ≤ M) → maxI ns = M
  | [], M, h, _ => by cases h
  | [a], M, h, _ => by simp at h; exact h.symm
  | a :: b :: r, M, h, hm => by
    show max a (maxI (b :: r)) = M
    by_cases hb : M ∈ b :: r
    · rw [maxI_is (b :: r) M hb fun c hc => hm c (List.mem_cons_of_mem _ hc)]
      have := hm a (List.mem_cons_self ..)
      omega
    · rcases List.mem_cons.mp h with rfl | h
      · have hle : ∀ (l : List Int), l ≠ [] → (∀ c, c ∈ l → c ≤ M) → maxI l ≤ M := by
          intro l
          induction l with
          | nil => intro h; exact absurd rfl h
          | cons c t ih =>
            intro _ hc
            cases t with
            | nil => exact hc c (List.mem_cons_self ..)
            | cons d t =>
              have h1 := hc c (List.mem_cons_self ..)
              have h2 := ih (by simp) fun e he => hc e (List.mem_cons_of_mem _ he)
              show max c (maxI (d :: t)) ≤ M
              omega
        have := hle (b :: r) (by simp) fun c hc => hm c (List.mem_cons_of_mem _ hc)
        omega
      · exact absurd h hb
theorem minI_is : ∀ (ns : List Int) (M : Int), M ∈ ns → (∀ a, a ∈ ns → M ≤ a) → minI ns = M
  | [], M, h, _ => by cases h
  | [a], M, h, _ => by simp at h; exact h.symm
  | a :: b :: r, M, h, hm => by
    show min a (minI (b :: r)) = M
    by_cases hb : M ∈ b :: r
    · rw [minI_is (b :: r) M hb fun c hc => hm c (List.mem_cons_of_mem _ hc)]
      have := hm a (List.mem_cons_self ..)
      omega
    · rcases List.mem_cons.mp h with rfl | h
      · have hle : ∀ (l : List Int), l ≠ [] → (∀ c, c ∈ l → M ≤ c) → M ≤ minI l := by
          intro l
          induction l with
          | nil => intro h; exact absurd rfl h
          | cons c t ih =>
            intro _ hc
            cases t with
            | nil => exact hc c (List.mem_cons_self ..)
            | cons d t =>
              have h1 := hc c (List.mem_cons_self ..)
              have h2 := ih (by simp) fun e he => hc e (List.mem_cons_of_mem _ he)
              show M ≤ min c (minI (d :: t))
              omega
        have := hle (b :: r) (by simp) fun c hc => hm c (List.mem_cons_of_mem _ hc)
        omega
      · exact absurd h hb
section
variable {X : Cx}
theorem call_sumL (hc : X.calm = true) : CallR X (.builtin "sum") (fun xs H Q => ∃ (p : Addr) (ns : List Int), xs = [.ref p] ∧ SqL X.K H p (ns.map V.int) ∧ Q (.int ns.sum) H) := by
  intro pins s σ H xs us Q I r h
  obtain ⟨p, ns, rfl, hq, q⟩ := h
  obtain ⟨u, rfl, rx⟩ := vals1 r
  cases rx
  obtain ⟨its, r', pl, hz⟩ := I.list hq
  have hi : IntsAre its ns := intsAre_of r'
  obtain ⟨m, F⟩ := I.fr
  obtain ⟨xs, hx⟩ := hi.allInts.items
  have hl' : s.heap.IsList p (intItems xs) := hx ▸ pl.isList
  refine sum_intListG (I.ok.hd hc) hl' fun h' tk t' hk => ?_
  have e1 : ns = xs.toList.map (·.1) := by
    rw [← nums_intItems, ← hx]
    exact (show numsOf its.toArray.toList = ns from hi.numsOf).symm
  have e2 : preSum (numAt xs) xs.size = ns.sum := by
    rw [preSum_eq, List.take_of_length_le (by simp), e1]
  rw [e2]
  exact ⟨.int ns.sum, H, I.kept hk, ⟨_, rfl⟩, q⟩
theorem call_sumT (hc : X.calm = true) : CallR X (.builtin "sum") (fun xs H Q => ∃ (p : Addr) (ns : List Int), xs = [.ref p] ∧ SqT X.K H p (ns.map V.int) ∧ Q (.int ns.sum) H) := by
  intro pins s σ H xs us Q I r h
  obtain ⟨p, ns, rfl, hq, q⟩ := h
  obtain ⟨u, rfl, rx⟩ := vals1 r
  cases rx
  obtain ⟨its, r', pl, hz⟩ := I.tuple hq
  have hi : IntsAre its ns := intsAre_of r'
  obtain ⟨xs, hx⟩ := hi.allInts.items
  have hl' : s.heap.IsTuple p (intItems xs) := hx ▸ pl
  refine PySem.W.ktm_sumG (I.ok.hd hc) hl' fun h' tk t' hk => ?_
  have e1 : ns = xs.toList.map (·.1) := by
    rw [← nums_intItems, ← hx]
    exact (show numsOf its.toArray.toList = ns from hi.numsOf).symm
  have e2 : preSum (numAt xs) xs.size = ns.sum := by
    rw [preSum_eq, List.take_of_length_le (by simp), e1]
  rw [e2]
  exact ⟨.int ns.sum, H, I.kept hk, ⟨_, rfl⟩, q⟩
theorem call_sumA (hc : X.calm = true) : CallR X (.builtin "sum") (fun xs H Q => (∃ (p : Addr) (ns : List Int), xs = [.ref p] ∧ SqL X.K H p (ns.map V.int) ∧ Q (.int ns.sum) H) ∨ ∃ (p : Addr) (ns : List Int), xs = [.ref p] ∧ SqT X.K H p (ns.map V.int) ∧ Q (.int ns.sum) H) := (call_sumL hc).or (call_sumT hc)
theorem call_maxL (hc : X.calm = true) : CallR X (.builtin "max") (fun xs H Q => ∃ (p : Addr) (ns : List Int), xs = [.ref p] ∧ SqL X.K H p (ns.map V.int) ∧ 0 < ns.length ∧ Q (.int (maxI ns)) H) := by
  intro pins s σ H xs us Q I r h
  obtain ⟨p, ns, rfl, hq, hne, q⟩ := h
  obtain ⟨u, rfl, rx⟩ := vals1 r
  cases rx
  obtain ⟨its, r', pl, hz⟩ := I.list hq
  have hi : IntsAre its ns := intsAre_of r'
  obtain ⟨xs, e⟩ := hi.allInts.items
  have hns : ns = xs.toList.map (·.1) := by rw [← hi.numsOf, ← nums_intItems, ← e]
  have hsz : 0 < xs.size := by
    have h3 := hne; rw [hns, List.length_map, Array.length_toList] at h3; exact h3
  have hl' : s.heap.IsList p (intItems xs) := e ▸ pl.isList
  refine max_intList (I.ok.hd hc) hl' hsz fun v h' tk hv hk => ?_
  obtain ⟨t, rfl⟩ := intItems_at hv
  obtain ⟨h1, h2⟩ := argBest_gt (numAt xs) (xs.size - 1)
  have hM := maxI_is ns (numAt xs (argBest (fun i j => decide (numAt xs i > numAt xs j)) (xs.size - 1))) (by rw [hns, numAt_eq]; exact getD_mem (by rw [List.length_map, Array.length_toList]; omega)) (fun a ha => by
    rw [hns] at ha
    obtain ⟨j, hj, rfl⟩ := mem_getD ha
    rw [List.length_map, Array.length_toList] at hj
    rw [← numAt_eq]; exact h2 j (by omega))
  rw [hM] at q
  exact ⟨.int _, H, I.kept hk, ⟨_, rfl⟩, q⟩
theorem call_minL (hc : X.calm = true) : CallR X (.builtin "min") (fun xs H Q => ∃ (p : Addr) (ns : List Int), xs = [.ref p] ∧ SqL X.K H p (ns.map V.int) ∧ 0 < ns.length ∧ Q (.int (minI ns)) H) := by
  intro pins s σ H xs us Q I r h
  obtain ⟨p, ns, rfl, hq, hne, q⟩ := h
  obtain ⟨u, rfl, rx⟩ := vals1 r
  cases rx
  obtain ⟨its, r', pl, hz⟩ := I.list hq
  have hi : IntsAre its ns := intsAre_of r'
  obtain ⟨xs, e⟩ := hi.allInts.items
  have hns : ns = xs.toList.map (·.1) := by rw [← hi.numsOf, ← nums_intItems, ← e]
  have hsz : 0 < xs.size := by
    have h3 := hne; rw [hns, List.length_map, Array.length_toList] at h3; exact h3
  have hl' : s.heap.IsList p (intItems xs) := e ▸ pl.isList
  refine min_intList (I.ok.hd hc) hl' hsz fun v h' tk hv hk => ?_
  obtain ⟨t, rfl⟩ := intItems_at hv
  obtain ⟨h1, h2⟩ := argBest_lt (numAt xs) (xs.size - 1)
  have hM := minI_is ns (numAt xs (argBest (fun i j => decide (numAt xs i < numAt xs j)) (xs.size - 1))) (by rw [hns, numAt_eq]; exact getD_mem (by rw [List.length_map, Array.length_toList]; omega)) (fun a ha => by
    rw [hns] at ha
    obtain ⟨j, hj, rfl⟩ := mem_getD ha
    rw [List.length_map, Array.length_toList] at hj
    rw [← numAt_eq]; exact h2 j (by omega))
  rw [hM] at q
  exact ⟨.int _, H, I.kept hk, ⟨_, rfl⟩, q⟩
end
noncomputable def semSum : SC := fun us L => match us with
  | [.ref n] => (seqAt L n).bind fun l => (mapO toI l).map fun ns => (.int ns.sum, L)
  | [.tup l] => (mapO toI l).map fun ns => (.int ns.sum, L)
  | _ => none
theorem refs_at {K : PySem.W.Frag} {H : Hp} {α : List Addr} {L : UH} {n : Nat} {l : List U} {x : V} (A : Abs K H α L) (hl : seqAt L n = some l) (rx : RepU K H α (.ref n) x) : ∃ a ys, x = .ref a ∧ SqL K H a ys ∧ RepL K H α l ys := by
  obtain ⟨a, ys, ea, sq, r2⟩ := seqAt_ok A hl
  obtain ⟨a', ea', rfl⟩ := rx.ref_of A
  rw [ea] at ea'; cases ea'
  exact ⟨a, ys, rfl, sq, r2⟩
theorem sem_sum {K : PySem.W.Frag} : SemC K (fun xs H Q => (∃ (p : Addr) (ns : List Int), xs = [.ref p] ∧ SqL K H p (ns.map V.int) ∧ Q (.int ns.sum) H) ∨ ∃ (p : Addr) (ns : List Int), xs = [.ref p] ∧ SqT K H p (ns.map V.int) ∧ Q (.int ns.sum) H) semSum := by
  intro H α L us xs z L' Q A r e q
  unfold semSum at e
  split at e
  · obtain ⟨l, hl, e⟩ := Option.bind_eq_some_iff.mp e
    obtain ⟨ns, e1, e⟩ := Option.map_eq_some_iff.mp e
    cases e
    obtain ⟨x, rfl, rx⟩ := r.one
    obtain ⟨a, ys, rfl, sq, r2⟩ := refs_at A hl rx
    rw [toIs_ok r2 e1] at sq
    exact .inl ⟨a, ns, rfl, sq, q _ H α (.refl _ _) A rfl⟩
  · obtain ⟨ns, e1, e⟩ := Option.map_eq_some_iff.mp e
    cases e
    obtain ⟨x, rfl, rx⟩ := r.one
    unfold RepU at rx
    obtain ⟨a, ys, rfl, sq, r2⟩ := rx
    rw [toIs_ok r2 e1] at sq
    exact .inr ⟨a, ns, rfl, sq, q _ H α (.refl _ _) A rfl⟩
  · cases e
noncomputable def semMM (g2 : Int → Int → Int) (gl : List Int → Int) : SC := fun us L => match us with
  | [.int i, .int j] => some (.int (g2 i j), L)
  | [.ref n] => (seqAt L n).bind fun l => (mapO toI l).bind fun ns => if ns.isEmpty = true then none else some (.int (gl ns), L)
  | _ => none
noncomputable def semMax : SC := semMM (fun i j => if j > i then j else i) maxI
noncomputable def semMin : SC := semMM (fun i j => if j < i then j else i) minI
theorem sem_MM {K : PySem.W.Frag} {g2 : Int → Int → Int} {gl : List Int → Int} : SemC K (fun xs H Q => (∃ i j, xs = [.int i, .int j] ∧ Q (.int (g2 i j)) H) ∨ ∃ (p : Addr) (ns : List Int), xs = [.ref p] ∧ SqL K H p (ns.map V.int) ∧ 0 < ns.length ∧ Q (.int (gl ns)) H) (semMM g2 gl) := by
  intro H α L us xs z L' Q A r e q
  unfold semMM at e
  split at e
  · cases e
    obtain ⟨x, y, rfl, rx, ry⟩ := r.two
    unfold RepU at rx ry
    exact .inl ⟨_, _, by rw [rx, ry], q _ H α (.refl _ _) A rfl⟩
  · obtain ⟨l, hl, e⟩ := Option.bind_eq_some_iff.mp e
    obtain ⟨ns, e1, e⟩ := Option.bind_eq_some_iff.mp e
    split at e
    · cases e
    · rename_i hne
      cases e
      obtain ⟨x, rfl, rx⟩ := r.one
      obtain ⟨a, ys, rfl, sq, r2⟩ := refs_at A hl rx
      rw [toIs_ok r2 e1] at sq
      exact .inr ⟨a, ns, rfl, sq, by cases ns <;> simp_all, q _ H α (.refl _ _) A rfl⟩
  · cases e
theorem call_maxA {X : Cx} (hc : X.calm = true) : CallR X (.builtin "max") (fun xs H Q => (∃ i j, xs = [.int i, .int j] ∧ Q (.int (if j > i then j else i)) H) ∨ ∃ (p : Addr) (ns : List Int), xs = [.ref p] ∧ SqL X.K H p (ns.map V.int) ∧ 0 < ns.length ∧ Q (.int (maxI ns)) H) := (call_max2 hc).or (call_maxL hc)
theorem call_minA {X : Cx} (hc : X.calm = true) : CallR X (.builtin "min") (fun xs H Q => (∃ i j, xs = [.int i, .int j] ∧ Q (.int (if j < i then j else i)) H) ∨ ∃ (p : Addr) (ns : List Int), xs = [.ref p] ∧ SqL X.K H p (ns.map V.int) ∧ 0 < ns.length ∧ Q (.int (minI ns)) H) := (call_min2 hc).or (call_minL hc)
theorem sem_max {K : PySem.W.Frag} : SemC K (fun xs H Q => (∃ i j, xs = [.int i, .int j] ∧ Q (.int (if j > i then j else i)) H) ∨ ∃ (p : Addr) (ns : List Int), xs = [.ref p] ∧ SqL K H p (ns.map V.int) ∧ 0 < ns.length ∧ Q (.int (maxI ns)) H) semMax := sem_MM
theorem sem_min {K : PySem.W.Frag} : SemC K (fun xs H Q => (∃ i j, xs = [.int i, .int j] ∧ Q (.int (if j < i then j else i)) H) ∨ ∃ (p : Addr) (ns : List Int), xs = [.ref p] ∧ SqL K H p (ns.map V.int) ∧ 0 < ns.length ∧ Q (.int (minI ns)) H) semMin := sem_MM
noncomputable def semInt : SC := fun us L => match us with
  | [.int i] => some (.int i, L)
  | [.bl k] => some (.int (if k then 1 else 0), L)
  | _ => none
theorem sem_int {K : PySem.W.Frag} : SemC K (fun xs H Q => (∃ i, xs = [.int i] ∧ Q (.int i) H) ∨ ∃ k, xs = [.bl k] ∧ Q (.int (if k then 1 else 0)) H) semInt := by
  intro H α L us xs z L' Q A r e q
  unfold semInt at e
  split at e
  · cases e
    obtain ⟨x, rfl, rx⟩ := r.one
    unfold RepU at rx
    exact .inl ⟨_, by rw [rx], q _ H α (.refl _ _) A rfl⟩
  · cases e
    obtain ⟨x, rfl, rx⟩ := r.one
    unfold RepU at rx
    exact .inr ⟨_, by rw [rx], q _ H α (.refl _ _) A rfl⟩
  · cases e
noncomputable def semTuple : SC := fun us L => match us with
  | [.ref n] => (seqAt L n).map fun l => (.tup l, L)
  | [.tup l] => some (.tup l, L)
  | _ => none
theorem sem_tuple {K : PySem.W.Frag} : SemC K (fun xs H Q => ∃ p ys, xs = [.ref p] ∧ ((SqL K H p ys ∧ ∀ l, H l = none → Q (.ref l) (upd H l (.tup ys))) ∨ (SqT K H p ys ∧ Q (.ref p) H))) semTuple := by
  intro H α L us xs z L' Q A r e q
  unfold semTuple at e
  split at e
  · obtain ⟨l, hl, e⟩ := Option.map_eq_some_iff.mp e
    cases e
    obtain ⟨x, rfl, rx⟩ := r.one
    obtain ⟨a, ys, rfl, sq, r2⟩ := refs_at A hl rx
    refine ⟨a, ys, rfl, .inl ⟨sq, fun p hp => ?_⟩⟩
    obtain ⟨g, A', r'⟩ := A.tup r2 hp
    exact q _ _ _ g A' r'
  · cases e
    obtain ⟨x, rfl, rx⟩ := r.one
    have rx' := rx
    unfold RepU at rx
    obtain ⟨a, ys, rfl, sq, r2⟩ := rx
    exact ⟨a, ys, rfl, .inr ⟨sq, q _ H α (.refl _ _) A rx'⟩⟩
  · cases e
theorem ref_lst {K : PySem.W.Frag} {H : Hp} {α : List Addr} {L : UH} {n : Nat} {l : List U} {x : V} (A : Abs K H α L) (hl : lstAt L n = some l) (rx : RepU K H α (.ref n) x) : ∃ a ys, x = .ref a ∧ α[n]? = some a ∧ H a = some (.lst ys) ∧ RepL K H α l ys := by
  obtain ⟨a, ys, ea, sq, r2⟩ := lstAt_ok A hl
  obtain ⟨a', ea', rfl⟩ := rx.ref_of A
  rw [ea] at ea'; cases ea'
  exact ⟨a, ys, rfl, ea, sq, r2⟩
noncomputable def gSub (fo fi : FE) : FG := fun v δ L => (fo δ L).bind fun p => (fi δ p.2).bind fun q => match p.1, q.1 with
  | .ref n, .int k => (lstAt q.2 n).bind fun l => (ixN l.length k).map fun j => (δ, q.2.set n (.lst (l.set j v)))
  | _, _ => none
theorem pgf_sub {X : Cx} {o i : Expr} {fo fi : FE} {pos : Pos} (ho : PEF X o fo) (hi : PEF X i fi) (ha : ∀ v, assign (.Subscript o i pos) X.env v = (do let ov ← holding [v] (eval o X.env); let iv ← holding [v, ov] (eval i X.env); standAt pos; holding [v, ov, iv] (setItem ov iv v); release [v, ov, iv] []) := by intro _; rfl) : PGF X (.Subscript o i pos) (MR.gSub fo fi) := by
  refine PG.imp (pg_sub ho hi set_list ha) ?_
  rintro v σ H Q ⟨α, δ, L, u, A, S, r, δ', L', e, q⟩
  obtain ⟨⟨o', L1⟩, e1, e⟩ := Option.bind_eq_some_iff.mp e
  obtain ⟨⟨i', L2⟩, e2, e⟩ := Option.bind_eq_some_iff.mp e
  refine ⟨α, δ, L, A, S, o', L1, e1, fun x H1 α1 g1 A1 r1 => ⟨α1, δ, L1, A1, S.mono g1, i', L2, e2, fun y H2 α2 g2 A2 r2 => ?_⟩⟩
  simp only at e
  split at e
  · obtain ⟨l, hl, e⟩ := Option.bind_eq_some_iff.mp e
    obtain ⟨j, ej, e⟩ := Option.map_eq_some_iff.mp e
    cases e
    unfold RepU at r2
    subst r2
    obtain ⟨a, ys, rfl, ea, h, r3⟩ := ref_lst A2 hl (r1.mono g2)
    obtain ⟨g, A'⟩ := A2.setL hl ea h (r3.set ((r.mono g1).mono g2) j)
    exact ⟨a, ys, _, j, rfl, rfl, h, by rw [← r3.length]; exact ej, q _ _ _ (g1.trans (g2.trans g)) A' (((S.mono g1).mono g2).mono g)⟩
  · cases e
end MR
set_option Elab.async false
set_option linter.all false
set_option maxRecDepth 100000
set_option maxHeartbeats 1000000
namespace MR
open PySem PySem.Spec PyProof.Rows L2
noncomputable def tyName (u : U) (L : UH) : Option String := match u with
  | .non => some "NoneType"
  | .bl _ => some "bool"
  | .int _ => some "int"
  | .str _ => some "str"
  | .tup _ => some "tuple"
  | .ref n => match L[n]? with
    | some (.lst _) => some "list"
    | some (.ro _) => some "list"
    | some (.dic _) => some "dict"
    | _ => none
noncomputable def isT (t c : String) : Bool := t == c || (t == "bool" && c == "int")
noncomputable def fIsi (c : String) (f : FE) : FE := fun δ L => (f δ L).bind fun p => (tyName p.1 p.2).map fun t => (.bl (isT t c), p.2)
end MR
namespace MR
open PySem PySem.Spec PyProof.Rows L2
theorem law_sp {K : PySem.W.Frag} {F : FN} {H : Hp} {a : Addr} {ns : List Int} {E : XK} (ho : Only H) (hS : SqL K H a (ns.map V.int)) (h : ∃ L', F [.ref 0] [.ro (ns.map U.int)] = some (.bl true, L')) : spF K 1 F [.ref a] H (fun v _ => v = .bl true) E := by
  obtain ⟨L', e⟩ := h
  have ro : RO K H a (ns.map V.int) := by
    rcases hS with (q | ⟨o, q⟩) | q
    · rcases ho a with z | ⟨o, xs, z⟩
      · rw [z] at q; cases q
      · rw [z] at q; cases q
    · exact .inl ⟨o, q⟩
    · exact .inr q
  refine ⟨[a], [.ro (ns.map U.int)], [.ref 0], ⟨rfl, fun i j b o o' e1 e2 e3 e4 => ?_, fun i b o e1 e2 => ?_⟩, .cons ?_ .nil, rfl, .bl true, L', e, fun v H' α' _ _ r => r⟩
  · cases i with
    | zero => cases j with
      | zero => exact .inl rfl
      | succ j => simp at e2
    | succ i => simp at e1
  · cases i with
    | zero => simp at e1 e2; subst e1; subst e2; exact ⟨_, ro, RepL.ints ns⟩
    | succ i => simp at e1
  · unfold RepU; exact ⟨a, rfl, rfl⟩
end MR
set_option Elab.async false
set_option linter.all false
set_option maxRecDepth 100000
set_option maxHeartbeats 2000000
namespace MR
open PySem PySem.Spec PyProof.Rows L2
theorem closure_of (env : PySem.Env) : ∀ (names : List (Str × NameKind)) (cs : List (Str × Addr)), (∀ y ∈ names, y.2 = .free → ∃ c, env.cells.lookup y.1 = some c) → (∀ x c, cs.lookup x = some c → env.cells.lookup x = some c) →
    ∃ cl : List (Str × Addr), (forIn names cs fun (x : Str × NameKind) r => if (x.2 == NameKind.free) = true then do let c ← cellOf env x.1; pure (ForInStep.yield ((x.1, c) :: r)) else pure (ForInStep.yield r) : Sem (List (Str × Addr))) = pure cl ∧
      (∀ x c, cl.lookup x = some c → env.cells.lookup x = some c) ∧ (∀ y ∈ names, y.2 = .free → ∃ c, cl.lookup y.1 = some c) ∧ ∀ x, (∃ c, cs.lookup x = some c) → ∃ c, cl.lookup x = some c
  | [], cs, _, h2 => ⟨cs, rfl, h2, (fun _ h => nomatch h), fun _ h => h⟩
  | (n, k) :: r, cs, h1, h2 => by
    cases hk : k == NameKind.free with
    | true =>
      have hk' : k = .free := by simpa using hk
      obtain ⟨c, hc⟩ := h1 (n, k) (List.mem_cons_self ..) hk'
      have look : ∀ x c', List.lookup x ((n, c) :: cs) = some c' → env.cells.lookup x = some c' := fun x c' e => by
        rw [List.lookup_cons] at e
        cases hx : x == n with
        | true => rw [hx] at e; simp at e; subst e; have : x = n := by simpa using hx
                  rw [this]; exact hc
        | false => rw [hx] at e; exact h2 x c' e
      obtain ⟨cl, e, p1, p2, p3⟩ := closure_of env r ((n, c) :: cs) (fun y hy => h1 y (List.mem_cons_of_mem _ hy)) look
      refine ⟨cl, ?_, p1, fun y hy hf => ?_, fun x hx => ?_⟩
      · rw [List.forIn_cons]
        have e0 : (cellOf env n : Sem Addr) = pure c := by unfold cellOf; rw [hc]
        simp only [hk, if_true, e0]
        exact e
      · rcases List.mem_cons.mp hy with rfl | hy
        · exact p3 n ⟨c, by simp⟩
        · exact p2 y hy hf
      · refine p3 x ?_
        rw [List.lookup_cons]
        cases hx' : x == n with
        | true => exact ⟨c, rfl⟩
        | false => exact hx
    | false =>
      obtain ⟨cl, e, p1, p2, p3⟩ := closure_of env r cs (fun y hy => h1 y (List.mem_cons_of_mem _ hy)) h2
      refine ⟨cl, ?_, p1, fun y hy hf => ?_, p3⟩
      · rw [List.forIn_cons]
        simp only [hk, Bool.false_eq_true, if_false]
        exact e
      · rcases List.mem_cons.mp hy with rfl | hy
        · rw [show k = NameKind.free from hf] at hk; cases hk
        · exact p2 y hy hf
theorem closureFor_ex {scope : Scope} {env : PySem.Env} (h : ∀ y ∈ scope.names, y.2 = .free → ∃ c, env.cells.lookup y.1 = some c) :
    ∃ cl, closureFor scope env = pure cl ∧ (∀ x c, cl.lookup x = some c → env.cells.lookup x = some c) ∧ ∀ y ∈ scope.names, y.2 = .free → ∃ c, cl.lookup y.1 = some c := by
  obtain ⟨cl, e, p1, p2, _⟩ := closure_of env scope.names [] h (fun x c e => by simp at e)
  refine ⟨cl, ?_, p1, p2⟩
  unfold closureFor
  show (forIn scope.names [] _ >>= fun cs => pure cs) = pure cl
  have : (forIn scope.names ([] : List (Str × Addr)) (fun (x : Str × NameKind) (r : List (Str × Addr)) => if (x.2 == NameKind.free) = true then do let c ← cellOf env x.1; pure (ForInStep.yield ((x.1, c) :: r)) else pure (ForInStep.yield r)) : Sem (List (Str × Addr))) >>= (fun cs => pure cs) = pure cl := by rw [e]; rfl
  exact this
end MR
set_option Elab.async false
set_option linter.all false
set_option maxRecDepth 100000
set_option maxHeartbeats 4000000
namespace MR
open PySem PySem.Spec PyProof.Rows L2
noncomputable def blk (X : Cx) (scope : Scope) (cl : List (Str × Addr)) (C : Addr) (N' : List Str) (s2 : Shared) (H2 : Hp) (fp : List Addr) (pins : List (Addr × Obj)) : Cx :=
  { X with env := compEnvC scope cl C X.env, N := N', s₀ := s2, H₀ := H2, outer := X.stack, ex := fp, fn := fun _ => false, pn := X.pn ++ pins, xe := fun _ _ => False }
theorem HOk.adopt {P : Program} {w : World} {H : Hp} {h : Heap} {a : Addr} {o : HO} (x : HOk P w H h) (hn : H a = none) (new : ObjOk P w (upd H a o) h a o) : HOk P w (upd H a o) h := fun b u e => by
  by_cases hb : b = a
  · subst hb; rw [upd_same] at e; cases e; exact new
  · rw [upd_ne hb] at e
    exact (x b u e).stay (fun c v _ q => q) (fun c q => by rw [upd_ne (ne_of_none q hn)]; exact q) fun c xs q => by rw [upd_ne (ne_of_none q hn)]; exact q
theorem Un.adopt {fs ex : List Addr} {H H1 : Hp} {h h1 : Heap} {a : Addr} {o : HO} (u : Un fs ex H H1 h h1) (hn : H1 a = none) (ha : h.get? a = none) : Un fs ex H (upd H1 a o) h h1 where
  keep := u.keep
  slot := u.slot
  free := fun b ob q n hx => by
    have : b ≠ a := fun z => by rw [z, ha] at q; cases q
    rw [upd_ne this]; exact u.free b ob q n hx
  there := u.there
  tups := fun b xs q => by have q' := u.tups b xs q; rw [upd_ne (ne_of_none q' hn)]; exact q'
  frzs := fun b ob xs q => by have q' := u.frzs b ob xs q; rw [upd_ne (ne_of_none q' hn)]; exact q'
  tbls := fun b ps q => by
    obtain ⟨m, q'⟩ := u.tbls b ps q
    exact ⟨m, by rw [upd_ne (ne_of_none q' hn)]; exact q'⟩
structure CompSc (X : Cx) (scope : Scope) (N' : List Str) (ix : List (Option Nat)) : Prop where
  kind : scope.kind = .function
  cell : (scope.names.all fun y => y.2 != .cell) = true
  loc : (scope.names.all fun y => y.2 != .local || scope.names.lookup y.1 == some .local) = true
  free : (scope.names.all fun y => y.2 != .free || (X.env.kindOf y.1 == some .cell || X.env.kindOf y.1 == some .free)) = true
  ixs : ((N'.zip ix).all fun p => match p.2 with | none => true | some i => (X.N[i]? == some p.1) && (scope.names.lookup p.1 == some .free)) = true
  len : N'.length = ix.length
noncomputable def inner (ix : List (Option Nat)) (σ : L2.St) : L2.St := ix.map fun o => o.bind fun i => (σ[i]?).join
noncomputable def CLoop (J : It) (g : TG) (tt : TT) (te : TE) (σ' : L2.St) (H : Hp) (Fin : List V → Hp → Prop) : Prop := ∃ W : Nat → Nat → List V → L2.St → Hp → Prop, (∃ m, W 0 m [] σ' H) ∧ ∀ i m acc σ1 H1, W i m acc σ1 H1 →
  (J.stop i H1 ∧ Fin acc H1) ∨ (J.go i H1 ∧ ∀ x H3, J.yld i H1 x H3 → g x σ1 H3 fun σ2 H4 => tt σ2 H4 fun b H5 =>
    if b = true then te σ2 H5 fun y H6 => acc.length < sizeLine ∧ ∃ m', m' < m ∧ W (i + 1) m' (acc ++ [y]) σ2 H6 else ∃ m', m' < m ∧ W (i + 1) m' acc σ2 H5)
section
variable {X : Cx} {scope : Scope} {N' : List Str} {ix : List (Option Nat)} {pins : List (Addr × Obj)} {σ : L2.St} {H2 : Hp} {s2 : Shared} {cl : List (Str × Addr)} {fp : List Addr}
theorem lookup_mem {β : Type} {x : Str} {v : β} : ∀ {l : List (Str × β)}, l.lookup x = some v → (x, v) ∈ l
  | [], h => by simp at h
  | (n, k) :: r, h => by
    rw [List.lookup_cons] at h
    cases hx : x == n with
    | true => rw [hx] at h; simp at h; have : x = n := by simpa using hx
              subst this; subst h; exact List.mem_cons_self ..
    | false => rw [hx] at h; exact List.mem_cons_of_mem _ (lookup_mem h)
theorem lookup_relabel {env : PySem.Env} {x : Str} : ∀ {names : List (Str × NameKind)} {k : NameKind}, (names.map fun (n, k) => if (k == NameKind.free && env.scope.kind == .function && env.kindOf n == some .cell) then (n, NameKind.cell) else (n, k)).lookup x = some k →
    names.lookup x = some k ∨ (names.lookup x = some .free ∧ k = .cell)
  | [], k, h => by simp at h
  | (n, k') :: r, k, h => by
    have ih := @lookup_relabel env x r k
    rw [List.map_cons] at h
    cases hx : x == n with
    | true =>
      rw [List.lookup_cons, hx]
      simp only at h ⊢
      split at h
      · rename_i hc
        rw [List.lookup_cons, hx] at h
        simp at h
        simp only [Bool.and_eq_true] at hc
        have : k' = .free := by simpa using hc.1.1
        subst this
        exact .inr ⟨rfl, h.symm⟩
      · rw [List.lookup_cons, hx] at h
        exact .inl h
    | false =>
      rw [List.lookup_cons, hx]
      simp only at h ⊢
      split at h
      · rw [List.lookup_cons, hx] at h; exact ih h
      · rw [List.lookup_cons, hx] at h; exact ih h
theorem lookup_relabel_free {env : PySem.Env} {x : Str} : ∀ {names : List (Str × NameKind)}, names.lookup x = some .free →
    (names.map fun (n, k) => if (k == NameKind.free && env.scope.kind == .function && env.kindOf n == some .cell) then (n, NameKind.cell) else (n, k)).lookup x = some .free ∨ (names.map fun (n, k) => if (k == NameKind.free && env.scope.kind == .function && env.kindOf n == some .cell) then (n, NameKind.cell) else (n, k)).lookup x = some .cell
  | [], h => by simp at h
  | (n, k') :: r, h => by
    have ih := @lookup_relabel_free env x r
    rw [List.map_cons]
    cases hx : x == n with
    | true =>
      rw [List.lookup_cons, hx] at h
      simp at h
      subst h
      simp only
      split
      · right; rw [List.lookup_cons, hx]
      · left; rw [List.lookup_cons, hx]
    | false =>
      rw [List.lookup_cons, hx] at h
      have := ih h
      simp only
      split
      · rw [List.lookup_cons, hx]; exact this
      · rw [List.lookup_cons, hx]; exact this
theorem blk_start (S : CompSc X scope N' ix) (hcalm : X.calm = true) (I2 : Inv X pins σ H2 s2) (hcl : ∀ x c, cl.lookup x = some c → X.env.cells.lookup x = some c) (hcl2 : ∀ y ∈ scope.names, y.2 = .free → ∃ c, cl.lookup y.1 = some c)
    (f2 : ∀ b ∈ fp, FpOk X pins H2 b) (hfp : ∀ b ∈ fp, b < s2.heap.objs.size) {C : Addr} {h4 : Heap} {m : Str → Option Value} {t4 : Nat} (hC : s2.heap.objs.size ≤ C) (hns : h4.Ns C m) (keep : ∀ b o, s2.heap.get? b = some o → h4.get? b = some o) :
    Inv (blk X scope cl C N' s2 H2 fp pins) [] (inner ix σ) H2 { s2 with heap := h4, toks := t4 } := by
  have hkindC : (relabel scope X.env).kind = .function := S.kind
  have ok : (blk X scope cl C N' s2 H2 fp pins).Ok :=
    { mod := I2.ok.mod
      kind := hkindC
      glob := I2.ok.glob
      blt := I2.ok.blt
      above := hC
      inj := fun x y c e1 e2 => I2.ok.inj x y c (hcl x c e1) (hcl y c e2)
      has := fun x h => by
        have h' : (relabel scope X.env).names.lookup x = some .cell ∨ (relabel scope X.env).names.lookup x = some .free := h
        have hfree : scope.names.lookup x = some .free := by
          rcases h' with h' | h'
          · rcases lookup_relabel h' with q | ⟨q, _⟩
            · have := List.all_eq_true.mp S.cell _ (lookup_mem q)
              simp at this
            · exact q
          · rcases lookup_relabel h' with q | ⟨q, z⟩
            · exact q
            · cases z
        exact hcl2 _ (lookup_mem hfree) rfl
      cab := fun x c h => by cases h
      hd := fun _ => I2.ok.hd hcalm
      frames := I2.ok.frames
      stk := .inl rfl
      exf := fun b hb => ⟨Nat.ne_of_lt (Nat.lt_of_lt_of_le (hfp b hb) hC), fun x c e => (f2 b hb).2.2.2.2.1 x c (hcl x c e)⟩
      bs := fun b o e => I2.bs b o e
      bsz := Nat.le_trans I2.ok.bsz I2.sz
      noex := fun b o e hb => by
        rcases (f2 b hb).2.2.2.1 with z | z
        · exact I2.ok.noex b o e z
        · exact absurd (Nat.lt_of_lt_of_le (Heap.lt_size (I2.ok.bs b o e).1) z) (Nat.lt_irrefl _)
      exfs := fun b hb z => by
        rcases List.mem_cons.mp (I2.stkSub b z) with q | q
        · exact (f2 b hb).2.1 q
        · exact (f2 b hb).2.2.1 q
      funs := I2.stack
      frf := I2.stkFree }
  obtain ⟨m0, hn0, hl0⟩ := id I2.loc
  refine ⟨ok, rfl, I2.bare, Un.kept keep, ⟨m, hns, fun j x v e1 e2 e3 => ?_⟩, fun x c e => ?_, I2.hok.fresh hC, fun x c e => I2.freeC x c (hcl x c e), fun p hp => ?_, I2.hok.kept keep, ?_⟩
  · -- a name that the block takes along
    have e1' : N'[j]? = some x := e1
    have e2' : (inner ix σ)[j]? = some (some v) := e2
    unfold inner at e2'
    rw [List.getElem?_map] at e2'
    cases hx : ix[j]? with
    | none => rw [hx] at e2'; simp at e2'
    | some o =>
      rw [hx] at e2'
      cases o with
      | none => simp at e2'
      | some i =>
        simp at e2'
        have hz : (x, some i) ∈ N'.zip ix := List.mem_of_getElem? (i := j) (by rw [List.getElem?_zip_eq_some]; exact ⟨e1', hx⟩)
        have hz' := List.all_eq_true.mp S.ixs _ hz
        simp only [Bool.and_eq_true, beq_iff_eq] at hz'
        obtain ⟨hXN, hfr⟩ := hz'
        have hσ : σ[i]? = some (some v) := by
          cases q : σ[i]? with
          | none => rw [q] at e2'; simp at e2'
          | some o => rw [q] at e2'; simp at e2'; rw [e2']
        have hk := List.all_eq_true.mp S.free _ (lookup_mem hfr)
        simp at hk
        have hvis : Vis X.env.scope x := by
          rcases hk with q | q
          · exact .inr (.inl q)
          · exact .inr (.inr q)
        obtain ⟨u, r, look⟩ := hl0 i x v hXN hσ hvis
        rcases look with ⟨q, _⟩ | ⟨_, c, ec, hc⟩
        · rcases hk with z | z
          · rw [z] at q; cases q
          · rw [z] at q; cases q
        · obtain ⟨c', ec'⟩ := hcl2 _ (lookup_mem hfr) rfl
          have : c' = c := by have := hcl x c' ec'; rw [ec] at this; cases this; rfl
          subst this
          refine ⟨u, r, .inr ⟨?_, c', ec', ?_⟩⟩
          · rcases lookup_relabel_free (env := X.env) hfr with q | q
            · exact .inr q
            · exact .inl q
          · obtain ⟨oc, ho, hd⟩ := hc
            exact ⟨oc, keep _ _ ho, hd⟩
  · obtain ⟨v, oc, ho, hd⟩ := I2.cell x c (hcl x c e)
    exact ⟨v, oc, keep _ _ ho, hd⟩
  · have hp' : p ∈ X.pn ++ pins := by simpa [blk] using hp
    obtain ⟨q1, q2, q3, q4, q5⟩ := I2.pin p hp'
    refine ⟨keep _ _ q1, q2, Nat.ne_of_lt (Nat.lt_of_lt_of_le (Heap.lt_size q1) hC), fun z => ?_, q5⟩
    rcases List.mem_cons.mp (I2.stkSub p.1 z) with q | q
    · exact q3 q
    · exact q4 q
  · show (inner ix σ).length = N'.length
    rw [S.len]; simp [inner]
end
end MR
set_option Elab.async false
set_option linter.all false
set_option maxRecDepth 100000
set_option maxHeartbeats 4000000
namespace MR
open PySem PySem.Spec PyProof.Rows L2
section
variable {X : Cx} {scope : Scope} {N' : List Str} {ix : List (Option Nat)} {pins : List (Addr × Obj)} {σ : L2.St} {H2 : Hp} {s2 : Shared} {cl : List (Str × Addr)} {fp : List Addr}
noncomputable def Tests (X' : Cx) (ifs : List Expr) (tt : TT) : Prop := ∀ (pins : List (Addr × Obj)) (s : Shared) (σ : L2.St) (H : Hp) (Q : Bool → Hp → Prop) (E : Value → Shared → Prop), Inv X' pins σ H s → tt σ H Q → (∀ e s, X'.xe e s → E e s) →
  wpAny (model X'.prog X'.w) X'.A (forIn ifs true fun c r => if r = true then do let ok ← isTrue c X'.env (eval c X'.env); pure (ForInStep.yield ok) else pure (ForInStep.yield r)) (TP X' pins σ Q) E s
noncomputable def tYes : TT := fun _ H Q => Q true H
theorem tests_nil {X' : Cx} : Tests X' [] tYes := fun pins s σ H Q E I h _ => wpAny_tests_nil ⟨H, I, h⟩
noncomputable def accObj (its : List Value) (n : Nat) : Obj := { cls := .type "list", data := .seq its.toArray n }
theorem comp_loop {elt tg iter : Expr} {ifs : List Expr} {pos : Pos} {it D C : Addr} {J : It} {tn : Nat → Heap → Prop} {g : TG} {tt : TT} {te : TE} {Fin : List V → Hp → Prop} {R : Result → Shared → Prop} {X' : Cx}
    (hX : X'.A = X.A ∧ X'.prog = X.prog ∧ X'.w = X.w ∧ X'.K = X.K ∧ X'.calm = true ∧ ∀ e s, ¬ X'.xe e s) (T : Turn X.prog X.w X.K tg J fp it tn) (hg : PG X' tg g) (ht : Tests X' ifs tt) (he : PE X' elt te)
    (hD1 : s2.heap.objs.size ≤ D) (hDC : D ≠ C) (hC : s2.heap.objs.size ≤ C) (hfp : ∀ b ∈ fp, FpOk X' [] H2 b ∧ b ≠ D) (hDf : ∀ H, H D = none → FpOk X' [] H D)
    {s : Shared} {σ1 : L2.St} {H1 : Hp} {n0 : Nat} (I : Inv X' [(D, accObj [] n0)] σ1 H1 s) (st : tn 0 s.heap) (fr : ∀ b ∈ fp, H1 b = none) (hloop : CLoop J g tt te σ1 H1 Fin)
    (hR : ∀ (s' : Shared) (σ' : L2.St) (H' : Hp) (acc : List V) (its : List Value) (n : Nat), Inv X' [(D, accObj its n)] σ' H' s' → Vals acc its → acc.length ≤ sizeLine → Fin acc H' → R (.ok .next) s') :
    codeAny (model X.prog X.w) X.A (.compLoop (.ListComp elt [⟨tg, iter, ifs, 0⟩] scope pos) 0 (.ref it) (.ref D) X'.env) R s := by
  obtain ⟨W, ⟨m0, w0⟩, turn⟩ := hloop
  obtain ⟨hXA, hXp, hXw, hXK, hXc, hxe⟩ := hX
  have hfpo : ∀ (o : Obj) (H : Hp), (∀ b ∈ fp, H b = none) → ∀ b ∈ fp, FpOk X' [(D, o)] H b := fun o H hn b hb => by
    obtain ⟨⟨_, q1, q2, q3, q4, q5⟩, q6⟩ := hfp b hb
    refine ⟨hn b hb, q1, q2, q3, q4, fun p hp => ?_⟩
    rcases List.mem_append.mp hp with z | z
    · exact q5 p (List.mem_append_left _ z)
    · have : p = (D, o) := by simpa using z
      rw [this]; exact fun z => q6 z.symm
  refine codeAny_loop rfl (fun n s => ∃ i acc its k σ1 H1, Inv X' [(D, accObj its k)] σ1 H1 s ∧ Vals acc its ∧ acc.length ≤ sizeLine ∧ tn i s.heap ∧ (∀ b ∈ fp, H1 b = none) ∧ W i n acc σ1 H1) (fun n s hI => ?_) m0 ⟨0, [], [], n0, σ1, H1, I, .nil, Nat.zero_le _, st, fr, w0⟩
  show wpAny _ X.A ((compTurn (.ListComp elt [⟨tg, iter, ifs, 0⟩] scope pos) 0 (.ref it) (.ref D) X'.env).onRaise (fun x => do noteFrame x X'.env; theTreesLotGoes x)) _ _ s
  refine wpAny_noted ?_
  rw [compTurn_list]
  obtain ⟨i, acc, its, k, σ1, H1, I, hv, hz, st, fr, w1⟩ := hI
  refine wpAny_bind (wpAny_standAt (wpAny_bind ?_))
  rcases turn i n acc σ1 H1 w1 with ⟨stop, fin⟩ | ⟨go, step⟩
  · have h := T.done X' hXp hXw hXK hXc i _ s σ1 H1 (notedBy (model X.prog X.w) X.A X'.env fun e s' => R (.error e) s') I (hfpo _ H1 fr) st stop
    rw [hXA] at h
    refine thn h fun r s4 ⟨hr, I4⟩ => ?_
    subst hr
    exact wpAny_pure (hR s4 σ1 H1 acc its k I4 hv hz fin)
  · have h := T.item X' hXp hXw hXK hXc i _ s σ1 H1 (notedBy (model X.prog X.w) X.A X'.env fun e s' => R (.error e) s') I (hfpo _ H1 fr) st go
    rw [hXA] at h
    refine thn h fun r s4 ⟨u, hr, h4⟩ => ?_
    subst hr
    refine wpAny_bind (thn h4 fun _ s5 ⟨x, H5, I5, r5, y5, st5, fr5⟩ => ?_)
    have I5' := I5.pinned (hfpo _ H5 fr5) (T.obj _ _ st5)
    have hg5 := hg _ s5 σ1 H5 x u _ I5' r5 (step x H5 y5)
    rw [hXp, hXw, hXA] at hg5
    refine wpAny_bind (wpAny_mono hg5 (fun _ s6 ⟨σ6, H6, I6, q6⟩ => ?_) fun e s z => absurd z (hxe e s))
    have ht6 := ht _ s6 σ6 H6 _ (notedBy (model X.prog X.w) X.A X'.env fun e s' => R (.error e) s') I6 q6 (fun e s z => absurd z (hxe e s))
    rw [hXp, hXw, hXA] at ht6
    refine wpAny_bind (thn ht6 fun b s7 ⟨H7, I7, q7⟩ => ?_)
    have back : ∀ {σ8 : L2.St} {H8 : Hp} {s8 : Shared}, Inv X' ([(D, accObj its k)] ++ pinsAt fp s5.heap) σ8 H8 s8 → tn (i + 1) s8.heap ∧ (∀ b ∈ fp, H8 b = none) ∧ s8.heap.get? D = some (accObj its k) ∧ H8 D = none := fun {σ8 H8 s8} I8 => by
      refine ⟨T.keep _ _ _ st5 fun b hb o e => (I8.pin (b, o) (List.mem_append_right _ (List.mem_append_right _ (mem_pinsAt hb e)))).1, fun b hb => ?_, ?_, ?_⟩
      · obtain ⟨o, e, d⟩ := T.obj _ _ st5 b hb
        exact (I8.pin (b, o) (List.mem_append_right _ (List.mem_append_right _ (mem_pinsAt hb e)))).2.1
      · exact (I8.pin (D, accObj its k) (List.mem_append_right _ (List.mem_append_left _ (List.mem_singleton.mpr rfl)))).1
      · exact (I8.pin (D, accObj its k) (List.mem_append_right _ (List.mem_append_left _ (List.mem_singleton.mpr rfl)))).2.1
    cases b with
    | false =>
      obtain ⟨m', hm, w8⟩ := (q7 : if false = true then _ else _)
      obtain ⟨st8, fr8, _, _⟩ := back I7
      refine wpAny_pure ⟨rfl, m', hm, i + 1, acc, its, k, σ6, H7, ?_, hv, hz, st8, fr8, w8⟩
      exact I7.pins_of fun p hp => I7.pin p (List.mem_append_right _ (List.mem_append_left _ hp))
    | true =>
      have q7' : te σ6 H7 fun y H6 => acc.length < sizeLine ∧ ∃ m', m' < n ∧ W (i + 1) m' (acc ++ [y]) σ6 H6 := q7
      have he7 := he _ s7 σ6 H7 _ I7 q7'
      rw [hXp, hXw, hXA] at he7
      refine wpAny_bind (wpAny_bind (wpAny_mono he7 (fun y s8 ⟨v, H8, I8, r8, hlt, m', hm, w8⟩ => ?_) fun e s z => absurd z (hxe e s)))
      obtain ⟨st8, fr8, hDo, hDn⟩ := back I8
      have hlen := hv.length
      have hisl : s8.heap.IsList D its.toArray := ⟨_, hDo, rfl, k, rfl⟩
      refine wpAny_bind ?_
      obtain ⟨k', hd'⟩ : ∃ k', Obj.mapSeq (·.push y) (accObj its k) = accObj (its ++ [y]) k' := ⟨_, by simp [accObj, Obj.mapSeq]; rfl⟩
      refine wpAny_call_entry slot_list_append hisl.typeIs entry_list_append ?_ (args_list_append _ _)
      show wpAny _ _ (updateSeq D (·.push y) >>= fun _ => ret .none) _ _ s8
      refine wpAny_bind (wpAny_updateSeq hDo rfl (wpAny_pure ⟨.none, rfl, ?_⟩))
      have hk9 : ∀ b o, b ≠ D → s8.heap.get? b = some o → (s8.heap.update D (Obj.mapSeq (·.push y))).get? b = some o := fun b o hb e => (Heap.SameBut.update (h := s8.heap) (a := D) ..).2 b hb |>.trans e
      have hD9 : (s8.heap.update D (Obj.mapSeq (·.push y))).get? D = some (accObj (its ++ [y]) k') := by
        rw [← hd']; exact Heap.get?_update_self _ hDo (by rw [hd']; exact Obj.isFreed_of_seq (xs := (its ++ [y]).toArray) (n := k') rfl)
      have I8' : Inv X' [] σ6 H8 s8 := I8.pins_of fun p hp => by cases hp
      obtain ⟨d0, d1, d2, d3, d4, d5⟩ := hDf H8 hDn
      have I9 : Inv X' [] σ6 H8 { s8 with heap := s8.heap.update D (Obj.mapSeq (·.push y)) } := I8'.turned (t' := s8.toks) hk9 hDn d1 d3 d4 d5
      have I10 := I9.pins_of (pins' := [(D, accObj (its ++ [y]) k')]) fun p hp => by
        have : p = (D, accObj (its ++ [y]) k') := by simpa using hp
        subst this
        exact ⟨hD9, hDn, d1, d2, fun v z => by simp [accObj] at z⟩
      refine wpAny_pure (wpAny_pure ⟨rfl, m', hm, i + 1, acc ++ [v], its ++ [y], k', σ6, H8, I10, Vals.append hv (.cons r8 .nil), by rw [List.length_append]; simp; omega, ?_, fr8, w8⟩)
      refine T.keep _ _ _ st8 fun b hb o e => hk9 b o (hfp b hb).2 e
end
end MR
set_option Elab.async false
set_option linter.all false
set_option maxRecDepth 100000
set_option maxHeartbeats 4000000
namespace MR
open PySem PySem.Spec PyProof.Rows L2
section
variable {X : Cx} {scope : Scope} {N' : List Str} {ix : List (Option Nat)}
noncomputable def tComp (ix : List (Option Nat)) (wi : TI) (g : TG) (tt : TT) (te : TE) : TE := fun σ H Q => wi σ H fun J H1 => CLoop J g tt te (inner ix σ) H1 fun acc H2 => ∀ p, H2 p = none → Q (.ref p) (upd H2 p (.lst acc))
theorem comp_core {elt tg iter : Expr} {ifs : List Expr} {pos : Pos} {g : TG} {tt : TT} {te : TE} {pins : List (Addr × Obj)} {σ : L2.St} {H2 : Hp} {s2 : Shared} {cl : List (Str × Addr)} {fp : List Addr} {it : Addr} {J : It} {tn : Nat → Heap → Prop} {E : Value → Shared → Prop} {Fin : List V → Hp → Prop} {RR : Value → Addr → Result → Shared → Prop}
    (S : CompSc X scope N' ix) (hcalm : X.calm = true) (hcl : ∀ x c, cl.lookup x = some c → X.env.cells.lookup x = some c) (hcl2 : ∀ y ∈ scope.names, y.2 = .free → ∃ c, cl.lookup y.1 = some c)
    (hg : ∀ C, PG (blk X scope cl C N' s2 H2 fp pins) tg g) (ht : ∀ C, Tests (blk X scope cl C N' s2 H2 fp pins) ifs tt) (he : ∀ C, PE (blk X scope cl C N' s2 H2 fp pins) elt te)
    (I2 : Inv X pins σ H2 s2) (T : Turn X.prog X.w X.K tg J fp it tn) (st2 : tn 0 s2.heap) (f2 : ∀ b ∈ fp, FpOk X pins H2 b) (hloop : CLoop J g tt te (inner ix σ) H2 Fin)
    (hRR : ∀ (D C : Addr) (s' : Shared) (H' : Hp) (acc : List V), Inv X pins σ (upd H' D (.lst acc)) s' → H' D = none → (∃ m, s'.heap.Ns C m) → (upd H' D (.lst acc)) C = none → FpOk X pins (upd H' D (.lst acc)) C → Fin acc H' → RR (.ref D) C (.ok .next) s') :
    wpAny (model X.prog X.w) X.A (newList []) (fun acc s₃ => wpAny (model X.prog X.w) X.A (newFunctionEnv scope X.env.globals cl [] X.env.qual none .none (some X.env)) (fun cenv s₄ =>
      codeAny (model X.prog X.w) X.A (.compStart (.ListComp elt [⟨tg, iter, ifs, 0⟩] scope pos) 0 (.ref it) acc { cenv with scope := relabel scope X.env }) (RR acc cenv.locals) s₄) E s₃) E s2 := by
  have hcell : ∀ y ∈ scope.names, y.2 ≠ .cell := fun y hy z => by
    have := List.all_eq_true.mp S.cell y hy
    rw [z] at this; simp at this
  refine wpAny_newObj_type (wpAny_newFunctionEnv hcell (by intro y hy; simp at hy) (fun h₁ hns₁ hsb₁ => ?_) S.kind)
  dsimp only at hns₁ hsb₁ ⊢
  generalize hH2 : s2.heap.push { cls := .type "list", dict := none, data := .seq ([] : List Value).toArray } = HP at hns₁ hsb₁ ⊢
  have hCs : HP.objs.size = s2.heap.objs.size + 1 := by rw [← hH2, Heap.size_push]
  have hDC : s2.heap.objs.size ≠ HP.objs.size := by rw [hCs]; exact Nat.ne_of_lt (Nat.lt_succ_self _)
  have hCle : s2.heap.objs.size ≤ HP.objs.size := by rw [hCs]; exact Nat.le_succ _
  have old : ∀ b o, s2.heap.get? b = some o → h₁.get? b = some o := fun b o e => hsb₁.extBut b o (Nat.ne_of_lt (Nat.lt_of_lt_of_le (Heap.lt_size e) hCle)) (Heap.get?_push_of_some _ (hH2 ▸ Heap.get?_push_of_some _ e))
  have hacc : h₁.get? s2.heap.objs.size = some (accObj [] 0) := hsb₁.extBut _ _ hDC (Heap.get?_push_of_some _ (hH2 ▸ Heap.get?_push_size _ rfl))
  have hfp : ∀ b ∈ fp, b < s2.heap.objs.size := fun b hb => by
    obtain ⟨o, e, _⟩ := T.obj _ _ st2 b hb
    exact Heap.lt_size e
  generalize hDg : s2.heap.objs.size = D at hDC hacc
  generalize hCg : HP.objs.size = C at *
  have hDle : s2.heap.objs.size ≤ D := Nat.le_of_eq hDg
  have hD2 : s2.heap.get? D = none := by
    cases q : s2.heap.get? D with
    | none => rfl
    | some o => exact absurd (Nat.lt_of_lt_of_le (Heap.lt_size q) hDle) (Nat.lt_irrefl _)
  have I4 := blk_start (t4 := s2.toks + ([] : List (Str × Value)).length) S hcalm I2 hcl hcl2 f2 hfp hCle hns₁ old
  have above : ∀ a, s2.heap.objs.size ≤ a → a ∉ frs X.stack ∧ (∀ x c, X.env.cells.lookup x = some c → c ≠ a) ∧ (∀ p ∈ X.pn ++ pins, p.1 ≠ a) ∧ a ≠ X.env.locals := fun a ha => by
    refine ⟨fun z => ?_, fun x c e z => ?_, fun p hp z => ?_, ?_⟩
    · rcases List.mem_cons.mp (I2.stkSub a z) with q | q
      · exact absurd (Nat.lt_of_lt_of_le I2.lt (q ▸ ha)) (Nat.lt_irrefl _)
      · exact I2.nofs ha q
    · obtain ⟨v, q⟩ := I2.cell x c e
      exact absurd (Nat.lt_of_lt_of_le q.lt (z ▸ ha)) (Nat.lt_irrefl _)
    · exact absurd (Nat.lt_of_lt_of_le (Heap.lt_size (I2.pin p hp).1) (z ▸ ha)) (Nat.lt_irrefl _)
    · intro z; exact absurd (Nat.lt_of_lt_of_le I2.lt (z ▸ ha)) (Nat.lt_irrefl _)
  have hfpX : ∀ b ∈ fp, FpOk (blk X scope cl C N' s2 H2 fp pins) [] H2 b ∧ b ≠ D := fun b hb => by
    obtain ⟨q0, q1, q2, q3, q4, q5⟩ := f2 b hb
    have hlt := hfp b hb
    refine ⟨⟨q0, Nat.ne_of_lt (Nat.lt_of_lt_of_le hlt hCle), fun z => ?_, .inl hb, fun x c e => q4 x c (hcl x c e), fun p hp => q5 p (by simpa [blk] using hp)⟩, Nat.ne_of_lt (Nat.lt_of_lt_of_le hlt hDle)⟩
    rcases List.mem_cons.mp (I2.stkSub b z) with q | q
    · exact q1 q
    · exact q2 q
  have hDf : ∀ H : Hp, H D = none → FpOk (blk X scope cl C N' s2 H2 fp pins) [] H D := fun H hn => by
    obtain ⟨a1, a2, a3, a4⟩ := above D hDle
    exact ⟨hn, hDC, a1, .inr hDle, fun x c e => a2 x c (hcl x c e), fun p hp => a3 p (by simpa [blk] using hp)⟩
  have hDn2 : H2 D = none := I2.hok.fresh hDle
  have I5 : Inv (blk X scope cl C N' s2 H2 fp pins) [(D, accObj [] 0)] (inner ix σ) H2 { s2 with heap := h₁, toks := s2.toks + ([] : List (Str × Value)).length } := I4.pins_of fun p hp => by
    have : p = (D, accObj [] 0) := by simpa using hp
    subst this
    obtain ⟨_, d1, d2, _⟩ := hDf H2 hDn2
    exact ⟨hacc, hDn2, d1, d2, fun v z => by simp [accObj] at z⟩
  have st5 : tn 0 h₁ := T.keep _ _ _ st2 fun b _ o e => old b o e
  have loop : codeAny (model X.prog X.w) X.A (.compLoop (.ListComp elt [⟨tg, iter, ifs, 0⟩] scope pos) 0 (.ref it) (.ref D) (blk X scope cl C N' s2 H2 fp pins).env) (RR (.ref D) C) { s2 with heap := h₁, toks := s2.toks + ([] : List (Str × Value)).length } := by
    refine comp_loop (X' := blk X scope cl C N' s2 H2 fp pins) ⟨rfl, rfl, rfl, rfl, hcalm, fun _ _ z => z⟩ T (hg C) (ht C) (he C) hDle hDC hCle hfpX hDf I5 st5 (fun b hb => (f2 b hb).1) hloop ?_
    intro s' σ' H' acc its n I hv hz fin
    obtain ⟨hDo, hDn, _⟩ := I.pin (D, accObj its n) (List.mem_append_right _ (List.mem_singleton.mpr rfl))
    have hbase : Un (frs X.stack) fp H2 H' s2.heap s'.heap := I.base
    have hok : HOk X.prog X.w (upd H' D (.lst acc)) s'.heap := HOk.adopt I.hok hDn ⟨hz, its, n, hv, hDo⟩
    have IX : Inv X pins σ (upd H' D (.lst acc)) s' := I2.call' I.os (Un.adopt hbase hDn hD2) hok I.bare fun b hb => ⟨(f2 b hb).2.2.2.1, (f2 b hb).2.1, (f2 b hb).2.2.2.2.1, (f2 b hb).2.2.2.2.2⟩
    obtain ⟨m, hm, _⟩ := I.loc
    have hCn : (upd H' D (.lst acc)) C = none := by rw [upd_ne (Ne.symm hDC)]; exact I.free
    obtain ⟨a1, a2, a3, a4⟩ := above C hCle
    refine hRR D C s' H' acc IX hDn ⟨m, hm⟩ hCn ⟨hCn, a4, fun z => ?_, .inr (Nat.le_trans I2.sz hCle), a2, a3⟩ fin
    exact I2.nofs hCle z
  have e1 : ({ newEnv scope C X.env.globals cl X.env.qual none .none (some X.env) builtinsNs with scope := relabel scope X.env } : PySem.Env) = (blk X scope cl C N' s2 H2 fp pins).env := rfl
  exact codeAny_compStart_list loop (T.self _ 0 _ _ _ st5 loop)
theorem CompSc.names {scope : Scope} (S : CompSc X scope N' ix) : ∀ x ∈ scope.names, x.2 = .local → scope.names.lookup x.1 = some .local := fun x hx hl => by
  have := List.all_eq_true.mp S.loc x hx
  rw [hl] at this
  simpa using this
theorem CompSc.clos {scope : Scope} (S : CompSc X scope N' ix) (ok : X.Ok) : ∃ cl, closureFor scope X.env = pure cl ∧ (∀ x c, cl.lookup x = some c → X.env.cells.lookup x = some c) ∧ ∀ y ∈ scope.names, y.2 = .free → ∃ c, cl.lookup y.1 = some c := by
  refine closureFor_ex fun y hy hf => ?_
  have := List.all_eq_true.mp S.free y hy
  rw [hf] at this
  simp at this
  exact ok.has y.1 this
theorem pe_comp {elt tg iter : Expr} {ifs : List Expr} {pos : Pos} {wi : TI} {g : TG} {tt : TT} {te : TE} (S : CompSc X scope N' ix) (hcalm : X.calm = true) (hi : PI X tg iter wi)
    (hg : ∀ cl C s2 H2 fp pins, PG (blk X scope cl C N' s2 H2 fp pins) tg g) (ht : ∀ cl C s2 H2 fp pins, Tests (blk X scope cl C N' s2 H2 fp pins) ifs tt) (he : ∀ cl C s2 H2 fp pins, PE (blk X scope cl C N' s2 H2 fp pins) elt te)
    (hs : ∀ x, foldedSetIterable iter X.env x = pure x := by intro _; rfl) : PE X (.ListComp elt [⟨tg, iter, ifs, 0⟩] scope pos) (tComp ix wi g tt te) := by
  intro pins s σ H Q I h
  obtain ⟨cl, hclos, hcl, hcl2⟩ := S.clos I.ok
  rw [eval_ListComp]
  refine wpAny_comprehension_free (use := none) rfl hs hclos S.kind S.names (thn (hi pins s σ H _ I h) fun v s1 h1 => thn h1 fun itv s2 h2 => ?_)
  obtain ⟨it, fp, tn, J, H2, e, I2, T, st2, f2, loop⟩ := h2
  subst e
  refine comp_core (RR := fun acc C => compPost (model X.prog X.w) X.A X.xe none (EP X pins σ Q) acc C) S hcalm hcl hcl2 (fun C => hg cl C s2 H2 fp pins) (fun C => ht cl C s2 H2 fp pins) (fun C => he cl C s2 H2 fp pins) I2 T st2 f2 loop ?_
  intro D C s' H' acc IX hDn ⟨m, hm⟩ hCn hC fin
  refine ⟨m, hm, fun h' hsb => ?_⟩
  obtain ⟨c0, c1, c2, c3, c4, c5⟩ := hC
  exact ⟨.ref D, _, IX.turned (t' := s'.toks) (fun b o hb e => hsb.2 b hb |>.trans e) c0 c1 c3 c4 c5, rfl, fin D hDn⟩
end
end MR
set_option Elab.async false
set_option linter.all false
set_option maxRecDepth 100000
set_option maxHeartbeats 4000000
namespace MR
open PySem PySem.Spec PyProof.Rows L2
noncomputable def testU (tt : Option FT) : FT := fun δ L => match tt with
  | none => some (true, L)
  | some f => f δ L
noncomputable def compU (it : IU) (g : FG) (tt : Option FT) (fe : FE) : Nat → Nat → List U → UE → UH → Option (List U × UH)
  | 0, _, _, _, _ => none
  | m + 1, k, acc, δ, L => match it.at k L with
    | none => none
    | some none => some (acc, L)
    | some (some u) => (g u δ L).bind fun p => (testU tt p.1 p.2).bind fun q => if q.1 = true then (fe p.1 q.2).bind fun r => if decide (acc.length < sizeLine) = true then compU it g tt fe m (k + 1) (acc ++ [r.1]) p.1 r.2 else none
      else compU it g tt fe m (k + 1) acc p.1 q.2
noncomputable def innerU (ix : List (Option Nat)) (δ : UE) : UE := ix.map fun o => o.bind fun i => (δ[i]?).join
noncomputable def fComp (ix : List (Option Nat)) (fi : FI) (g : FG) (tt : Option FT) (fe : FE) : FE := fun δ L => (fi δ L).bind fun p => (compU p.1 g tt fe (p.1.size p.2 + 1) 0 [] (innerU ix δ) p.2).map fun q => (.ref q.2.length, q.2 ++ [.lst q.1])
theorem RepS.inner {K : PySem.W.Frag} {H : Hp} {α : List Addr} {δ : UE} {σ : L2.St} (S : RepS K H α δ σ) (ix : List (Option Nat)) : RepS K H α (innerU ix δ) (MR.inner ix σ) := by
  refine ⟨by simp [innerU, MR.inner], fun j u e => ?_⟩
  unfold innerU at e
  unfold MR.inner
  rw [List.getElem?_map] at e ⊢
  cases hx : ix[j]? with
  | none => rw [hx] at e; simp at e
  | some o =>
    rw [hx] at e
    cases o with
    | none => simp at e
    | some i =>
      simp at e
      have : δ[i]? = some (some u) := by
        cases q : δ[i]? with
        | none => rw [q] at e; simp at e
        | some o => rw [q] at e; simp at e; rw [e]
      obtain ⟨v, hv, r⟩ := S.at_ i u this
      exact ⟨v, by simp [hv], r⟩
noncomputable def lTo (K : PySem.W.Frag) (tt : Option FT) : TT := match tt with
  | none => tYes
  | some f => lT K f
theorem lE_comp {K : PySem.W.Frag} {ix : List (Option Nat)} {fi : FI} {g : FG} {tt : Option FT} {fe : FE} : ∀ σ H Q, lE K (fComp ix fi g tt fe) σ H Q → tComp ix (lI K fi) (lG K g) (lTo K tt) (lE K fe) σ H Q := by
  rintro σ H Q ⟨α, δ, L, A, S, z, L3, e, q⟩
  obtain ⟨⟨it, L1⟩, e1, e⟩ := Option.bind_eq_some_iff.mp e
  obtain ⟨⟨ys, L2⟩, e2, e⟩ := Option.map_eq_some_iff.mp e
  cases e
  refine ⟨α, δ, L, A, S, it, L1, e1, fun J H1 α1 g1 A1 hJ => ?_⟩
  refine ⟨fun k m acc σ2 H2 => ∃ α2 δ2 M us, Gr H1 α1 H2 α2 ∧ Abs K H2 α2 M ∧ RepS K H2 α2 δ2 σ2 ∧ RepL K H2 α2 us acc ∧ compU it g tt fe m k us δ2 M = some (ys, L2), ⟨_, α1, _, L1, [], .refl _ _, A1, (S.mono g1).inner ix, .nil, e2⟩, ?_⟩
  rintro k m acc σ2 H2 ⟨α2, δ2, M, us, g2, A2, S2, r2, e3⟩
  cases m with
  | zero => cases e3
  | succ m =>
    obtain ⟨hgo, hstop⟩ := hJ H2 α2 M g2 A2 k
    unfold compU at e3
    cases hat : it.at k M with
    | none => rw [hat] at e3; cases e3
    | some o =>
      cases o with
      | none =>
        rw [hat] at e3
        cases e3
        refine .inl ⟨hstop hat, fun p hp => ?_⟩
        obtain ⟨g3, A3, r3⟩ := A2.lst r2 hp
        exact q _ _ _ (g1.trans (g2.trans g3)) A3 r3
      | some u =>
        rw [hat] at e3
        obtain ⟨go, yld⟩ := hgo u hat
        obtain ⟨⟨δ3, L3⟩, e4, e3⟩ := Option.bind_eq_some_iff.mp e3
        obtain ⟨⟨b, L4⟩, e5, e3⟩ := Option.bind_eq_some_iff.mp e3
        refine .inr ⟨go, fun x H3 y3 => ?_⟩
        obtain ⟨g3, A3, r3⟩ := yld x H3 y3
        refine ⟨α2, δ2, M, u, A3, S2.mono g3, r3, δ3, L3, e4, fun σ4 H4 α4 g4 A4 S4 => ?_⟩
        have after : ∀ H5 α5, Gr H4 α4 H5 α5 → Abs K H5 α5 L4 → (if b = true then lE K fe σ4 H5 (fun y H6 => acc.length < sizeLine ∧ ∃ m', m' < m + 1 ∧ ∃ α2 δ2 M us, Gr H1 α1 H6 α2 ∧ Abs K H6 α2 M ∧ RepS K H6 α2 δ2 σ4 ∧ RepL K H6 α2 us (acc ++ [y]) ∧ compU it g tt fe m' (k + 1) us δ2 M = some (ys, L2)) else ∃ m', m' < m + 1 ∧ ∃ α2 δ2 M us, Gr H1 α1 H5 α2 ∧ Abs K H5 α2 M ∧ RepS K H5 α2 δ2 σ4 ∧ RepL K H5 α2 us acc ∧ compU it g tt fe m' (k + 1) us δ2 M = some (ys, L2)) := fun H5 α5 g5 A5 => by
          have gA := g2.trans (g3.trans (g4.trans g5))
          have gB := g3.trans (g4.trans g5)
          cases b with
          | false => exact iteF ⟨m, Nat.lt_succ_self _, α5, δ3, L4, us, gA, A5, S4.mono g5, r2.mono gB, e3⟩
          | true =>
            obtain ⟨⟨w, L5⟩, e6, e3⟩ := Option.bind_eq_some_iff.mp e3
            simp only at e3
            split at e3
            · rename_i hlt
              refine iteT ⟨α5, δ3, L4, A5, S4.mono g5, w, L5, e6, fun y H6 α6 g6 A6 r6 => ?_⟩
              exact ⟨by rw [← r2.length]; exact of_decide_eq_true hlt, m, Nat.lt_succ_self _, α6, δ3, L5, us ++ [w], gA.trans g6, A6, (S4.mono g5).mono g6, (r2.mono (gB.trans g6)).append (.cons r6 .nil), e3⟩
            · cases e3
        cases tt with
        | none =>
          cases e5
          exact after H4 α4 (.refl _ _) A4
        | some f => exact ⟨α4, δ3, L3, A4, S4, b, L4, e5, fun H5 α5 g5 A5 => after H5 α5 g5 A5⟩
section
variable {X : Cx} {scope : Scope} {N' : List Str} {ix : List (Option Nat)} {elt tg iter c : Expr} {pos : Pos} {fi : FI} {g : FG} {ft : FT} {fe : FE}
theorem pf_comp (S : CompSc X scope N' ix) (hcalm : X.calm = true) (hi : PIF X tg iter fi) (hg : ∀ cl C s2 H2 fp pins, PGF (blk X scope cl C N' s2 H2 fp pins) tg g) (he : ∀ cl C s2 H2 fp pins, PEF (blk X scope cl C N' s2 H2 fp pins) elt fe)
    (hs : ∀ x, foldedSetIterable iter X.env x = pure x := by intro _; rfl) : PEF X (.ListComp elt [⟨tg, iter, [], 0⟩] scope pos) (fComp ix fi g none fe) :=
  PE.imp (pe_comp (g := lG X.K g) (te := lE X.K fe) (tt := tYes) S hcalm hi hg (fun _ _ _ _ _ _ => tests_nil) he hs) lE_comp
end
end MR
set_option Elab.async false
set_option linter.all false
set_option maxRecDepth 100000
set_option maxHeartbeats 4000000
namespace MR
open PySem PySem.Spec PyProof.Rows L2
section
variable {X : Cx} {pins : List (Addr × Obj)} {σ : L2.St} {H : Hp} {s : Shared} {h' : Heap}
end
section
variable {X : Cx} {elts : List Expr} {x1 : Nat} {tpos : Pos}
noncomputable def fEnum (g : FA) : FI := fun δ L => (g δ L).bind fun p => match p.1 with
  | [.ref n] => (seqAt p.2 n).map fun _ => (.enm n, p.2)
  | _ => none
noncomputable def fZip (g : FA) : FI := fun δ L => (g δ L).bind fun p => match p.1 with
  | [.ref n, .ref m] => (seqAt p.2 n).bind fun _ => (seqAt p.2 m).map fun _ => (.zip2 n m, p.2)
  | _ => none
end
end MR
set_option Elab.async false
set_option linter.all false
set_option maxRecDepth 100000
set_option maxHeartbeats 4000000
namespace MR
open PySem PySem.Spec PyProof.Rows L2
end MR
namespace HT
open PySem PySem.Spec PyProof.Rows
section
variable {prog : Program} {w : World} {A : Around} {E : Value → Shared → Prop} {s : Shared}
end
end HT
namespace MR
open PySem PySem.Spec PyProof.Rows L2
section
variable {X : Cx} {e st : Expr} {fa fs : FE} {p2 pos : Pos}
noncomputable def fRev (f : FE) : FE := fun δ L => (f δ L).bind fun p => match p.1 with | .ref n => (seqAt p.2 n).map fun l => (.ref p.2.length, p.2 ++ [.lst l.reverse]) | .tup l => some (.tup l.reverse, p.2) | _ => none
end
end MR
set_option Elab.async false
set_option linter.all false
set_option maxRecDepth 100000
set_option maxHeartbeats 4000000
namespace MR
open PySem PySem.Spec PyProof.Rows L2
structure ClsF (K : PySem.W.Frag) (C : Str) (Ca : Addr) : Prop where
  ns : PySem.W.nsIn K mainGlobals C = some (some (.ref Ca))
  cl : Cls K Ca
theorem ClsF.eq {K : PySem.W.Frag} {C : Str} {Ca Cb : Addr} (T : ClsF K C Ca) (h : PySem.W.nsIn K mainGlobals C = some (some (.ref Cb))) : Cb = Ca := by
  have := T.ns.symm.trans h
  simpa using this.symm
noncomputable def insAt (C : Str) (u : U) (L : UH) : Option (Nat × List (Str × U)) := match u with
  | .ref n => match L[n]? with
    | some (.ins C' fs) => if C' = C then some (n, fs) else none
    | _ => none
  | _ => none
theorem insAt_ok {C : Str} {u : U} {L : UH} {n : Nat} {fs : List (Str × U)} (h : insAt C u L = some (n, fs)) : u = .ref n ∧ L[n]? = some (.ins C fs) := by
  unfold insAt at h
  split at h
  · split at h
    · rename_i e
      split at h
      · rename_i hc
        cases h
        exact ⟨rfl, by rw [e, hc]⟩
      · cases h
    · cases h
  · cases h
theorem lookup_rep {K : PySem.W.Frag} {H : Hp} {α : List Addr} {f : Str} : ∀ {fs : List (Str × U)} {vs : List (Str × V)}, fs.map (·.1) = vs.map (·.1) → RepL K H α (fs.map (·.2)) (vs.map (·.2)) → (∀ u, fs.lookup f = some u → ∃ v, vs.lookup f = some v ∧ RepU K H α u v) ∧ (fs.lookup f = none → vs.lookup f = none)
  | [], [], _, _ => ⟨fun u h => by simp at h, fun _ => rfl⟩
  | [], _ :: _, h, _ => by simp at h
  | _ :: _, [], h, _ => by simp at h
  | (g, u) :: fs, (g', v) :: vs, h, r => by
    simp only [List.map_cons, List.cons.injEq] at h
    obtain ⟨h1, h2⟩ := h
    subst h1
    simp only [List.map_cons] at r
    unfold RepL at r
    obtain ⟨x, xr, e, r1, r2⟩ := r
    cases e
    obtain ⟨i1, i2⟩ := lookup_rep (f := f) h2 r2
    rw [List.lookup_cons, List.lookup_cons]
    cases hq : f == g with
    | true => exact ⟨fun w hw => by cases hw; exact ⟨v, rfl, r1⟩, fun hw => by cases hw⟩
    | false => exact ⟨i1, i2⟩
noncomputable def putU (f : Str) (v : U) : List (Str × U) → List (Str × U)
  | [] => [(f, v)]
  | (g, x) :: r => if g = f then (g, v) :: r else (g, x) :: putU f v r
theorem put_rep {K : PySem.W.Frag} {H : Hp} {α : List Addr} {f : Str} {u : U} {v : V} (ru : RepU K H α u v) : ∀ {fs : List (Str × U)} {vs : List (Str × V)}, fs.map (·.1) = vs.map (·.1) → RepL K H α (fs.map (·.2)) (vs.map (·.2)) → (putU f u fs).map (·.1) = (putF f v vs).map (·.1) ∧ RepL K H α ((putU f u fs).map (·.2)) ((putF f v vs).map (·.2))
  | [], [], _, _ => ⟨rfl, .cons ru .nil⟩
  | [], _ :: _, h, _ => by simp at h
  | _ :: _, [], h, _ => by simp at h
  | (g, x) :: fs, (g', y) :: vs, h, r => by
    simp only [List.map_cons, List.cons.injEq] at h
    obtain ⟨h1, h2⟩ := h
    subst h1
    simp only [List.map_cons] at r
    unfold RepL at r
    obtain ⟨z, zr, e, r1, r2⟩ := r
    cases e
    obtain ⟨i1, i2⟩ := put_rep (f := f) ru h2 r2
    unfold putU putF
    by_cases hq : g = f
    · simp only [hq, if_true, List.map_cons]
      exact ⟨by rw [h2], .cons ru r2⟩
    · simp only [hq, if_false, List.map_cons]
      exact ⟨by rw [i1], .cons r1 i2⟩
section
variable {X : Cx} {o e value : Expr} {es : List Expr} {f m C x : Str} {p pos pos' apos : Pos} {Ca fa : Addr} {fd : FuncData} {ps : List Str} {k n : Nat} {F : FN} {fe fo fv : FE} {g : FA}
noncomputable def fFld (C f : Str) (fe : FE) : FE := fun δ L => (fe δ L).bind fun p => (insAt C p.1 p.2).bind fun q => (q.2.lookup f).map fun v => (v, p.2)
theorem pf_fld (T : ClsF X.K C Ca) (hn : NoAttr X.K Ca f) (he : PEF X e fe) (hb : attributeBase e f X.env (eval e X.env) = eval e X.env := by rfl) : PEF X (.Attribute e f pos) (fFld C f fe) := by
  refine PE.imp (pe_fld he hb) ?_
  rintro σ H Q ⟨α, δ, L, A, S, z, L3, ee, q⟩
  obtain ⟨⟨u, L1⟩, e1, ee⟩ := Option.bind_eq_some_iff.mp ee
  obtain ⟨⟨n, fs⟩, e2, ee⟩ := Option.bind_eq_some_iff.mp ee
  obtain ⟨w, e3, ee⟩ := Option.map_eq_some_iff.mp ee
  cases ee
  obtain ⟨rfl, hL⟩ := insAt_ok e2
  refine ⟨α, δ, L, A, S, _, L1, e1, fun x H1 α1 g1 A1 r1 => ?_⟩
  obtain ⟨a, ea, Cb, dx, vs, hns, ha, hk, rr⟩ := A1.addr hL
  obtain ⟨a', ea', rfl⟩ := r1.ref_of A1
  rw [ea] at ea'; cases ea'
  have := T.eq hns
  subst this
  obtain ⟨v, hv, rv⟩ := (lookup_rep hk rr).1 _ e3
  exact ⟨a, Cb, dx, vs, v, rfl, ha, T.cl, hn, hv, q v H1 α1 g1 A1 rv⟩
noncomputable def fPutF (C f : Str) (fo fv : FE) : FS := fun δ L => (fv δ L).bind fun p => (fo δ p.2).bind fun q => (insAt C q.1 q.2).bind fun r => if r.2.length < 1000 then some (.nx δ, q.2.set r.1 (.ins C (putU f p.1 r.2))) else none
theorem psf_fld (T : ClsF X.K C Ca) (hn : NoAttr X.K Ca f) (ho : PEF X o fo) (hv : PEF X value fv) (hs : swapsWith value (some (.Attribute o f pos')) pos.line X.env = pure false := by rfl) : PSF X (.Assign [.Attribute o f pos'] value pos) (fPutF C f fo fv) := by
  refine PS.imp (ps_fld ho hv hs) ?_
  rintro D σ H ⟨α, δ, L, A, S, fl, L', ee, q⟩
  obtain ⟨⟨u, L1⟩, e1, ee⟩ := Option.bind_eq_some_iff.mp ee
  obtain ⟨⟨w, L2⟩, e2, ee⟩ := Option.bind_eq_some_iff.mp ee
  obtain ⟨⟨n, fs⟩, e3, ee⟩ := Option.bind_eq_some_iff.mp ee
  simp only at ee
  split at ee
  · rename_i hlen
    cases ee
    obtain ⟨rfl, hL⟩ := insAt_ok e3
    refine ⟨α, δ, L, A, S, u, L1, e1, fun y H1 α1 g1 A1 r1 => ⟨α1, δ, L1, A1, S.mono g1, _, L2, e2, fun x H2 α2 g2 A2 r2 => ?_⟩⟩
    obtain ⟨a, ea, Cb, dx, vs, hns, ha, hk, rr⟩ := A2.addr hL
    obtain ⟨a', ea', rfl⟩ := r2.ref_of A2
    rw [ea] at ea'; cases ea'
    have := T.eq hns
    subst this
    have hl : vs.length < 1000 := by
      have := congrArg List.length hk
      rw [List.length_map, List.length_map] at this
      omega
    have g3 : Gr H2 α2 (upd H2 a (.ins Cb dx (putF f y vs))) α2 := ⟨⟨[], by simp⟩, .write ha (by exact trivial) _⟩
    obtain ⟨k1, k2⟩ := put_rep (f := f) ((r1.mono g2)) hk rr
    obtain ⟨A3, _⟩ := A2.put (o := .ins Cb dx (putF f y vs)) (u := .ins C (putU f u fs)) ea hL rfl rfl ha (by exact trivial) ⟨Cb, dx, _, hns, upd_same, k1, k2.mono g3⟩
    exact ⟨a, Cb, dx, vs, rfl, ha, T.cl, hn, hl, q _ _ α2 ((g1.trans g2).trans g3) A3 (((S.mono g1).mono g2).mono g3)⟩
  · cases ee
noncomputable def fMethO (C m : Str) (k : Nat) (F : FN) (fo : FE) (g : FA) : FE := fun δ L => (fo δ L).bind fun p => (insAt C p.1 p.2).bind fun r => if r.2.lookup m = none then (g δ p.2).bind fun q => if q.1.length + 1 = k then F (.ref r.1 :: q.1) q.2 else none else none
theorem meth_imp {K : PySem.W.Frag} {E : XK} (T : ClsF K C Ca) : ∀ σ H Q, lE K (fMethO C m n F fo g) σ H Q → tMeth Ca m (spF K n F) [] E (lE K fo) (lA K g) σ H Q := by
  rintro σ H Q ⟨α, δ, L, A, S, z, L3, ee, q⟩
  obtain ⟨⟨u, L1⟩, e1, ee⟩ := Option.bind_eq_some_iff.mp ee
  obtain ⟨⟨j, fs⟩, e2, ee⟩ := Option.bind_eq_some_iff.mp ee
  simp only at ee
  split at ee
  · rename_i hno
    obtain ⟨⟨us, L2⟩, e3, ff⟩ := Option.bind_eq_some_iff.mp ee
    simp only at ff
    split at ff
    · rename_i hlen
      obtain ⟨rfl, hL⟩ := insAt_ok e2
      refine ⟨α, δ, L, A, S, _, L1, e1, fun x H1 α1 g1 A1 r1 => ?_⟩
      obtain ⟨a, ea, Cb, dx, vs, hns, ha, hk, rr⟩ := A1.addr hL
      obtain ⟨a', ea', hx⟩ := r1.ref_of A1
      rw [ea] at ea'; cases ea'
      have := T.eq hns
      subst this
      refine ⟨a, dx, vs, hx, ha, (lookup_rep hk rr).2 hno, α1, δ, L1, A1, S.mono g1, us, L2, e3, fun xs H2 α2 g2 A2 r2 => ?_⟩
      refine ⟨α2, L2, .ref j :: us, A2, ?_, by simpa using hlen, z, L3, ff, fun v H3 α3 g3 A3 r3 => q v H3 α3 (g1.trans (g2.trans g3)) A3 r3⟩
      rw [List.append_nil]
      exact .cons (r1.mono g2) r2
    · cases ff
  · cases ee
theorem pf_meth {pl : Sem Bool} (T : ClsF X.K C Ca) (hm : Meth X.K Ca m fa) (hF : FnOk X.prog X.w X.K X.mg X.base CX0 k fa fd ps (spF X.K n F)) (hr : Room k X.A) (hb : Binds X.K fd ps []) (ho : PEF X o fo) (ha : PAF X (e :: es) g)
    (hst : starEach (e :: es) X.env = (false, eval e X.env) :: starEach es X.env := by rfl) (hpl : (backTo pos (starEach es X.env)).any (·.1) = false := by rfl)
    (ht : eval (.Call (.Attribute o m apos) (e :: es) [] pos) X.env = (do
      let ov ← eval o X.env
      standAt apos.atName
      let (f, first) ← holding [ov] (getMethod ov m pl)
      callWith pos f first (backTo pos (starEach (e :: es) X.env)) (backToKw pos (keywordEach [] X.env))) := by rfl) :
    PEF X (.Call (.Attribute o m apos) (e :: es) [] pos) (fMethO C m n F fo g) :=
  PE.imp (pe_meth (pl := pl) ho T.cl hm hF hr hb .nil pass0 ha hst hpl ht) (meth_imp T)
theorem pf_meth0 {pl : Sem Bool} (T : ClsF X.K C Ca) (hm : Meth X.K Ca m fa) (hF : FnOk X.prog X.w X.K X.mg X.base CX0 k fa fd ps (spF X.K n F)) (hr : Room k X.A) (hb : Binds X.K fd ps []) (ho : PEF X o fo)
    (ht : eval (.Call (.Attribute o m apos) [] [] pos) X.env = (do
      let ov ← eval o X.env
      standAt apos.atName
      let (f, first) ← holding [ov] (getMethod ov m pl)
      callWith pos f first (backTo pos (starEach [] X.env)) (backToKw pos (keywordEach [] X.env))) := by rfl) :
    PEF X (.Call (.Attribute o m apos) [] [] pos) (fMethO C m n F fo fNil) :=
  PE.imp (pe_meth0 (pl := pl) ho T.cl hm hF hr hb .nil pass0 ht) (fun σ H Q h => by
    have h := meth_imp (E := E0) T σ H Q h
    obtain ⟨α, δ, L, A, S, u, L1, e1, h⟩ := h
    refine ⟨α, δ, L, A, S, u, L1, e1, fun x H1 α1 g1 A1 r1 => ?_⟩
    obtain ⟨a, dx, vs, hx, ha, hl, α2, δ2, L2, A2, S2, us, L3, e3, h3⟩ := h x H1 α1 g1 A1 r1
    cases e3
    exact ⟨a, dx, vs, hx, ha, hl, h3 [] H1 α2 (.refl _ _) A2 .nil⟩)
noncomputable def fMake (C : Str) (k : Nat) (F : FN) (g : FA) : FE := fun δ L => (g δ L).bind fun p => if p.1.length + 1 = k then (F (.ref p.2.length :: p.1) (p.2 ++ [.ins C []])).bind fun q => match q.1 with | .non => some (.ref p.2.length, q.2) | _ => none else none
theorem make_imp {K : PySem.W.Frag} {E : XK} (hns : PySem.W.nsIn K mainGlobals C = some (some (.ref Ca))) : ∀ σ H Q, lE K (fMake C n F g) σ H Q → tMake Ca (spF K n F) [] E (lA K g) σ H Q := by
  rintro σ H Q ⟨α, δ, L, A, S, z, L3, ee, q⟩
  obtain ⟨⟨us, L1⟩, e1, ee⟩ := Option.bind_eq_some_iff.mp ee
  simp only at ee
  split at ee
  · rename_i hlen
    obtain ⟨⟨w, L2⟩, e2, ee⟩ := Option.bind_eq_some_iff.mp ee
    cases w with
    | non =>
      cases ee
      refine ⟨α, δ, L, A, S, us, L1, e1, fun xs H1 α1 g1 A1 r1 x dx nx ndx nex => ?_⟩
      have ga : Gr H1 α1 (upd H1 dx (.own x)) α1 := ⟨⟨[], by simp⟩, .new ndx _⟩
      have Aa : Abs K (upd H1 dx (.own x)) α1 L1 := ⟨A1.len, A1.inj, fun i a o e1 e2 => (A1.rep i a o e1 e2).other ga (.inr fun u q => by rw [upd_ne (ne_of_none q ndx)]; exact q)⟩
      have nx' : (upd H1 dx (.own x)) x = none := by rw [upd_ne (Ne.symm nex)]; exact nx
      obtain ⟨Ab, gb⟩ := Aa.new (o := .ins Ca dx []) (u := .ins C []) nx' ⟨Ca, dx, [], hns, upd_same, rfl, .nil⟩
      have rx : RepU K (upd (upd H1 dx (.own x)) x (.ins Ca dx [])) (α1 ++ [x]) (.ref L1.length) (.ref x) := by
        unfold RepU
        exact ⟨x, by rw [← A1.len]; simp, rfl⟩
      refine ⟨α1 ++ [x], L1 ++ [.ins C []], .ref L1.length :: us, Ab, ?_, by simpa using hlen, .non, L2, e2, fun v H3 α3 g3 A3 r3 => ?_⟩
      · rw [List.append_nil]
        exact .cons rx ((r1.mono ga).mono gb)
      · have hv : v = .non := by unfold RepU at r3; exact r3
        exact ⟨hv, q _ H3 α3 (g1.trans (ga.trans (gb.trans g3))) A3 (rx.mono g3)⟩
    | _ => cases ee
  · cases ee
theorem pf_make (hns : PySem.W.nsIn X.K mainGlobals C = some (some (.ref Ca))) (M : Mk X.K Ca fa) (hF : FnOk X.prog X.w X.K X.mg X.base CX0 k fa fd ps (spF X.K n F)) (hr : Room (k + 1) X.A) (hg : Gl X C) (hm : X.mg C = some (.ref Ca)) (hb : Binds X.K fd ps [])
    (ha : PAF X (e :: es) g) (hdb : (C == ("__debug__" : Str)) = false := by decide) (he : starEach (e :: es) X.env = (false, eval e X.env) :: starEach es X.env := by rfl) (hpl : (backTo pos (starEach es X.env)).any (·.1) = false := by rfl) :
    PEF X (.Call (.Name C p) (e :: es) [] pos) (fMake C n F g) :=
  PE.imp (pe_make M hF hr hg hm hb .nil pass0 ha hdb he hpl) (make_imp hns)
end
end MR
set_option Elab.async false
set_option linter.all false
set_option maxRecDepth 100000
set_option maxHeartbeats 4000000
namespace ZT
open PySem PySem.Spec PyProof.Rows
open Sem (wp)
noncomputable def SqK (b : Bool) (h : Heap) (l : Addr) (xs : Array Value) : Prop := match b with
  | true => h.IsList l xs
  | false => h.IsTuple l xs
noncomputable def ItK (b : Bool) (h : Heap) (jt l : Addr) (k : Nat) : Prop := match b with
  | true => h.IsListIter jt l k
  | false => h.IsTupleIter jt l k
theorem SqK.keep {b : Bool} {h h' : Heap} {l : Addr} {xs : Array Value} (x : SqK b h l xs) (e : ∀ o, h.get? l = some o → h'.get? l = some o) : SqK b h' l xs := by
  cases b with
  | true => obtain ⟨o, ho, r⟩ := x; exact ⟨o, e _ ho, r⟩
  | false => obtain ⟨o, ho, r⟩ := x; exact ⟨o, e _ ho, r⟩
theorem ItK.keep {b : Bool} {h h' : Heap} {jt l : Addr} {k : Nat} (x : ItK b h jt l k) (e : ∀ o, h.get? jt = some o → h'.get? jt = some o) : ItK b h' jt l k := by
  cases b with
  | true => obtain ⟨o, ho, r⟩ := x; exact ⟨o, e _ ho, r⟩
  | false => obtain ⟨o, ho, r⟩ := x; exact ⟨o, e _ ho, r⟩
theorem ItK.lt {b : Bool} {h : Heap} {jt l : Addr} {k : Nat} (x : ItK b h jt l k) : jt < h.objs.size := by
  cases b with
  | true => obtain ⟨o, ho, r⟩ := x; exact Heap.lt_size ho
  | false => obtain ⟨o, ho, r⟩ := x; exact Heap.lt_size ho
theorem ItK.obj {b : Bool} {h : Heap} {jt l : Addr} {k : Nat} (x : ItK b h jt l k) : ∃ o, h.get? jt = some o ∧ o.data = .fields #[.ref l, .int k 0] := by
  cases b with
  | true => obtain ⟨o, ho, _, r⟩ := x; exact ⟨o, ho, r⟩
  | false => obtain ⟨o, ho, _, r⟩ := x; exact ⟨o, ho, r⟩
section
variable {prog : Program} {w : World} {A : Around} {E : Value → Shared → Prop} {s : Shared}
theorem SqK.but {b : Bool} {h h' : Heap} {l c : Addr} {xs : Array Value} (x : SqK b h l xs) (e : Heap.ExtBut c h h') (hne : l ≠ c) : SqK b h' l xs := x.keep fun o q => e l o hne q
theorem ItK.but {b : Bool} {h h' : Heap} {jt l c : Addr} {k : Nat} (x : ItK b h jt l k) (e : Heap.ExtBut c h h') (hne : jt ≠ c) : ItK b h' jt l k := x.keep fun o q => e jt o hne q
variable {b1 b2 : Bool} {z TI TO j1 j2 l1 l2 : Addr} {k1 k2 : Nat} {xs ys : Array Value} {a b : Value}
end
end ZT
set_option Elab.async false
set_option linter.all false
set_option maxRecDepth 100000
set_option maxHeartbeats 4000000
namespace ZT
open PySem PySem.Spec PyProof.Rows
open Sem (wp)
section
variable {prog : Program} {w : World} {A : Around} {E : Value → Shared → Prop} {s : Shared}
end
end ZT
namespace MR
open PySem PySem.Spec PyProof.Rows L2
noncomputable def SK (bb : Bool) (K : PySem.W.Frag) (H : Hp) (a : Addr) (xs : List V) : Prop := match bb with
  | true => SqL K H a xs
  | false => SqT K H a xs
theorem SK.at {X : Cx} {pins : List (Addr × Obj)} {σ : L2.St} {H : Hp} {s : Shared} {bb : Bool} {a : Addr} {xs : List V} (I : L2.Inv X pins σ H s) (h : SK bb X.K H a xs) : ∃ its : List Value, Vals xs its ∧ ZT.SqK bb s.heap a its.toArray ∧ xs.length ≤ sizeLine := by
  cases bb with
  | true => obtain ⟨its, r, p, z⟩ := I.list h; exact ⟨its, r, p.isList, z⟩
  | false => obtain ⟨its, r, p, z⟩ := I.tuple h; exact ⟨its, r, p, z⟩
theorem SK.inj {X : Cx} {pins : List (Addr × Obj)} {σ : L2.St} {H : Hp} {s : Shared} {bb : Bool} {a : Addr} {xs ys : List V} (I : L2.Inv X pins σ H s) (h : SK bb X.K H a xs) (h' : SK bb X.K H a ys) : xs = ys := by
  cases bb with
  | true => exact I.list_inj h h'
  | false => exact I.tuple_inj h h'
section
variable {X : Cx} {elts : List Expr} {x1 : Nat} {tpos : Pos}
end
end MR
set_option Elab.async false
set_option linter.all false
set_option maxRecDepth 100000
set_option maxHeartbeats 4000000
namespace MR
open PySem PySem.Spec PyProof.Rows PySem.Calls L2
section
variable {X : Cx}
end
end MR
set_option Elab.async false
set_option linter.all false
set_option maxRecDepth 100000
set_option maxHeartbeats 4000000
namespace MR
open PySem PySem.Spec PyProof.Rows PySem.Calls L2
section
variable {X : Cx}
end
end MR
set_option Elab.async false
set_option linter.all false
set_option maxRecDepth 100000
set_option maxHeartbeats 4000000
namespace ZT
open PySem PySem.Spec PyProof.Rows
open Sem (wp)
section
variable {prog : Program} {w : World} {A : Around} {E : Value → Shared → Prop} {s : Shared}
end
section
variable {prog : Program} {w : World} {A : Around} {E : Value → Shared → Prop} {s : Shared}
end
end ZT
namespace MR
open PySem PySem.Spec PyProof.Rows L2
section
variable {X : Cx} {elts : List Expr} {x1 : Nat} {tpos : Pos}
end
end MR
set_option Elab.async false
set_option linter.all false
set_option maxRecDepth 100000
set_option maxHeartbeats 4000000
namespace MR
open PySem PySem.Spec PyProof.Rows L2
structure CompScC (X : Cx) (scope : Scope) (N' : List Str) (ix : List (Option Nat)) : Prop where
  kind : scope.kind = .function
  own : (scope.names.all fun y => scope.names.lookup y.1 == some y.2) = true
  free : (scope.names.all fun y => y.2 != .free || (X.env.kindOf y.1 == some .cell || X.env.kindOf y.1 == some .free)) = true
  ixs : ((N'.zip ix).all fun p => match p.2 with | none => true | some i => (X.N[i]? == some p.1) && (scope.names.lookup p.1 == some .free)) = true
  len : N'.length = ix.length
section
variable {X : Cx} {scope : Scope} {N' : List Str} {ix : List (Option Nat)} {pins : List (Addr × Obj)} {σ : L2.St} {H2 : Hp} {s2 : Shared} {cl : List (Str × Addr)} {fp : List Addr}
theorem CompScC.lk (S : CompScC X scope N' ix) {x : Str} {k : NameKind} (h : (x, k) ∈ scope.names) : scope.names.lookup x = some k := by
  have := List.all_eq_true.mp S.own _ h
  simpa using this
theorem CompScC.names (S : CompScC X scope N' ix) : ∀ x ∈ scope.names, x.2 = .local → scope.names.lookup x.1 = some .local := fun x hx hl => by
  have := S.lk (x := x.1) (k := x.2) hx
  rw [hl] at this
  exact this
theorem CompScC.clos (S : CompScC X scope N' ix) (ok : X.Ok) : ∃ cl, closureFor scope X.env = pure cl ∧ (∀ x c, cl.lookup x = some c → X.env.cells.lookup x = some c) ∧ ∀ y ∈ scope.names, y.2 = .free → ∃ c, cl.lookup y.1 = some c := by
  refine closureFor_ex fun y hy hf => ?_
  have := List.all_eq_true.mp S.free y hy
  rw [hf] at this
  simp at this
  exact ok.has y.1 this
end
section
variable {X : Cx} {scope : Scope} {N' : List Str} {ix : List (Option Nat)} {elt tg iter c : Expr} {pos : Pos} {fi : FI} {g : FG} {ft : FT} {fe : FE}
end
end MR
set_option Elab.async false
set_option linter.all false
set_option maxRecDepth 100000
set_option maxHeartbeats 4000000
namespace MR
open PySem PySem.Spec PyProof.Rows L2
section
variable {X : Cx} {tg : Expr}
end
end MR
set_option Elab.async false
set_option linter.all false
set_option maxRecDepth 100000
set_option maxHeartbeats 4000000
namespace ZT
open PySem PySem.Spec PyProof.Rows
open Sem (wp)
section
variable {prog : Program} {w : World} {A : Around} {s : Shared} {R : Result → Shared → Prop}
variable {I : Addr} {fp wr : List Addr} {G : Array GenState → Array GenState → Prop} {n : Nat} {P : Nat → Value → Prop} {St : Nat → Shared → Prop}
end
section
variable {prog : Program} {w : World} {A : Around} {E : Value → Shared → Prop} {s : Shared}
variable {I : Addr} {fp wr : List Addr} {G : Array GenState → Array GenState → Prop} {n : Nat} {P : Nat → Value → Prop} {St : Nat → Shared → Prop}
end
end ZT
set_option Elab.async false
set_option linter.all false
set_option maxRecDepth 100000
set_option maxHeartbeats 4000000
namespace MR
open PySem PySem.Spec PyProof.Rows PySem.Calls L2
section
variable {X : Cx}
end
end MR
set_option Elab.async false
set_option linter.all false
set_option maxRecDepth 100000
set_option maxHeartbeats 4000000
namespace ZT
open PySem PySem.Spec PyProof.Rows HT
section
variable {prog : Program} {w : World} {A : Around} {E : Value → Shared → Prop} {s : Shared}
theorem getItem_tuple_whole {t sl : Addr} {items : Array Value} {vl vu : Value} {lo hi : Option Int} {Q : Value → Shared → Prop} (ht : IsTup s.heap t items) (hs : s.heap.IsSliceOf sl vl vu .none) (pl : IsPart vl lo) (pu : IsPart vu hi)
    (hw : sIx items.size 0 lo = 0 ∧ sIx items.size items.size hi = items.size) (h : Q (.ref t) s) : wpAny (model prog w) A (getItem (.ref t) (.ref sl)) Q E s := by
  obtain ⟨os, hos, hcs, hds⟩ := id hs
  have hTs : s.TypeIs (.ref sl) "slice" := ⟨os, hos, hcs⟩
  unfold getItem
  try with_reducible refine wpAny_holding ?_
  first | refine wpAny_bind (wpAny_pure ?_) | skip
  refine wpAny_bind (wpAny_sequenceKey ht.typeIs (by decide) ?_)
  refine wpAny_bind (wpAny_callSpecial?_slot (name := Str.ofString "__getitem__") ht.typeIs PyProof.Rows.slot_tuple_getitem
    (wpAny_call_entry PyProof.Rows.slot_tuple_getitem ht.typeIs entry_tuple_getitem ?_ (args_tuple_getitem _ _)))
  show wpAny _ _ (Builtin.Tuple.tupleItemsOf (.ref t) >>= _) _ _ s
  refine wpAny_bind (tupleItemsOf_ ht ?_)
  refine wpAny_bind (wpAny_typeOf hTs ?_)
  rw [if_pos (by decide)]
  refine wpAny_bind (sliceApplied_gen hs pl pu ?_)
  have hyes : ((((sIx items.size 0 lo : Nat) : Int) == 0 && (1 : Int) == 1 && (sIx items.size items.size hi - sIx items.size 0 lo) == items.size) = true) := by
    rw [hw.1, hw.2]; simp
  show wpAny _ _ (if (((sIx items.size 0 lo : Nat) : Int) == 0 && (1 : Int) == 1 && (sIx items.size items.size hi - sIx items.size 0 lo) == items.size) = true then _ else _) _ _ s
  rw [if_pos hyes]
  unfold Builtin.Tuple.tupleIsExact
  refine wpAny_bind (wpAny_bind (wpAny_typeOf ht.typeIs (wpAny_pure ?_)))
  rw [if_pos (by decide)]
  refine wpAny_bind (wpAny_rule ?_)
  first
    | exact wpAny_pure ⟨_, rfl, wpAny_pure h⟩
    | exact wpAny_bind (wpAny_pure ⟨_, rfl, wpAny_pure h⟩)
    | exact wpAny_bind (wpAny_pure (wpAny_pure ⟨_, rfl, wpAny_pure h⟩))
    | trace_state
end
end ZT
namespace MR
open PySem PySem.Spec PyProof.Rows PySem.Calls L2
section
variable {X : Cx} {tg : Expr}
noncomputable def rSlW (K : PySem.W.Frag) : V → Option Int → Option Int → Hp → VK → Prop := fun x lo hi H Q => ∃ a xs, x = .ref a ∧ SqT K H a xs ∧ (HT.sIx xs.length 0 lo = 0 ∧ HT.sIx xs.length xs.length hi = xs.length) ∧ Q (.ref a) H
theorem sl_whole : SlR X (rSlW X.K) := by
  intro pins s σ H x v vl vu lo hi sl Q I rx hs pl pu h
  obtain ⟨a, xs, rfl, hx, hw, q⟩ := h
  cases rx
  obtain ⟨its, r, ht, hz⟩ := I.tuple hx
  have hlen : its.toArray.size = xs.length := by rw [List.size_toArray]; exact r.length.symm
  refine ⟨"tuple", _, PyProof.Rows.slot_tuple_getitem.lookup, ht.typeIs, ?_⟩
  exact ZT.getItem_tuple_whole ht hs pl pu (by rw [hlen]; exact hw) ⟨.ref a, H, I, rfl, q⟩
noncomputable def semSlA : SS := fun u lo hi L => match u with
  | .tup l => if HT.sIx l.length 0 lo = 0 ∧ HT.sIx l.length l.length hi = l.length then some (.tup l, L) else some (.tup (cutU l lo hi), L)
  | .ref n => (seqAt L n).map fun l => (.ref L.length, L ++ [.lst (cutU l lo hi)])
  | _ => none
theorem sl_allA : SlR X (fun x lo hi H Q => rSlA X.K x lo hi H Q ∨ rSlW X.K x lo hi H Q) := sl_all.or sl_whole
theorem sem_slA {K : PySem.W.Frag} : SemSl K (fun x lo hi H Q => rSlA K x lo hi H Q ∨ rSlW K x lo hi H Q) semSlA := by
  intro H α L u x lo hi z L' Q A ru e q
  cases u with
  | tup l =>
    by_cases hw : HT.sIx l.length 0 lo = 0 ∧ HT.sIx l.length l.length hi = l.length
    · unfold semSlA at e
      simp only at e
      rw [if_pos hw] at e
      cases e
      have ru' := ru
      unfold RepU at ru
      obtain ⟨a, ys, rfl, sq, r2⟩ := ru
      exact .inr ⟨a, ys, rfl, sq, by rw [← r2.length]; exact hw, q _ H α (.refl _ _) A ru'⟩
    · refine .inl (sem_sl H α L (.tup l) x lo hi z L' Q A ru ?_ q)
      unfold semSlA at e
      unfold semSl
      simp only at e ⊢
      rw [if_neg hw] at e ⊢
      exact e
  | ref n => exact .inl (sem_sl H α L (.ref n) x lo hi z L' Q A ru e q)
  | _ => cases e
end
end MR
set_option Elab.async false
set_option linter.all false
set_option maxRecDepth 100000
set_option maxHeartbeats 4000000
namespace MR
open PySem PySem.Spec PyProof.Rows PySem.Calls L2
section
variable {X : Cx}
noncomputable def rCatE (K : PySem.W.Frag) : R2 := fun x y H Q => ∃ a b ys, x = .ref a ∧ y = .ref b ∧ SqT K H a [] ∧ SqT K H b ys ∧ Q (.ref b) H
theorem op_catE : OpR X (binaryOp .Add) (rCatE X.K) := by
  intro pins s σ H x y v u Q I rx ry h
  obtain ⟨a, b, ys, rfl, rfl, ha, hb, q⟩ := h
  cases rx
  cases ry
  obtain ⟨its, r1, p1, _⟩ := I.tuple ha
  obtain ⟨its2, r2, p2, _⟩ := I.tuple hb
  have he : its = [] := r1.nil_iff.mpr rfl
  obtain ⟨⟨cls, dd, data, sl⟩, ho, hc, n, hd⟩ := id p1
  obtain ⟨⟨cls2, dd2, data2, sl2⟩, ho2, hc2, n2, hd2⟩ := id p2
  simp only at hc hd hc2 hd2
  subst hc hd hc2 hd2
  exact concat_meets ⟨_, ho, rfl⟩ ⟨_, ho2, rfl⟩ noFill_tuple_add seq_tuple_add PySem.F.slot_tuple_add PySem.F.entry_tuple_add (PySem.F.args_tuple_add_2 _ _)
    (tuple_addW0 a b its.toArray its2.toArray n n2 dd dd2 sl sl2 (by simp [he])) ⟨ho, ho2, ⟨.ref b, H, I, rfl, q⟩⟩
end
noncomputable def semAddA : S2 := fun u w L => match u, w with
  | .tup [], .tup b => some (.tup b, L)
  | u, w => semAdd u w L
noncomputable def rAddE (K : PySem.W.Frag) : R2 := fun x y H Q => rAddA K x y H Q ∨ rCatE K x y H Q
theorem op_addE {X : Cx} : OpR X (binaryOp .Add) (rAddE X.K) := op_addA.or op_catE
theorem sem_addA {K : PySem.W.Frag} : SemR2 K (rAddE K) semAddA := by
  intro H α L u w x y z L' Q A ru rw e q
  unfold semAddA at e
  split at e
  · cases e
    have rw' := rw
    unfold RepU at ru rw
    obtain ⟨a, xs, rfl, sq, r2⟩ := ru
    obtain ⟨b, ys, rfl, sq', r2'⟩ := rw
    unfold RepL at r2
    subst r2
    exact .inr ⟨a, b, ys, rfl, rfl, sq, sq', q _ H α (.refl _ _) A rw'⟩
  · exact .inl (sem_add H α L _ _ x y z L' Q A ru rw e q)
@[simp] theorem semAddA_int (i j : Int) (L : UH) : semAddA (.int i) (.int j) L = some (.int (i + j), L) := rfl
end MR
set_option Elab.async false
set_option linter.all false
set_option maxRecDepth 100000
set_option maxHeartbeats 4000000
namespace MR
open PySem PyProof.Rows L2
section
variable {X : Cx}
end
end MR
namespace MR
open PySem PySem.W PyProof.Rows L2
end MR
namespace Att
open PySem PySem.W PySem.Calls PyProof.Rows L2 MR
end Att
set_option Elab.async false
set_option linter.all false
set_option maxRecDepth 100000
set_option maxHeartbeats 4000000
namespace MR
open PySem PyProof.Rows L2
noncomputable def g0 (us ws : List Value) : List Value := match us with | [] => ws | _ => []
section
variable {X : Cx} {k : Nat} {f : Addr} {fd : FuncData} {p : Str} {ps : List Str} {x : Str} {pp pos kpos : Pos} {e : Expr} {kws : List Keyword} {nm : Option Str}
theorem PK.imp {t t' : TA} (h : PK X kws t) (hi : ∀ σ H Q, t' σ H Q → t σ H Q) : PK X kws t' := fun pos pins s σ H Q I q => h pos pins s σ H Q I (hi σ H Q q)
end
end MR
set_option Elab.async false
set_option linter.all false
set_option maxRecDepth 100000
set_option maxHeartbeats 4000000
namespace MR
open PySem PySem.Spec PyProof.Rows PySem.Calls L2
section
variable {X : Cx}
end
end MR
set_option Elab.async false
set_option linter.all false
set_option maxRecDepth 100000
set_option maxHeartbeats 4000000
namespace MR
open PySem PySem.Spec PyProof.Rows PySem.Calls L2
section
variable {X : Cx}
end
end MR
set_option Elab.async false
set_option linter.all false
set_option maxRecDepth 100000
set_option maxHeartbeats 4000000
namespace MR
open PySem PyProof.Rows L2
theorem RepL.init {K : PySem.W.Frag} {H : Hp} {α : List Addr} : ∀ {us : List U} {xs : List V}, RepL K H α us xs → RepL K H α us.dropLast xs.dropLast
  | [], xs, r => by unfold RepL at r; subst r; exact .nil
  | [u], xs, r => by
    unfold RepL at r
    obtain ⟨x, xr, rfl, rx, r⟩ := r
    unfold RepL at r
    subst r
    exact .nil
  | u :: w :: us, xs, r => by
    unfold RepL at r
    obtain ⟨x, xr, rfl, rx, r⟩ := r
    have r' := r
    unfold RepL at r'
    obtain ⟨y, yr, rfl, ry, _⟩ := r'
    exact .cons rx (RepL.init r)
end MR
set_option Elab.async false
set_option linter.all false
set_option maxRecDepth 100000
set_option maxHeartbeats 4000000
namespace MR
open PySem PyProof.Rows L2
noncomputable def valU (kvs : List (Key × U)) (k : Key) : Option U := (kvs.find? fun kv => decide (kv.1 = k)).map (·.2)
noncomputable def putD (kvs : List (Key × U)) (k : Key) (v : U) : List (Key × U) :=
  if (kvs.any fun kv => decide (kv.1 = k)) = true then kvs.map (fun kv => if kv.1 = k then (kv.1, v) else kv) else kvs ++ [(k, v)]
section
variable {K : PySem.W.Frag} {H : Hp} {α : List Addr}
noncomputable def RepKV (K : PySem.W.Frag) (H : Hp) (α : List Addr) (kvs : List (Key × U)) (vs : List (Key × V)) : Prop := kvs.map (·.1) = vs.map (·.1) ∧ RepL K H α (kvs.map (·.2)) (vs.map (·.2))
theorem RepKV.nil : RepKV K H α [] [] := ⟨rfl, .nil⟩
theorem RepKV.cons {kv : Key × U} {kvs : List (Key × U)} {vs : List (Key × V)} (h : RepKV K H α (kv :: kvs) vs) : ∃ x vs', vs = (kv.1, x) :: vs' ∧ RepU K H α kv.2 x ∧ RepKV K H α kvs vs' := by
  obtain ⟨h1, h2⟩ := h
  cases vs with
  | nil => simp at h1
  | cons w vs' =>
    simp only [List.map_cons, List.cons.injEq] at h1
    rw [List.map_cons, List.map_cons] at h2
    unfold RepL at h2
    obtain ⟨x, xr, hx, rx, r⟩ := h2
    injection hx with e1 e2
    subst e1
    refine ⟨w.2, vs', by rw [h1.1], rx, h1.2, ?_⟩
    rw [e2]; exact r
theorem RepKV.mk {k : Key} {u : U} {x : V} {kvs : List (Key × U)} {vs : List (Key × V)} (r : RepU K H α u x) (h : RepKV K H α kvs vs) : RepKV K H α ((k, u) :: kvs) ((k, x) :: vs) :=
  ⟨by simp [h.1], by rw [List.map_cons, List.map_cons]; exact .cons r h.2⟩
theorem RepKV.val {k : Key} {u : U} : ∀ {kvs : List (Key × U)} {vs : List (Key × V)}, RepKV K H α kvs vs → valU kvs k = some u → ∃ x, valV vs k = some x ∧ RepU K H α u x
  | [], vs, _, e => by simp [valU] at e
  | kv :: kvs, vs, r, e => by
    obtain ⟨x, vs', rfl, rx, r'⟩ := r.cons
    unfold valU at e
    unfold valV
    rw [List.find?_cons] at e ⊢
    by_cases h : kv.1 = k
    · simp only [h, decide_true, Option.map_some] at e ⊢
      cases e
      exact ⟨x, rfl, rx⟩
    · simp only [h, decide_false] at e ⊢
      exact RepKV.val r' e
theorem RepKV.any {k : Key} : ∀ {kvs : List (Key × U)} {vs : List (Key × V)}, RepKV K H α kvs vs → (kvs.any fun kv => decide (kv.1 = k)) = (vs.any fun kv => decide (kv.1 = k))
  | [], vs, r => by
    obtain ⟨h1, _⟩ := r
    cases vs with
    | nil => rfl
    | cons _ _ => simp at h1
  | kv :: kvs, vs, r => by
    obtain ⟨x, vs', rfl, rx, r'⟩ := r.cons
    rw [List.any_cons, List.any_cons, RepKV.any r']
theorem RepKV.len {kvs : List (Key × U)} {vs : List (Key × V)} (r : RepKV K H α kvs vs) : kvs.length = vs.length := by
  have := congrArg List.length r.1
  simpa using this
theorem RepKV.upd {k : Key} {u : U} {x : V} (ru : RepU K H α u x) : ∀ {kvs : List (Key × U)} {vs : List (Key × V)}, RepKV K H α kvs vs → RepKV K H α (kvs.map fun kv => if kv.1 = k then (kv.1, u) else kv) (vs.map fun kv => if kv.1 = k then (kv.1, x) else kv)
  | [], vs, r => by
    obtain ⟨h1, _⟩ := r
    cases vs with
    | nil => exact .nil
    | cons _ _ => simp at h1
  | kv :: kvs, vs, r => by
    obtain ⟨y, vs', rfl, ry, r'⟩ := r.cons
    rw [List.map_cons, List.map_cons]
    by_cases h : kv.1 = k
    · rw [if_pos h, if_pos h]
      exact .mk ru (RepKV.upd ru r')
    · rw [if_neg h, if_neg h]
      exact .mk ry (RepKV.upd ru r')
theorem RepKV.add {k : Key} {u : U} {x : V} (ru : RepU K H α u x) : ∀ {kvs : List (Key × U)} {vs : List (Key × V)}, RepKV K H α kvs vs → RepKV K H α (kvs ++ [(k, u)]) (vs ++ [(k, x)])
  | [], vs, r => by
    obtain ⟨h1, _⟩ := r
    cases vs with
    | nil => exact .mk ru .nil
    | cons _ _ => simp at h1
  | kv :: kvs, vs, r => by
    obtain ⟨y, vs', rfl, ry, r'⟩ := r.cons
    exact .mk ry (RepKV.add ru r')
theorem RepKV.put {k : Key} {u : U} {x : V} {kvs : List (Key × U)} {vs : List (Key × V)} (ru : RepU K H α u x) (r : RepKV K H α kvs vs) : RepKV K H α (putD kvs k u) (putK vs k x) := by
  unfold putD putK
  rw [r.any]
  split
  · exact r.upd ru
  · exact r.add ru
theorem RepKV.mono {H' : Hp} {α' : List Addr} {kvs : List (Key × U)} {vs : List (Key × V)} (r : RepKV K H α kvs vs) (g : Gr H α H' α') : RepKV K H' α' kvs vs := ⟨r.1, r.2.mono g⟩
end
section
variable {X : Cx} {o i value : Expr} {pos pos' : Pos} {fo fi fv : FE}
end
end MR
set_option Elab.async false
set_option linter.all false
set_option maxRecDepth 100000
set_option maxHeartbeats 4000000
namespace MR
open PySem PyProof.Rows L2
theorem all0 {β : Type} {P : List β → Prop} (h : P []) (us : List β) (hl : us.length = 0) : P us := by
  cases us with
  | nil => exact h
  | cons => cases hl
theorem allS {β : Type} {n : Nat} {P : List β → Prop} (h : ∀ (a : β) (us : List β), us.length = n → P (a :: us)) (us : List β) (hl : us.length = n + 1) : P us := by
  cases us with
  | nil => cases hl
  | cons a us => exact h a us (Nat.succ.inj hl)
theorem all1 {β : Type} {P : List β → Prop} (h : ∀ a, P [a]) : ∀ us : List β, us.length = 1 → P us := allS fun a => all0 (h a)
theorem all2 {β : Type} {P : List β → Prop} (h : ∀ a b, P [a, b]) : ∀ us : List β, us.length = 2 → P us := allS fun a => all1 (h a)
theorem all3 {β : Type} {P : List β → Prop} (h : ∀ a b c, P [a, b, c]) : ∀ us : List β, us.length = 3 → P us := allS fun a => all2 (h a)
theorem all4 {β : Type} {P : List β → Prop} (h : ∀ a b c d, P [a, b, c, d]) : ∀ us : List β, us.length = 4 → P us := allS fun a => all3 (h a)
section
variable {X : Cx} {elts : List Expr} {x1 : Nat} {tpos : Pos}
end
end MR
set_option Elab.async false
set_option linter.all false
set_option maxRecDepth 100000
set_option maxHeartbeats 4000000
namespace MR
open PySem PySem.Spec PyProof.Rows PySem.Calls L2
section
variable {X : Cx}
end
end MR
namespace MR
open PySem PySem.Spec PyProof.Rows PySem.Calls L2
end MR
set_option Elab.async false
set_option linter.all false
set_option maxRecDepth 100000
set_option maxHeartbeats 4000000
namespace MR
open PySem PySem.Spec PyProof.Rows PySem.Calls L2
noncomputable def fmtOk (n : Int) : Bool := decide (-100000000000000000000 ≤ n) && decide (n ≤ 100000000000000000000)
theorem fmt_log {n : Int} (h : fmtOk n = true) : n.natAbs.log2 < 1920 := by
  unfold fmtOk at h
  simp only [Bool.and_eq_true, decide_eq_true_eq] at h
  have h1 : n.natAbs ≤ 100000000000000000000 := by omega
  by_cases h0 : n.natAbs = 0
  · rw [h0]; decide
  · rw [Nat.log2_lt h0]
    refine Nat.lt_of_le_of_lt h1 ?_
    have : (100000000000000000000 : Nat) < 2 ^ 100 := by decide
    exact Nat.lt_of_lt_of_le this (Nat.pow_le_pow_right (by decide) (by decide))
noncomputable def numT (n : Int) : Str := Str.ofString (toString n)
noncomputable def tFmt (t : TE) : TE := fun σ H Q => t σ H fun v H1 => (∃ x, v = .str x ∧ x.length ≤ sizeLine ∧ Q (.str x) H1) ∨ ∃ n, v = .int n ∧ fmtOk n = true ∧ Q (.str (numT n)) H1
section
variable {X : Cx}
theorem pe_fmt {e : Expr} {t : TE} {pos : Pos} (h : PE X e t) : PE X (.FormattedValue e (-1) none pos) (tFmt t) := by
  intro pins s σ H Q I q
  refine FormattedValue_plain (thn (h pins s σ H _ I q) fun v s1 ⟨x, H1, I1, r1, q1⟩ => ?_)
  rcases q1 with ⟨a, rfl, hl, q⟩ | ⟨n, rfl, hn, q⟩
  · obtain ⟨t', rfl⟩ := r1
    exact formatField_str (fun t'' tk => ⟨.str a, H1, I1.tok tk, ⟨_, rfl⟩, q⟩) hl
  · obtain ⟨t', rfl⟩ := r1
    exact formatField_int_small (fmt_log hn) ⟨.str (numT n), H1, I1.tok _, ⟨_, rfl⟩, q⟩
noncomputable def tJ : Str → List TE → L2.St → Hp → VK → Prop
  | out, [], _, H, Q => out.length ≤ sizeLine ∧ Q (.str out) H
  | out, t :: r, σ, H, Q => t σ H fun v H1 => ∃ x, v = .str x ∧ (out ++ x).length ≤ sizeLine ∧ tJ (out ++ x) r σ H1 Q
inductive PEs (X : Cx) : List Expr → List TE → Prop
  | nil : PEs X [] []
  | cons {e : Expr} {t : TE} {es : List Expr} {ts : List TE} (h : PE X e t) (r : PEs X es ts) : PEs X (e :: es) (t :: ts)
theorem join_walk {es : List Expr} {ts : List TE} (h : PEs X es ts) : ∀ (pins : List (Addr × Obj)) (s : Shared) (σ : L2.St) (H : Hp) (Q : VK) (out : Str), Inv X pins σ H s →
    tJ out ts σ H Q → wpAny (model X.prog X.w) X.A (joinParts out (evalEach es X.env)) (EP X pins σ Q) X.xe s := by
  induction h with
  | nil =>
    intro pins s σ H Q out I q
    obtain ⟨hl, q⟩ := q
    exact joinParts_nil ⟨.str out, H, I.tok _, ⟨_, rfl⟩, q⟩ hl
  | @cons e t es ts h r ih =>
    intro pins s σ H Q out I q
    show wpAny _ _ (joinParts out (eval e X.env :: evalEach es X.env)) _ _ _
    refine joinParts_cons (thn (h pins s σ H _ I q) fun v s1 ⟨x, H1, I1, r1, y, ey, hl, q1⟩ => ?_)
    subst ey
    obtain ⟨t', rfl⟩ := r1
    exact ⟨hl, ih pins s1 σ H1 Q (out ++ y) I1 q1⟩
theorem pe_joined {v1 v2 : Expr} {es : List Expr} {ts : List TE} {pos : Pos} (h : PEs X (v1 :: v2 :: es) ts) : PE X (.JoinedStr (v1 :: v2 :: es) pos) (tJ Str.empty ts) := fun pins s σ H Q I q =>
  JoinedStr_many (join_walk h pins s σ H Q Str.empty I q)
end
noncomputable def fFmt (f : FE) : FE := fun δ L => (f δ L).bind fun p => match p.1 with
  | .str x => if small x.length = true then some (.str x, p.2) else none
  | .int n => if fmtOk n = true then some (.str (numT n), p.2) else none
  | _ => none
theorem pf_fmt {X : Cx} {e : Expr} {f : FE} {pos : Pos} (h : PEF X e f) : PEF X (.FormattedValue e (-1) none pos) (fFmt f) := by
  refine PE.imp (pe_fmt h) ?_
  rintro σ H Q ⟨α, δ, L, A, S, z, L3, e, q⟩
  obtain ⟨⟨u, L1⟩, e1, e⟩ := Option.bind_eq_some_iff.mp e
  refine ⟨α, δ, L, A, S, u, L1, e1, fun x H1 α1 g1 A1 r1 => ?_⟩
  simp only at e
  split at e
  · split at e
    · rename_i hc
      cases e
      unfold RepU at r1
      subst r1
      exact .inl ⟨_, rfl, small_le hc, q _ _ _ g1 A1 (by unfold RepU; rfl)⟩
    · cases e
  · split at e
    · rename_i hc
      cases e
      unfold RepU at r1
      subst r1
      exact .inr ⟨_, rfl, hc, q _ _ _ g1 A1 (by unfold RepU; rfl)⟩
    · cases e
  · cases e
noncomputable def goJ : Str → List FE → UE → UH → Option (U × UH)
  | out, [], _, L => some (.str out, L)
  | out, f :: r, δ, L => (f δ L).bind fun p => match p.1 with
    | .str x => if small (out ++ x).length = true then goJ (out ++ x) r δ p.2 else none
    | _ => none
noncomputable def fJoined (fs : List FE) : FE := fun δ L => goJ Str.empty fs δ L
inductive PFs (X : Cx) : List Expr → List FE → Prop
  | nil : PFs X [] []
  | cons {e : Expr} {f : FE} {es : List Expr} {fs : List FE} (h : PEF X e f) (r : PFs X es fs) : PFs X (e :: es) (f :: fs)
theorem PFs.pes {X : Cx} {es : List Expr} {fs : List FE} (h : PFs X es fs) : PEs X es (fs.map (lE X.K)) := by
  induction h with
  | nil => exact .nil
  | cons h r ih => exact .cons h ih
theorem goJ_ok {K : PySem.W.Frag} : ∀ (fs : List FE) (out : Str) (σ : L2.St) (H : Hp) (Q : VK) (α : List Addr) (δ : UE) (L : UH) (z : U) (L3 : UH), Abs K H α L → RepS K H α δ σ → goJ out fs δ L = some (z, L3) → out.length ≤ sizeLine →
    (∀ v H' α', Gr H α H' α' → Abs K H' α' L3 → RepU K H' α' z v → Q v H') → tJ out (fs.map (lE K)) σ H Q
  | [], out, σ, H, Q, α, δ, L, z, L3, A, S, e, hl, q => by
    cases e
    exact ⟨hl, q _ H α (.refl _ _) A (by unfold RepU; rfl)⟩
  | f :: r, out, σ, H, Q, α, δ, L, z, L3, A, S, e, hl, q => by
    unfold goJ at e
    obtain ⟨⟨u, L1⟩, e1, e⟩ := Option.bind_eq_some_iff.mp e
    refine ⟨α, δ, L, A, S, u, L1, e1, fun x H1 α1 g1 A1 r1 => ?_⟩
    simp only at e
    split at e
    · split at e
      · rename_i x' hc
        unfold RepU at r1
        subst r1
        exact ⟨x', rfl, small_le hc, goJ_ok r (out ++ x') σ H1 Q α1 δ L1 z L3 A1 (S.mono g1) e (small_le hc) fun v H' α' g A' r' => q v H' α' (g1.trans g) A' r'⟩
      · cases e
    · cases e
theorem pf_joined {X : Cx} {v1 v2 : Expr} {es : List Expr} {fs : List FE} {pos : Pos} (h : PFs X (v1 :: v2 :: es) fs) : PEF X (.JoinedStr (v1 :: v2 :: es) pos) (fJoined fs) := by
  refine PE.imp (pe_joined h.pes) ?_
  rintro σ H Q ⟨α, δ, L, A, S, z, L3, e, q⟩
  exact goJ_ok fs Str.empty σ H Q α δ L z L3 A S e (Nat.zero_le _) q
end MR
set_option Elab.async false
set_option linter.all false
set_option maxRecDepth 100000
set_option maxHeartbeats 1000000
namespace MR
open PySem PySem.Spec PyProof.Rows L2
noncomputable def XObj (e Ca : Addr) (dd : Option Addr) (h : Heap) (vs : Array Value) : Prop := ∃ o : Obj, h.get? e = some o ∧ o.cls = .ref Ca ∧ o.dict = dd ∧ o.data = .fields vs ∧ 1 < vs.size ∧ o.slots = #[]
noncomputable def Tra (N : Nat) (e Ca : Addr) (dd : Option Addr) (fl : Value) (h : Heap) : Prop := ∃ vs T oT ts, XObj e Ca dd h vs ∧ vs[1]? = some (.ref T) ∧ N ≤ T ∧ T ≠ e ∧ h.get? T = some oT ∧ oT.data = .fields ts ∧ ts[3]? = some fl
noncomputable def Raw (e Ca : Addr) (dd : Option Addr) (h : Heap) : Prop := ∃ vs, XObj e Ca dd h vs ∧ vs[1]? = some .none
noncomputable def Fly (N : Nat) (e Ca : Addr) (dd : Option Addr) (h : Heap) : Prop := N ≤ h.objs.size ∧ (Raw e Ca dd h ∨ Tra N e Ca dd .none h)
theorem XObj.excIs {e Ca : Addr} {dd : Option Addr} {h : Heap} {vs : Array Value} (x : XObj e Ca dd h vs) : ExcIs e Ca dd false h := by
  obtain ⟨o, h1, h2, h3, h4, h5, h6⟩ := x
  exact ⟨o, vs, h1, h2, h3, h4, h5, h6, fun z => nomatch z⟩
theorem Fly.excIs {N : Nat} {e Ca : Addr} {dd : Option Addr} {h : Heap} (x : Fly N e Ca dd h) : ExcIs e Ca dd false h := by
  rcases x.2 with ⟨vs, q, _⟩ | ⟨vs, _, _, _, q, _⟩
  · exact q.excIs
  · exact q.excIs
theorem Tra.excIs {N : Nat} {e Ca : Addr} {dd : Option Addr} {fl : Value} {h : Heap} (x : Tra N e Ca dd fl h) : ExcIs e Ca dd false h := by
  obtain ⟨vs, _, _, _, q, _⟩ := x
  exact q.excIs
structure Stp (N : Nat) (fs : List Addr) (e : Addr) (h h' : Heap) : Prop where
  keep : ∀ b o, b < N → b ∉ fs → b ≠ e → h.get? b = some o → h'.get? b = some o
  slot : ∀ b o, b ∈ fs → h.get? b = some o → ∃ sl, h'.get? b = some { o with slots := sl }
  all : ∀ b o, h.get? b = some o → ∃ o', h'.get? b = some o'
  sz : h.objs.size ≤ h'.objs.size
theorem Stp.trans {N : Nat} {fs : List Addr} {e : Addr} {h h1 h2 : Heap} (x : Stp N fs e h h1) (y : Stp N fs e h1 h2) : Stp N fs e h h2 :=
  ⟨fun b o l n z q => y.keep b o l n z (x.keep b o l n z q), fun b o m q => let ⟨_, q1⟩ := x.slot b o m q; let ⟨sl, q2⟩ := y.slot b _ m q1; ⟨sl, q2⟩, fun b o q => let ⟨o1, q1⟩ := x.all b o q; y.all b o1 q1, Nat.le_trans x.sz y.sz⟩
theorem upd_there {h : Heap} {a b : Addr} {f : Obj → Obj} {o oa : Obj} (q : h.get? b = some o) (qa : h.get? a = some oa) (hf : (f oa).isFreed = false) : ∃ o', (h.update a f).get? b = some o' := by
  by_cases z : a = b
  · subst z; exact ⟨_, Heap.get?_update_self f qa hf⟩
  · exact ⟨o, (Heap.get?_update_other h f z).trans q⟩
section
variable {M : Model} {A : Around} {E : Value → Shared → Prop} {s : Shared} {base : Heap} {N : Nat} {env : PySem.Env} {outer : List PySem.Env} {L e Ca : Addr} {dd : Option Addr}
theorem xobj_map {o : Obj} {vs : Array Value} {h : Heap} {k : Nat} {x : Value} (hd : o.data = .fields vs) (hq : (o.cls = .ref Ca ∧ o.dict = dd) ∧ 1 < vs.size ∧ o.slots = #[]) (hg : h.get? e = some (o.mapFields (·.setIfInBounds k x))) :
    XObj e Ca dd h (vs.setIfInBounds k x) := by
  obtain ⟨cl, di, da, sl⟩ := o
  dsimp only at hd hq
  subst hd
  exact ⟨_, hg, hq.1.1, hq.1.2, rfl, by rw [Array.size_setIfInBounds]; exact hq.2.1, hq.2.2⟩
theorem notFr {h : Heap} {l : List PySem.Env} {b : Addr} {o : Obj} {vs : Array Value} (fr : h.FunFrames base l) (q : h.get? b = some o) (hd : o.data = .fields vs) : b ∉ frs l := fun m => by
  obtain ⟨_, o', ho, hnf⟩ := fr.mem m
  rw [q] at ho
  cases ho
  exact hnf vs hd
theorem entry_step {head : Value} {hadNext : Bool} {vs : Array Value} {Q : Unit → Shared → Prop} (hfr : A.frames = some (env :: outer)) (hf : env.frame = some L)
    (hN : N ≤ s.heap.objs.size) (fr : s.heap.FunFrames base (env :: outer)) (hx : XObj e Ca dd s.heap vs)
    (hQ : ∀ h', Tra N e Ca dd (rawInt L) h' → Stp N (frs (env :: outer)) e s.heap h' → h'.FunFrames base (env :: outer) → Q () { s with heap := h' }) :
    wpAny M A (do setField (.ref e) 1 (← EntryCells.newEntry head (← frameOf env) .none (rawInt L) .none (← entryPlaceOf L hadNext))) Q E s := by
  obtain ⟨oe, he, hc, hdd, hd, hsz, hsl⟩ := hx
  have noFr : e ∉ frs (env :: outer) := notFr fr he hd
  refine wpAny_bind (wpAny_frameOf_fun hfr fr hf fun h1 so => ?_)
  refine wpAny_bind (wpAny_entryPlaceOf fun pl hpl => ?_)
  unfold EntryCells.newEntry newFields
  refine wpAny_bind (wpAny_newObj_type ?_ (hpl.sizeOk5 _ _ _ _ _))
  generalize hT : ({ cls := .type "traceback", dict := none, data := .fields ([head, .ref L, .none, rawInt L, .none] ++ (if pl.isEmpty then List.replicate 6 Value.none else pl)).toArray } : Obj) = oT
  have e1 : h1.get? e = some oe := (so.2.1 e noFr).trans he
  have e2 : (h1.push oT).get? e = some oe := Heap.get?_push_of_some oT e1
  have z1 : h1.objs.size = s.heap.objs.size := so.1
  have hne : h1.objs.size ≠ e := Nat.ne_of_gt (Heap.lt_size e1)
  have hd3 := Obj.data_mapFields hd (·.setIfInBounds 1 (Value.ref h1.objs.size))
  have e3 := Heap.get?_update_self (Obj.mapFields (·.setIfInBounds 1 (Value.ref h1.objs.size))) e2 (Obj.isFreed_of_fields hd3)
  have hTf : oT.isFreed = false := by subst hT; rfl
  have t3 : ((h1.push oT).update e (Obj.mapFields (·.setIfInBounds 1 (Value.ref h1.objs.size)))).get? h1.objs.size = some oT := (Heap.get?_update_other _ _ (Ne.symm hne)).trans (Heap.get?_push_size h1 hTf)
  have up : ∀ b o, b ≠ e → h1.get? b = some o → ((h1.push oT).update e (Obj.mapFields (·.setIfInBounds 1 (Value.ref h1.objs.size)))).get? b = some o := fun b o hb q => by
    rw [Heap.get?_update_other _ _ (Ne.symm hb)]
    exact Heap.get?_push_of_some oT q
  refine wpAny_setField e2 hd hsz (hQ _ ?_ ⟨fun b o _ hb hbe q => up b o hbe ((so.2.1 b hb).trans q), fun b o hb q => ?_, fun b o q => ?_, ?_⟩ (fr.of_keeps fun b o q hnf => ?_))
  · refine ⟨_, h1.objs.size, oT, _, xobj_map hd ⟨⟨hc, hdd⟩, hsz, hsl⟩ e3, by simp [hsz], by rw [z1]; exact hN, hne, t3, by subst hT; rfl, ?_⟩
    first
      | (simp; done)
      | (rcases hpl with rfl | ⟨_, _, _, _, _, _, _, rfl⟩ <;> simp)
  · obtain ⟨sl, q2⟩ := so.2.2 b o q
    exact ⟨sl, up b _ (fun z => noFr (z ▸ hb)) q2⟩
  · obtain ⟨sl, q2⟩ := so.2.2 b o q
    exact upd_there (Heap.get?_push_of_some oT q2) e2 (Obj.isFreed_of_fields (Obj.data_mapFields hd _))
  · rw [Heap.size_after_update, Heap.size_push, z1]; exact Nat.le_succ _
  · obtain ⟨sl, q2⟩ := so.2.2 b o q
    exact ⟨_, up b _ (fun z => by rw [z, he] at q; cases q; exact hnf vs hd) q2, rfl⟩
theorem note_step {Q : Unit → Shared → Prop} (hfr : A.frames = some (env :: outer)) (hf : env.frame = some L) (fr : s.heap.FunFrames base (env :: outer)) (F : Fly N e Ca dd s.heap)
    (hQ : ∀ h', Tra N e Ca dd (rawInt L) h' → Stp N (frs (env :: outer)) e s.heap h' → h'.FunFrames base (env :: outer) → Q () { s with heap := h' }) : wpAny M A (noteFrame (.ref e) env) Q E s := by
  unfold noteFrame
  simp only [hf]
  rcases F.2 with ⟨vs, hx, h1⟩ | ⟨vs, T, oT, ts, hx, h1, hB, hne, hT, hdT, h3⟩
  · obtain ⟨oe, he, hc, hdd, hd, hsz, hsl⟩ := id hx
    refine wpAny_bind (wpAny_field he hd h1 ?_)
    rw [if_neg (by decide)]
    exact entry_step hfr hf F.1 fr hx hQ
  · obtain ⟨oe, he, hc, hdd, hd, hsz, hsl⟩ := id hx
    refine wpAny_bind (wpAny_field he hd h1 ?_)
    rw [if_pos (show (Value.ref T != Value.none) = true from by simp)]
    refine wpAny_bind (wpAny_field hT hdT h3 ?_)
    rw [if_neg (show ¬ ((Value.none == rawInt L) = true) from by simp [rawInt])]
    refine wpAny_bind (wpAny_setField hT hdT (Array.getElem?_eq_some_iff.mp h3).1 ?_)
    have other : ∀ b, b ≠ T → (s.heap.update T (Obj.mapFields (·.setIfInBounds 3 Value.none))).get? b = s.heap.get? b := fun b hb => Heap.get?_update_other _ _ (Ne.symm hb)
    have noT : ∀ b o, s.heap.get? b = some o → (∀ ws, o.data ≠ .fields ws) → b ≠ T := fun b o q n z => by
      rw [z, hT] at q; cases q; exact n ts hdT
    refine entry_step (N := N) (s := { s with heap := s.heap.update T (Obj.mapFields (·.setIfInBounds 3 Value.none)) }) hfr hf (by show N ≤ (s.heap.update T _).objs.size; rw [Heap.size_after_update]; exact F.1)
      (fr.of_keeps fun b o q n => ⟨o, (other b (noT b o q n)).trans q, rfl⟩) ⟨oe, (other e (Ne.symm hne)).trans he, hc, hdd, hd, hsz, hsl⟩ fun h' F' up fr' => hQ h' F' ⟨fun b o l n z q => ?_, fun b o m q => ?_, fun b o q => ?_, ?_⟩ fr'
    · exact up.keep b o l n z ((other b (fun y => absurd l (by rw [y]; exact Nat.not_lt.mpr hB))).trans q)
    · exact up.slot b o m ((other b fun y => notFr fr hT hdT (y ▸ m)).trans q)
    · obtain ⟨o1, q1⟩ := upd_there (f := Obj.mapFields (·.setIfInBounds 3 Value.none)) q hT (Obj.isFreed_of_fields (Obj.data_mapFields hdT _))
      exact up.all b o1 q1
    · have := up.sz
      rw [show ({ s with heap := s.heap.update T (Obj.mapFields (·.setIfInBounds 3 Value.none)) } : Shared).heap.objs.size = s.heap.objs.size from Heap.size_after_update _ _ _] at this
      exact this
theorem flight_step {fl : Value} {l : List PySem.Env} {Q : Unit → Shared → Prop} (fr : s.heap.FunFrames base l) (F : Tra N e Ca dd fl s.heap)
    (hQ : ∀ h', Tra N e Ca dd .none h' → Stp N (frs l) e s.heap h' → h'.FunFrames base l → Q () { s with heap := h' }) : wpAny M A (setFlight (.ref e) none) Q E s := by
  obtain ⟨vs, T, oT, ts, hx, h1, hB, hne, hT, hdT, h3⟩ := F
  obtain ⟨oe, he, hc, hdd, hd, hsz, hsl⟩ := id hx
  unfold setFlight
  refine wpAny_bind (wpAny_field he hd h1 ?_)
  rw [if_pos (show (Value.ref T != Value.none) = true from by simp)]
  have hs3 : 3 < ts.size := (Array.getElem?_eq_some_iff.mp h3).1
  have noT : ∀ b o, s.heap.get? b = some o → (∀ ws, o.data ≠ .fields ws) → b ≠ T := fun b o q n z => by
    rw [z, hT] at q; cases q; exact n ts hdT
  have other : ∀ b, b ≠ T → (s.heap.update T (Obj.mapFields (·.setIfInBounds 3 ((none : Option Addr).elim Value.none fun f => rawInt f)))).get? b = s.heap.get? b := fun b hb => Heap.get?_update_other _ _ (Ne.symm hb)
  refine wpAny_setField hT hdT hs3 (hQ _ ?_ ⟨fun b o l n z q => (other b (fun y => absurd l (by rw [y]; exact Nat.not_lt.mpr hB))).trans q, fun b o m q => ⟨o.slots, (other b fun y => notFr fr hT hdT (y ▸ m)).trans q⟩, fun b o q => upd_there q hT (Obj.isFreed_of_fields (Obj.data_mapFields hdT _)), by rw [Heap.size_after_update]; exact Nat.le_refl _⟩ (fr.of_keeps fun b o q n => ⟨o, (other b (noT b o q n)).trans q, rfl⟩))
  exact ⟨vs, T, _, _, ⟨oe, (other e (Ne.symm hne)).trans he, hc, hdd, hd, hsz, hsl⟩, h1, hB, hne, Heap.get?_update_self _ hT (Obj.isFreed_of_fields (Obj.data_mapFields hdT _)), Obj.data_mapFields hdT _, by simp [hs3]⟩
theorem on_step {Q : Unit → Shared → Prop} (hfr : A.frames = some (env :: outer)) (hf : env.frame = some L) (fr : s.heap.FunFrames base (env :: outer)) (F : Fly N e Ca dd s.heap)
    (hQ : ∀ h', Fly N e Ca dd h' → Stp N (frs (env :: outer)) e s.heap h' → h'.FunFrames base (env :: outer) → Q () { s with heap := h' }) : wpAny M A (noteFrame (.ref e) env) (fun _ s' => wpAny M A (setFlight (.ref e) none) Q E s') E s := by
  refine note_step hfr hf fr F fun h1 F1 u1 fr1 => ?_
  refine flight_step (s := { s with heap := h1 }) fr1 F1 fun h2 F2 u2 fr2 => hQ h2 ⟨Nat.le_trans F.1 (Nat.le_trans u1.sz u2.sz), .inr F2⟩ (u1.trans u2) fr2
theorem leave_step {Q : Unit → Shared → Prop} (hfr : A.frames = some (env :: outer)) (hf : env.frame = some L) (fr : s.heap.FunFrames base (env :: outer)) (F : Fly N e Ca dd s.heap)
    (hQ : ∀ h', Fly N e Ca dd h' → Stp N (frs (env :: outer)) e s.heap h' → h'.FunFrames base (env :: outer) → Q () { s with heap := h' }) : wpAny M A (leaving env (.ref e)) Q E s := by
  unfold leaving
  exact wpAny_bind (on_step hfr hf fr F hQ)
end
end MR
set_option Elab.async false
set_option linter.all false
set_option maxRecDepth 100000
set_option maxHeartbeats 1000000
namespace MR
open PySem PySem.Spec PyProof.Rows L2
theorem hok_stp {P : Program} {w : World} {H : Hp} {h h' : Heap} {N : Nat} {fs : List Addr} {e Ca : Addr} {dd : Option Addr} (ok : HOk P w H h) (hf : ∀ b ∈ fs, H b = none) (tr : ∀ b o, H b = some o → b < N) (S : Stp N fs e h h')
    (me : H e = some (.ext (ExcIs e Ca dd false))) (x : ExcIs e Ca dd false h') : HOk P w H h' := fun a o q => by
  by_cases ha : a = e
  · subst ha
    rw [me] at q
    cases q
    obtain ⟨o, vs, h1, r⟩ := id x
    refine ⟨x, ⟨o, h1⟩, fun h1 h2 ⟨o1, ws, q1, r1⟩ k => ⟨o1, ws, k _ q1, r1⟩⟩
  · refine (ok a o q).stay (fun b u hb z => ?_) (fun _ z => z) fun _ _ z => z
    have hbt : ∃ ob, H b = some ob := by
      rcases hb with hb | hb
      · exact ⟨o, by rw [hb]; exact q⟩
      · exact ⟨_, hb⟩
    obtain ⟨ob, hob⟩ := hbt
    refine S.keep b u (tr b ob hob) (fun m => by rw [hf b m] at hob; cases hob) ?_ z
    rintro rfl
    rcases hb with hb | hb
    · exact ha hb.symm
    · rw [me] at hb; cases hb
theorem Un.stp {fs fs' : List Addr} {H H' : Hp} {h0 h h' : Heap} {N : Nat} {e : Addr} (u : Un fs [] H H' h0 h) (S : Stp N fs' e h h') (hN : ∀ b o, h0.get? b = some o → b < N ∧ (b ∉ fs → b ∉ fs')) (hs : ∀ b ∈ fs, b ∈ fs') (me : H' e ≠ none) : Un fs [] H H' h0 h' where
  keep := fun b o q n hb hx => S.keep b o (hN b o q).1 ((hN b o q).2 hb) (fun z => me (by rw [← z]; exact u.free b o q n hx)) (u.keep b o q n hb hx)
  slot := fun b o q n hb hx => by
    obtain ⟨sl, q1⟩ := u.slot b o q n hb hx
    obtain ⟨sl2, q2⟩ := S.slot b _ (hs b hb) q1
    exact ⟨sl2, q2⟩
  free := u.free
  there := fun b o q hx => let ⟨o1, q1⟩ := u.there b o q hx; S.all b o1 q1
  tups := u.tups
  frzs := u.frzs
  tbls := u.tbls
structure Bd (X : Cx) (pins : List (Addr × Obj)) (N : Nat) : Prop where
  s0 : X.s₀.heap.objs.size ≤ N
  lo : X.env.locals < N
  ce : ∀ x c, X.env.cells.lookup x = some c → c < N
  pi : ∀ p ∈ X.pn ++ pins, p.1 < N
theorem Bd.of {X : Cx} {pins : List (Addr × Obj)} {σ : L2.St} {H : Hp} {s : Shared} {N : Nat} (I : L2.Inv X pins σ H s) (h : s.heap.objs.size ≤ N) : Bd X pins N :=
  ⟨Nat.le_trans I.sz h, Nat.lt_of_lt_of_le I.lt h, fun x c q => by
    obtain ⟨v, o, ho, _⟩ := I.cell x c q
    exact Nat.lt_of_lt_of_le (Heap.lt_size ho) h, fun p hp => Nat.lt_of_lt_of_le (Heap.lt_size (I.pin p hp).1) h⟩
structure FlX (X : Cx) (pins : List (Addr × Obj)) (σ : L2.St) (H : Hp) (e Ca : Addr) (dd : Option Addr) (N : Nat) (s : Shared) : Prop where
  inv : L2.Inv X pins σ H s
  bd : Bd X pins N
  fly : Fly N e Ca dd s.heap
  tr : ∀ b o, H b = some o → b < N
  me : H e = some (.ext (ExcIs e Ca dd false))
section
variable {X : Cx} {pins : List (Addr × Obj)} {σ : L2.St} {H : Hp} {s : Shared} {e Ca : Addr} {dd : Option Addr} {N : Nat} {h' : Heap}
theorem FlX.stk (F : FlX X pins σ H e Ca dd N s) : ∀ b ∈ frs X.stack, H b = none := F.inv.stkFree
theorem Inv.stepX {t' : Nat} (I : L2.Inv X pins σ H s) (bd : Bd X pins N) (tr : ∀ b o, H b = some o → b < N) (me : H e = some (.ext (ExcIs e Ca dd false))) (S : Stp N (frs X.stack) e s.heap h') (fl : ExcIs e Ca dd false h') : L2.Inv X pins σ H { s with heap := h', toks := t' } := by
  refine I.call (g' := s.gens) (d' := s.drawn) (t' := t') (h' := h') (ch := (List.range s.heap.objs.size).filter (N ≤ ·)) ⟨fun b o q n hb hx => ?_, fun b o q n hb hx => S.slot b o hb q, fun _ _ _ n _ => n, fun b o q _ => S.all b o q, fun _ _ z => z, fun _ _ _ z => z, fun b ps z => ⟨#[], by rw [z]; simp⟩⟩ (hok_stp I.hok I.stkFree tr S me fl) I.bare (fun b hb => ?_)
  · refine S.keep b o ?_ hb (fun z => by rw [z, me] at n; cases n) q
    by_cases hl : b < N
    · exact hl
    · exact absurd (List.mem_filter.mpr ⟨List.mem_range.mpr (Heap.lt_size q), by simpa using hl⟩) hx
  · have hb : N ≤ b := by simpa using (List.mem_filter.mp hb).2
    refine ⟨.inr (Nat.le_trans bd.s0 hb), fun z => absurd bd.lo (by rw [← z]; exact Nat.not_lt.mpr hb), fun x c q z => absurd (bd.ce x c q) (by rw [z]; exact Nat.not_lt.mpr hb), fun p hp z => absurd (bd.pi p hp) (by rw [z]; exact Nat.not_lt.mpr hb)⟩
theorem FlX.step (F : FlX X pins σ H e Ca dd N s) (S : Stp N (frs X.stack) e s.heap h') (fl : Fly N e Ca dd h') : FlX X pins σ H e Ca dd N { s with heap := h' } :=
  ⟨Inv.stepX (t' := s.toks) F.inv F.bd F.tr F.me S fl.excIs, F.bd, fl, F.tr, F.me⟩
end
noncomputable def CFl (P : Program) (w : World) (K : PySem.W.Frag) (outer : List PySem.Env) (H : Hp) (α : List Addr) (s : Shared) (n : Nat) (L' : UH) (e : Value) (s' : Shared) : Prop :=
  ∃ ea Ca dd N H' α', e = .ref ea ∧ s'.os = s.os ∧ AllBare s'.gens ∧ Un (frs outer) [] H H' s.heap s'.heap ∧ HOk P w H' s'.heap ∧ s.heap.objs.size ≤ N ∧ Fly N ea Ca dd s'.heap ∧ (∀ b o, H' b = some o → b < N) ∧
    H' ea = some (.ext (ExcIs ea Ca dd false)) ∧ Gr H α H' α' ∧ Abs K H' α' L' ∧ α'[n]? = some ea
noncomputable abbrev XN := List U → UH → Option (Nat × UH)
structure FnX (P : Program) (w : World) (K : PySem.W.Frag) (mg : Str → Option Value) (base : Heap) (k : Nat) (f : Addr) (fd : FuncData) (ps : List Str) (x : XN) : Prop where
  run : ∀ (A : Around) (outer : List PySem.Env) (s : Shared) (H : Hp) (args : Args) (us : List Value) (vs : List V) (α : List Addr) (L : UH) (ws : List U) (n : Nat) (L' : UH), Room k A → Env0 P w K mg base A outer s H → BindsTo s fd args (ps.zip us) → Vals vs us →
    Abs K H α L → RepL K H α ws vs → ws.length = ps.length → x ws L = some (n, L') → codeAny (model P w) A (.call (.ref f) args) (fun r s' => ∃ e, r = .error e ∧ CFl P w K outer H α s n L' e s') s
noncomputable abbrev XS := UE → UH → Option (Nat × UE × UH)
noncomputable abbrev XE := UE → UH → Option (Nat × UH)
noncomputable def FXP (X : Cx) (pins : List (Addr × Obj)) (H : Hp) (α : List Addr) (n : Nat) (δ' : UE) (L' : UH) (e : Value) (s' : Shared) : Prop :=
  ∃ ea Ca dd N σ' H' α', e = .ref ea ∧ FlX X pins σ' H' ea Ca dd N s' ∧ Gr H α H' α' ∧ Abs X.K H' α' L' ∧ RepS X.K H' α' δ' σ' ∧ α'[n]? = some ea
theorem FXP.from {X : Cx} {pins : List (Addr × Obj)} {H H1 : Hp} {α α1 : List Addr} {n : Nat} {δ' : UE} {L' : UH} {e : Value} {s' : Shared} (g : Gr H α H1 α1) (h : FXP X pins H1 α1 n δ' L' e s') : FXP X pins H α n δ' L' e s' := by
  obtain ⟨ea, Ca, dd, N, σ', H', α', h1, h2, h3, r⟩ := h
  exact ⟨ea, Ca, dd, N, σ', H', α', h1, h2, g.trans h3, r⟩
noncomputable def PXE (X : Cx) (e : Expr) (x : XE) : Prop := ∀ (pins : List (Addr × Obj)) (s : Shared) (σ : L2.St) (H : Hp) (α : List Addr) (δ : UE) (L : UH) (n : Nat) (L' : UH), L2.Inv X pins σ H s → Abs X.K H α L → RepS X.K H α δ σ → x δ L = some (n, L') →
  wpAny (model X.prog X.w) X.A (eval e X.env) (fun _ _ => False) (FXP X pins H α n δ L') s
noncomputable def PXS (X : Cx) (st : Stmt) (x : XS) : Prop := ∀ (pins : List (Addr × Obj)) (s : Shared) (σ : L2.St) (H : Hp) (α : List Addr) (δ : UE) (L : UH) (n : Nat) (δ' : UE) (L' : UH), L2.Inv X pins σ H s → Abs X.K H α L → RepS X.K H α δ σ → x δ L = some (n, δ', L') →
  wpAny (model X.prog X.w) X.A (exec st X.env) (fun _ _ => False) (FXP X pins H α n δ' L') s
noncomputable def PXSs (X : Cx) (sts : List Stmt) (x : XS) : Prop := ∀ (pins : List (Addr × Obj)) (s : Shared) (σ : L2.St) (H : Hp) (α : List Addr) (δ : UE) (L : UH) (n : Nat) (δ' : UE) (L' : UH), L2.Inv X pins σ H s → Abs X.K H α L → RepS X.K H α δ σ → x δ L = some (n, δ', L') →
  wpAny (model X.prog X.w) X.A (execs sts X.env) (fun _ _ => False) (FXP X pins H α n δ' L') s
section
variable {X : Cx} {e : Expr} {es : List Expr} {st : Stmt} {pins : List (Addr × Obj)} {s : Shared} {σ : L2.St} {H : Hp} {α : List Addr} {δ : UE} {L L' : UH} {E : Value → Shared → Prop}
theorem PEF.go {f : FE} {u : U} {Q : Value → Shared → Prop} (h : PEF X e f) (hx : ∀ e s, X.xe e s → False) (I : L2.Inv X pins σ H s) (A : Abs X.K H α L) (S : RepS X.K H α δ σ) (hf : f δ L = some (u, L'))
    (q : ∀ x v H' α' s', L2.Inv X pins σ H' s' → Gr H α H' α' → Abs X.K H' α' L' → RepU X.K H' α' u v → RelV v x → Q x s') : wpAny (model X.prog X.w) X.A (eval e X.env) Q E s :=
  wpAny_mono (h pins s σ H (fun v H' => ∃ α', Gr H α H' α' ∧ Abs X.K H' α' L' ∧ RepU X.K H' α' u v) I ⟨α, δ, L, A, S, u, L', hf, fun v H' α' g A' r => ⟨α', g, A', r⟩⟩) (fun x s' ⟨v, H', I', rv, α', g, A', r⟩ => q x v H' α' s' I' g A' r rv) fun _ _ z => (hx _ _ z).elim
theorem PTF.go {f : FT} {b : Bool} {Q : Bool → Shared → Prop} (h : PTF X e f) (hx : ∀ e s, X.xe e s → False) (I : L2.Inv X pins σ H s) (A : Abs X.K H α L) (S : RepS X.K H α δ σ) (hf : f δ L = some (b, L'))
    (q : ∀ H' α' s', L2.Inv X pins σ H' s' → Gr H α H' α' → Abs X.K H' α' L' → Q b s') : wpAny (model X.prog X.w) X.A (isTrue e X.env (eval e X.env)) Q E s :=
  wpAny_mono (h pins s σ H (fun b' H' => b' = b ∧ ∃ α', Gr H α H' α' ∧ Abs X.K H' α' L') I ⟨α, δ, L, A, S, b, L', hf, fun H' α' g A' => ⟨rfl, α', g, A'⟩⟩) (fun x s' ⟨H', I', hb, α', g, A'⟩ => by subst hb; exact q H' α' s' I' g A') fun _ _ z => (hx _ _ z).elim
theorem PAF.go {f : FA} {us : List U} {pos : Pos} {Q : List Value → Shared → Prop} (h : PAF X es f) (hx : ∀ e s, X.xe e s → False) (I : L2.Inv X pins σ H s) (A : Abs X.K H α L) (S : RepS X.K H α δ σ) (hf : f δ L = some (us, L'))
    (q : ∀ xs vs H' α' s', L2.Inv X pins σ H' s' → Gr H α H' α' → Abs X.K H' α' L' → RepL X.K H' α' us vs → Vals vs xs → Q xs s') : wpAny (model X.prog X.w) X.A (spliced (backTo pos (starEach es X.env))) Q E s :=
  wpAny_mono (h pos pins s σ H (fun vs H' => ∃ α', Gr H α H' α' ∧ Abs X.K H' α' L' ∧ RepL X.K H' α' us vs) I ⟨α, δ, L, A, S, us, L', hf, fun vs H' α' g A' r => ⟨α', g, A', r⟩⟩) (fun x s' ⟨vs, H', I', rv, α', g, A', r⟩ => q x vs H' α' s' I' g A' r rv) fun _ _ z => (hx _ _ z).elim
end
section
variable {X : Cx} {e : Expr} {es : List Expr} {st : Stmt} {rest : List Stmt} {pos : Pos}
noncomputable def xNo : XS := fun _ _ => none
noncomputable def xSeq (f : FS) (x y : XS) : XS := fun δ L => match x δ L with
  | some r => some r
  | none => match f δ L with
    | some (.nx δ', L') => y δ' L'
    | _ => none
theorem xss_cons {f : FS} {x y : XS} (h : PSF X st f) (h1 : PXS X st x) (h2 : PXSs X rest y) (hx : ∀ e s, X.xe e s → False := by exact fun _ _ z => z) : PXSs X (st :: rest) (xSeq f x y) := by
  intro pins s σ H α δ L n δ' L' I A S q
  unfold xSeq at q
  cases q1 : x δ L with
  | some r =>
    rw [q1] at q
    cases q
    exact wpAny_execs_cons (wpAny_mono (h1 pins s σ H α δ L n δ' L' I A S q1) (fun _ _ z => z.elim) fun _ _ z => z)
  | none =>
    rw [q1] at q
    simp only at q
    split at q
    · rename_i δ1 L1 q2
      refine wpAny_execs_cons (wpAny_mono (h pins s σ H { nx := fun σ1 H1 => ∃ α1, Gr H α H1 α1 ∧ Abs X.K H1 α1 L1 ∧ RepS X.K H1 α1 δ1 σ1, rt := fun _ _ => False } I ⟨α, δ, L, A, S, .nx δ1, L1, q2, fun σ1 H1 α1 g1 A1 S1 => ⟨α1, g1, A1, S1⟩⟩) (fun fl s1 hs => ?_) fun _ _ z => (hx _ _ z).elim)
      cases fl with
      | next =>
        obtain ⟨σ1, H1, I1, α1, g1, A1, S1⟩ := hs
        exact wpAny_mono (h2 pins s1 σ1 H1 α1 δ1 L1 n δ' L' I1 A1 S1 q) (fun _ _ z => z.elim) fun _ _ z => z.from g1
      | ret v => obtain ⟨_, _, _, _, _, z⟩ := hs; exact z.elim
      | brk => obtain ⟨_, _, _, z⟩ := hs; exact z.elim
      | cont => obtain ⟨_, _, _, z⟩ := hs; exact z.elim
    · cases q
theorem xss_one {x : XS} (h1 : PXS X st x) : PXSs X [st] x := by
  intro pins s σ H α δ L n δ' L' I A S q
  exact wpAny_execs_cons (wpAny_mono (h1 pins s σ H α δ L n δ' L' I A S q) (fun _ _ z => z.elim) fun _ _ z => z)
noncomputable def xOf (x : XE) : XS := fun δ L => (x δ L).map fun r => (r.1, δ, r.2)
theorem xOf_at {x : XE} {δ δ' : UE} {L L' : UH} {n : Nat} (q : xOf x δ L = some (n, δ', L')) : x δ L = some (n, L') ∧ δ' = δ := by
  unfold xOf at q
  obtain ⟨r, h1, h2⟩ := Option.map_eq_some_iff.mp q
  cases h2
  exact ⟨h1, rfl⟩
theorem xs_expr {x : XE} (h : PXE X e x) (hs : swapsWith e none pos.line X.env = pure false := by rfl) : PXS X (.Expr e pos) (xOf x) := by
  intro pins s σ H α δ L n δ' L' I A S q
  obtain ⟨q, rfl⟩ := xOf_at q
  exact wpAny_Expr_any (wpAny_mono (h pins s σ H α δ' L n L' I A S q) (fun _ _ z => z.elim) fun _ _ z => z) I.quiet hs
theorem xs_ret {x : XE} (h : PXE X e x) : PXS X (.Return (some e) pos) (xOf x) := by
  intro pins s σ H α δ L n δ' L' I A S q
  obtain ⟨q, rfl⟩ := xOf_at q
  exact wpAny_Return_some (wpAny_mono (h pins s σ H α δ' L n L' I A S q) (fun _ _ z => z.elim) fun _ _ z => z)
noncomputable def xIf (c : FT) (x y : XS) : XS := fun δ L => match c δ L with
  | some (b, L1) => if b = true then x δ L1 else y δ L1
  | none => none
theorem xs_if {c : Expr} {a b : List Stmt} {tc : FT} {x y : XS} (hc : PTF X c tc) (ha : PXSs X a x) (hb : PXSs X b y) (hx : ∀ e s, X.xe e s → False := by exact fun _ _ z => z) : PXS X (.If c a b pos) (xIf tc x y) := by
  intro pins s σ H α δ L n δ' L' I A S q
  unfold xIf at q
  split at q
  · rename_i k L1 q1
    refine wpAny_If (hc.go hx I A S q1 fun H1 α1 s1 I1 g1 A1 => ?_)
    cases k with
    | true => exact wpAny_mono (ha pins s1 σ H1 α1 δ L1 n δ' L' I1 A1 (S.mono g1) q) (fun _ _ z => z.elim) fun _ _ z => z.from g1
    | false => exact wpAny_mono (hb pins s1 σ H1 α1 δ L1 n δ' L' I1 A1 (S.mono g1) q) (fun _ _ z => z.elim) fun _ _ z => z.from g1
  · cases q
theorem xss_no {sts : List Stmt} : PXSs X sts xNo := fun _ _ _ _ _ _ _ _ _ _ _ _ _ z => nomatch z
end
section
variable {X : Cx} {e o : Expr} {es : List Expr} {p pos apos : Pos} {x m C : Str} {k n : Nat} {f fa Ca : Addr} {fd : FuncData} {ps : List Str} {F : XN} {g : FA} {fo : FE}
theorem run_fx {pins : List (Addr × Obj)} {σ : L2.St} {H : Hp} {α : List Addr} {δ : UE} {L L' : UH} {s : Shared} {us : List Value} {vs : List V} {ws : List U} {r : Nat} {Q : Value → Shared → Prop} (hF : FnX X.prog X.w X.K X.mg X.base k f fd ps F) (hr : Room k X.A) (hb : Binds X.K fd ps [])
    (I : L2.Inv X pins σ H s) (A : Abs X.K H α L) (S : RepS X.K H α δ σ) (rv : Vals vs us) (rl : RepL X.K H α ws vs) (hl : ws.length = ps.length) (q : F ws L = some (r, L')) :
    wpAny (model X.prog X.w) X.A (call (.ref f) us) Q (FXP X pins H α r δ L') s := by
  have h1 : us.length = ps.length := by rw [← rv.length, ← rl.length]; exact hl
  have hbt : BindsTo s fd ⟨us, []⟩ (ps.zip us) := by have := hb s us I.kIn (by rw [List.append_nil]; exact h1); rwa [List.append_nil] at this
  refine wpAny_call (codeAny_mono (hF.run X.A X.stack s H ⟨us, []⟩ us vs α L ws r L' hr I.env0 hbt rv A rl hl q) fun res s' hq => ?_)
  obtain ⟨ev, rfl, ea, Cx, dd, N, H', α', rfl, os, bare, un, hok, hN, fl, tr, me, g', A', at'⟩ := hq
  refine ⟨ea, Cx, dd, N, σ, H', α', rfl, ⟨?_, .of I hN, fl, tr, me⟩, g', A', S.mono g', at'⟩
  exact I.call' os un hok bare fun b z => absurd z (by simp)
noncomputable def xMethO (C m : Str) (k : Nat) (F : XN) (fo : FE) (g : FA) : XE := fun δ L => (fo δ L).bind fun p => (insAt C p.1 p.2).bind fun r => if r.2.lookup m = none then (g δ p.2).bind fun q => if q.1.length + 1 = k then F (.ref r.1 :: q.1) q.2 else none else none
theorem xe_meth {pl : Sem Bool} (T : ClsF X.K C Ca) (hm : Meth X.K Ca m fa) (hF : FnX X.prog X.w X.K X.mg X.base k fa fd ps F) (hr : Room k X.A) (hb : Binds X.K fd ps []) (ho : PEF X o fo) (ha : PAF X (e :: es) g)
    (hn : n = ps.length := by rfl) (hx : ∀ e s, X.xe e s → False := by exact fun _ _ z => z) (hst : starEach (e :: es) X.env = (false, eval e X.env) :: starEach es X.env := by rfl) (hpl : (backTo pos (starEach es X.env)).any (·.1) = false := by rfl)
    (ht : eval (.Call (.Attribute o m apos) (e :: es) [] pos) X.env = (do
      let ov ← eval o X.env
      standAt apos.atName
      let (f, first) ← holding [ov] (getMethod ov m pl)
      callWith pos f first (backTo pos (starEach (e :: es) X.env)) (backToKw pos (keywordEach [] X.env))) := by rfl) :
    PXE X (.Call (.Attribute o m apos) (e :: es) [] pos) (xMethO C m n F fo g) := by
  intro pins s σ H α δ L r L' I A S q
  obtain ⟨⟨u, L1⟩, q1, qa⟩ := Option.bind_eq_some_iff.mp q
  obtain ⟨⟨j, fs⟩, q2, qb⟩ := Option.bind_eq_some_iff.mp qa
  simp only at qb
  split at qb
  · rename_i hno
    obtain ⟨⟨ws, L2⟩, q3, qc⟩ := Option.bind_eq_some_iff.mp qb
    simp only at qc
    split at qc
    · rename_i hl
      obtain ⟨rfl, hL⟩ := insAt_ok q2
      refine PySem.W.methodCall_KW (pl := pl) (ho.go hx I A S q1 fun x0 v H1 α1 s1 I1 g1 A1 r1 rv1 => ?_) ht
      obtain ⟨a, ea, Cb, dx, vs, hns, hav, hk, rr⟩ := A1.addr hL
      obtain ⟨a', ea', rfl⟩ := r1.ref_of A1
      rw [ea] at ea'; cases ea'
      have := T.eq hns
      subst this
      obtain rfl : x0 = Value.ref a := rv1
      refine getmeth_ok I1 hav T.cl hm ((lookup_rep hk rr).2 hno) ?_
      refine PySem.W.callWith_K (first := [.ref a]) (h₀ := X.base) I.ok.mod.kin hm.kp (ha.go hx I1 A1 (S.mono g1) q3 fun us vs2 H2 α2 s2 I2 g2 A2 rl rv => ⟨I2.kIn, ?_⟩) hst hpl
      refine wpAny_mono (run_fx (Q := fun _ _ => False) (δ := δ) (us := .ref a :: us) (vs := .ref a :: vs2) (ws := .ref j :: ws) hF hr hb I2 A2 ((S.mono g1).mono g2) (.cons rfl rv) (.cons ?_ rl) (by rw [List.length_cons]; exact hl.trans hn) qc) (fun _ _ z => z) fun _ _ z => (z.from g2).from g1
      unfold RepU
      exact ⟨a, g2.at ea, rfl⟩
    · cases qc
  · cases qb
end
noncomputable def fnX (N m : Nat) (x : XS) : XN := fun us L => if us.length = m then (x (us.map some ++ List.replicate (N - us.length) none) L).map fun r => (r.1, r.2.2) else none
section
variable {P : Program} {w : World} {K : PySem.W.Frag} {mg : Str → Option Value} {base : Heap}
theorem Fun.okX {x qual : Str} {st : Stmt} {f : Addr} {fd : FuncData} {N ps : List Str} {k : Nat} {body : XS} (F : Fun K x qual st f fd) (S : FnScope N ps (defScope st))
    (hbody : ∀ (cdv : Value) (A : Around) (outer : List PySem.Env) (s : Shared) (H : Hp) (E : XK), Room k (A.deeper (envOfC qual (defScope st) s.heap.objs.size f cdv)) → PXSs (cxOf CX0 P w K mg base N qual (defScope st) f cdv A outer s H E).nox (defBody st) body) :
    FnX P w K mg base (k + 1) f fd ps (fnX N.length ps.length body) := by
  obtain ⟨oc, od, kV, doc, pm, an, cdv, ct, osl, rfl, lk, hcd⟩ := F.ex
  refine ⟨fun A outer s H args us vs α L ws n L' hr e0 hb rv Ab rl hl q => ?_⟩
  unfold fnX at q
  rw [if_pos hl] at q
  obtain ⟨⟨n1, δ1, L1⟩, qb, q2⟩ := Option.map_eq_some_iff.mp q
  cases q2
  have hvl : vs.length = ps.length := by rw [← rl.length]; exact hl
  have KX : K.In s.heap := e0.mod.kin.keeps fun b o e => (e0.bs b o e).1
  have lim : s.heap.NoLimit := e0.mod.nolimit.keeps fun b o e => (e0.bs b o e).1
  have hkind : ∀ y ∈ ps.zip us, (defScope st).names.lookup y.1 = some .local ∨ ((defScope st).names.lookup y.1 = some .cell ∧ ((cellsFrom (s.heap.objs.size + 1) (defScope st).names []).lookup y.1).isSome = true) := fun ⟨y, v⟩ hy => by
    rcases S.par y (List.of_mem_zip hy).1 with z | z
    · exact .inl z
    · exact .inr ⟨z, PySem.W.cellsFrom_some _ _ _ (.inl z)⟩
  refine codeAny_call_function hr.depth (KX _ _ lk) rfl S.co S.gen rfl (PySem.W.codeRec_of KX hcd) (hb _ _ _ _ ?_)
  refine wpAny_newFunctionEnv_cells S.kind hkind fun env he s1 xc => ?_
  subst he
  refine ⟨lim.keeps xc.toInCall.keep, codeAny_func ?_⟩
  have I : L2.Inv (cxOf CX0 P w K mg base N qual (defScope st) f cdv A outer s H E0) [] (start N vs) H s1 := inv_start S hr.hd e0 hvl rv xc
  refine wpAny_mono (hbody cdv A outer s H E0 (hr.deeper _) [] s1 (start N vs) H α _ L n1 δ1 L1 (I.wish _) Ab (RepS.start N rl) qb) (fun _ _ z => z.elim) fun e s' hs => ?_
  obtain ⟨ea, Ca, dd, Nn, σ', H', α', rfl, Fl, g', A', S', at'⟩ := hs
  refine leave_step (Around.frames_deeper e0.frames) rfl Fl.inv.stack Fl.fly fun h2 fl2 st2 fr2 => ?_
  have J := Fl.inv
  refine ⟨_, rfl, ea, Ca, dd, Nn, H', α', rfl, J.os, J.bare, ?_, hok_stp J.hok J.stkFree Fl.tr st2 Fl.me fl2.excIs, Fl.bd.s0, fl2, Fl.tr, Fl.me, g', A', at'⟩
  refine Un.stp (fs := frs outer) J.base st2 (fun b o hb => ⟨Nat.lt_of_lt_of_le (Heap.lt_size hb) Fl.bd.s0, fun nb m => ?_⟩) (fun b hb => ?_) (by rw [Fl.me]; intro z; cases z)
  · rcases List.mem_cons.mp (J.stkSub b m) with z | z
    · exact absurd (Heap.lt_size hb) (by rw [z]; exact Nat.not_lt.mpr J.ok.above)
    · exact nb z
  · show b ∈ frs (_ :: outer)
    unfold frs
    rw [List.filterMap_cons]
    exact List.mem_cons_of_mem _ hb
end
end MR
set_option Elab.async false
set_option linter.all false
set_option maxRecDepth 100000
set_option maxHeartbeats 1000000
namespace MR
open PySem PySem.Spec PyProof.Rows L2
noncomputable def bmV : List Value := [.type "ValueError", .type "Exception", .type "BaseException", .type "object"]
noncomputable def excI (K : PySem.W.Frag) (C : Addr) : Bool := match K.lookup C with
  | some ⟨.type "type", _, .cls cd, sl⟩ => (match cd.mro, sl.toList with
    | .ref D :: bm, [_, _, _, _, some (.builtin n), _] => D == C && n == "ValueError.__new__" && !cd.hasDel && PySem.W.tailIn K bmV bm
    | _, _ => false)
  | _ => false
theorem exc_obj {K : PySem.W.Frag} {h : Heap} {C : Addr} (X : K.In h) (q : excI K C = true) : ∃ nm qn N bs bm hdct sn sub ab col dd k0 k1 k2 k3 k5,
    h.get? C = some (excClassObj nm qn C N bs bm hdct sn sub ab col dd k0 k1 k2 k3 k5 "ValueError.__new__") ∧ OwnTail h bmV bm := by
  unfold excI at q
  split at q
  · rename_i dd cd sl ho
    split at q
    · rename_i D bm k0 k1 k2 k3 n k5 hm hs
      simp only [Bool.and_eq_true, beq_iff_eq, Bool.not_eq_true'] at q
      obtain ⟨⟨⟨rfl, rfl⟩, hdel⟩, ht⟩ := q
      obtain ⟨nm, bs, mro, ns, qn, hd, sn, sub, ab, col, del⟩ := cd
      dsimp only at hm hdel
      subst hm hdel
      have hsl : sl = #[k0, k1, k2, k3, some (.builtin "ValueError.__new__"), k5] := by
        obtain ⟨l⟩ := sl
        simp only at hs
        rw [hs]
      subst hsl
      exact ⟨nm, qn, ns, bs, bm, hd, sn, sub, ab, col, dd, k0, k1, k2, k3, k5, X _ _ ho, PySem.W.tail_of_in X ht⟩
    · cases q
  · cases q
noncomputable abbrev tupObj (rest : List Value) : Obj := { cls := .type "tuple", data := .seq rest.toArray }
noncomputable abbrev excObj (C t : Addr) : Obj := { cls := .ref C, data := .fields #[.ref t, .none, .none, .none, .bool false, .none] }
noncomputable abbrev exHeap (h : Heap) (C : Addr) (rest : List Value) : Heap := (h.push (tupObj rest)).push (excObj C h.objs.size)
section
variable {prog : Program} {w : World} {A : Around} {E : Value → Shared → Prop} {K : PySem.W.Frag} {C f : Addr} {rest : List Value}
theorem exHeap_e {h : Heap} : (exHeap h C rest).get? (h.objs.size + 1) = some (excObj C h.objs.size) := by
  have := Heap.get?_push_size (h.push (tupObj rest)) (o := excObj C h.objs.size) rfl
  rwa [Heap.size_push] at this
theorem exHeap_k {h : Heap} {b : Addr} {o : Obj} (q : h.get? b = some o) : (exHeap h C rest).get? b = some o := Heap.get?_push_of_some _ (Heap.get?_push_of_some _ q)
theorem tcall_exc {h : Heap} {g : Array GenState} {d : Drawn} {t : Nat} {os : OsState} {Q : Fin → Shared → Prop} (X : K.In h) (q : excI K C = true) (hf : PySem.W.findIn K (.ref C) "__init__" = some (some (.ref f))) (ht : PySem.W.typeIn K (.ref f) = some (.type "function")) (hl : rest.length ≤ sizeLine)
    (k : wpAny (model prog w) A (call (.ref f) (.ref (h.objs.size + 1) :: rest)) (fun r s' => r = .none ∧ Q (.done (.ret (.ref (h.objs.size + 1)))) s') E ⟨exHeap h C rest, g, d, t, os⟩) :
    wpAny (model prog w) A (Builtin.«type.__call__» ⟨.ref C :: rest, []⟩) Q E ⟨h, g, d, t, os⟩ := by
  obtain ⟨nm, qn, N, bs, bm, hdct, sn, sub, ab, col, dd, k0, k1, k2, k3, k5, hC, T⟩ := exc_obj X q
  have FV : ExcBaseFacts "ValueError" "ValueError.__new__" "ValueError.__init__" bmV := PySem.F.excBase_ValueError
  repeat (first | with_reducible refine wpAny_loadPart_at hC ?_ | with_reducible refine wpAny_madeBy_exc hC ?_ | wp_step)
  refine codeAny_call_builtin_code (Code.quiet_builtin _ FV.quiet) (wpAny_check_new_subT FV T hC ?_)
  refine codeAny_exc_new_subT FV T hC ?_ hl
  show wpAny _ _ _ _ _ _
  have hC1 := Heap.get?_push_of_some { cls := .ref C, data := .fields #[.ref h.objs.size, .none, .none, .none, .bool false, .none] } (Heap.get?_push_of_some { cls := .type "tuple", data := .seq rest.toArray } hC)
  have X1 : K.In (exHeap h C rest) := X.keeps fun b o e => exHeap_k e
  have hget : ((h.push { cls := .type "tuple", data := .seq rest.toArray }).push { cls := .ref C, data := .fields #[.ref h.objs.size, .none, .none, .none, .bool false, .none] }).get? (h.objs.size + 1) = some { cls := .ref C, data := .fields #[.ref h.objs.size, .none, .none, .none, .bool false, .none] } := exHeap_e
  have hcC : (Value.ref C :: bm).contains (.ref C) = true := by simp
  unfold isInstance
  repeat (first | with_reducible refine wpAny_loadPart_at hget ?_ | (with_reducible refine wpAny_isSubtype_exc hC1 ?_; rw [hcC]) | wp_step)
  show wpAny _ _ (typeLookup (.ref C) _) _ _ _
  refine PySem.W.Looks.here (s := ⟨exHeap h C rest, g, d, t, os⟩) (PySem.W.looks_findIn X1 hf) ?_
  refine wpAny_holding (wpAny_bind ?_)
  unfold bindSpecial
  refine wpAny_bind (PySem.W.Looks.here (s := ⟨exHeap h C rest, g, d, t, os⟩) (PySem.W.looks_typeIn X1 ht) ?_)
  rw [if_pos (by decide)]
  refine wpAny_pure (wpAny_bind (wpAny_mono k (fun r s' hr => ?_) fun _ _ x => x))
  obtain ⟨rfl, hQ⟩ := hr
  wp_walk
  exact hQ
theorem make_exc {s : Shared} {Q : Value → Shared → Prop} (X : K.In s.heap) (q : excI K C = true) (hf : PySem.W.findIn K (.ref C) "__init__" = some (some (.ref f))) (ht : PySem.W.typeIn K (.ref f) = some (.type "function")) (hl : rest.length ≤ sizeLine)
    (k : wpAny (model prog w) (A.under (.builtin "type.__call__" ⟨.ref C :: rest, []⟩)) (call (.ref f) (.ref (s.heap.objs.size + 1) :: rest)) (fun r s' => r = .none ∧ Q (.ref (s.heap.objs.size + 1)) s') E { s with heap := exHeap s.heap C rest }) :
    wpAny (model prog w) A (call (.ref C) rest) Q E s := by
  obtain ⟨h, g, d, t, os⟩ := s
  obtain ⟨nm, qn, N, bs, bm, hdct, sn, sub, ab, col, dd, k0, k1, k2, k3, k5, hC, T⟩ := exc_obj X q
  have x1 := tc_lookup
  have x2 := tc_bind (.ref C)
  have hT : (⟨h, g, d, t, os⟩ : Shared).TypeIs (.ref C) "type" := ⟨_, hC, rfl⟩
  refine wpAny_call (codeAny_of_tree ?_)
  show wpAny _ _ (callAny (.ref C) _) _ _ _
  repeat (any_goals (first | assumption | with_reducible refine wpAny_loadPart_at hC ?_ | wp_step))
  refine ⟨rfl, ?_⟩
  exact codeAny_call_builtin_at (Code.quiet_builtin _ (by decide +kernel)) entry_typeCall (wpAny_check_type_call_sub hC (tcall_exc X q hf ht hl k))
end
end MR
set_option Elab.async false
set_option linter.all false
set_option maxRecDepth 100000
set_option maxHeartbeats 1000000
namespace MR
open PySem PySem.Spec PyProof.Rows L2
theorem excIs_ok {P : Program} {w : World} {H : Hp} {h : Heap} {e Ca : Addr} {dd : Option Addr} {fr : Bool} (x : ExcIs e Ca dd fr h) : ObjOk P w H h e (.ext (ExcIs e Ca dd fr)) := by
  obtain ⟨o, vs, h1, r⟩ := id x
  exact ⟨x, ⟨o, h1⟩, fun h1 h2 ⟨o1, ws, q1, r1⟩ k => ⟨o1, ws, k _ q1, r1⟩⟩
structure MkX (K : PySem.W.Frag) (C f : Addr) : Prop where
  ex : excI K C = true
  init : PySem.W.findIn K (.ref C) "__init__" = some (some (.ref f))
  fn : PySem.W.isFn K (.ref f) = true
  kp : PySem.W.keepIn K (.ref C) = true
noncomputable def tMakeX (Ca : Addr) (sp : Sp) (t : TA) : TE := fun σ H Q => t σ H fun vs H1 => vs.length ≤ sizeLine ∧ ∀ x, H1 x = none → sp (.ref x :: vs) (upd H1 x (.ext (ExcIs x Ca none true))) (fun v H2 => v = .non ∧ Q (.ref x) H2) E0
section
variable {X : Cx} {k n : Nat} {f Ca : Addr} {fd : FuncData} {ps : List Str} {sp : Sp} {C x : Str} {p pos apos : Pos} {e : Expr} {es : List Expr} {t : TA}
theorem run_makeX {pins : List (Addr × Obj)} {σ : L2.St} {H : Hp} {s : Shared} {Q : VK} {us : List Value} {vs : List V} (M : MkX X.K Ca f) (F : FnOk X.prog X.w X.K X.mg X.base CX0 k f fd ps sp) (hr : Room (k + 1) X.A) (hb : Binds X.K fd ps [])
    (I : L2.Inv X pins σ H s) (r : Vals vs us) (hz : vs.length ≤ sizeLine) (h : ∀ x, H x = none → sp (.ref x :: vs) (upd H x (.ext (ExcIs x Ca none true))) (fun v H2 => v = .non ∧ Q (.ref x) H2) E0) :
    wpAny (model X.prog X.w) X.A (call (.ref Ca) us) (EP X pins σ Q) X.xe s := by
  have hq := h (s.heap.objs.size + 1) (I.hok.fresh (Nat.le_succ _))
  have x0 : ExcIs (s.heap.objs.size + 1) Ca none true (exHeap s.heap Ca us) := ⟨_, _, exHeap_e, rfl, rfl, rfl, by simp, rfl, fun _ => rfl⟩
  have I2 : L2.Inv X pins σ (upd H (s.heap.objs.size + 1) (.ext (ExcIs (s.heap.objs.size + 1) Ca none true))) { s with heap := exHeap s.heap Ca us, toks := s.toks } := I.laid (fun b u q => exHeap_k q) (Nat.le_succ _) (excIs_ok x0)
  have r2 : Vals (V.ref (s.heap.objs.size + 1) :: vs) (Value.ref (s.heap.objs.size + 1) :: us) := .cons rfl r
  have hl : (Value.ref (s.heap.objs.size + 1) :: us ++ []).length = ps.length := by rw [List.append_nil, ← r2.length]; exact F.len _ _ _ _ hq
  have hbt := hb { s with heap := exHeap s.heap Ca us, toks := s.toks } (Value.ref (s.heap.objs.size + 1) :: us) I2.kIn hl
  rw [List.append_nil] at hbt
  refine make_exc (f := f) I.kIn M.ex M.init (beq_iff_eq.mp M.fn) (by rw [← r.length]; exact hz) ?_
  refine wpAny_call (codeAny_mono (F.run _ X.stack _ _ ⟨_, []⟩ _ _ _ E0 (hr.make Ca us []) (I2.env0.make Ca us []) hbt r2 hq) fun r s' hq' => ?_)
  cases r with
  | error e => exact False.elim hq'
  | ok fl =>
    cases fl with
    | ret u =>
      obtain ⟨v, H', I3, rv, ev, q3⟩ := I2.after hq'
      subst ev
      exact ⟨rv, ⟨V.ref (s.heap.objs.size + 1), H', I3, rfl, q3⟩⟩
    | next => exact False.elim hq'
    | brk => exact False.elim hq'
    | cont => exact False.elim hq'
theorem pe_makeX (M : MkX X.K Ca f) (F : FnOk X.prog X.w X.K X.mg X.base CX0 k f fd ps sp) (hr : Room (k + 1) X.A) (hg : Gl X x) (hm : X.mg x = some (.ref Ca)) (hb : Binds X.K fd ps [])
    (ha : PA X (e :: es) t) (hdb : (x == ("__debug__" : Str)) = false := by decide) (he : starEach (e :: es) X.env = (false, eval e X.env) :: starEach es X.env := by rfl) (hpl : (backTo pos (starEach es X.env)).any (·.1) = false := by rfl) :
    PE X (.Call (.Name x p) (e :: es) [] pos) (tMakeX Ca sp t) := by
  intro pins s σ H Q I h
  refine wpAny_Call_Name_kw (ld_glob I hg hm ?_ hdb)
  refine PySem.W.callWith_K (h₀ := X.base) I.ok.mod.kin M.kp (thn (ha pos pins s σ H _ I h) fun us s1 ⟨vs, H1, I1, r, z, q⟩ => ⟨I1.kIn, ?_⟩) he hpl
  exact run_makeX M F hr hb I1 r z q
noncomputable def fMakeX (C : Str) (k : Nat) (F : FN) (g : FA) : FE := fun δ L => (g δ L).bind fun p => if p.1.length + 1 = k ∧ p.1.length ≤ 100 then (F (.ref p.2.length :: p.1) (p.2 ++ [.exc C true []])).bind fun q => match q.1 with | .non => some (.ref p.2.length, q.2) | _ => none else none
theorem pf_makeX {F : FN} {g : FA} (hns : PySem.W.nsIn X.K mainGlobals C = some (some (.ref Ca))) (M : MkX X.K Ca f) (hF : FnOk X.prog X.w X.K X.mg X.base CX0 k f fd ps (spF X.K n F)) (hr : Room (k + 1) X.A) (hg : Gl X C) (hm : X.mg C = some (.ref Ca)) (hb : Binds X.K fd ps [])
    (ha : PAF X (e :: es) g) (hdb : (C == ("__debug__" : Str)) = false := by decide) (he : starEach (e :: es) X.env = (false, eval e X.env) :: starEach es X.env := by rfl) (hpl : (backTo pos (starEach es X.env)).any (·.1) = false := by rfl) :
    PEF X (.Call (.Name C p) (e :: es) [] pos) (fMakeX C n F g) := by
  refine PE.imp (pe_makeX M hF hr hg hm hb ha hdb he hpl) ?_
  rintro σ H Q ⟨α, δ, L, A, S, z, L3, ee, q⟩
  obtain ⟨⟨us, L1⟩, e1, ee⟩ := Option.bind_eq_some_iff.mp ee
  simp only at ee
  split at ee
  · rename_i hlen
    obtain ⟨⟨w, L2⟩, e2, ee⟩ := Option.bind_eq_some_iff.mp ee
    cases w with
    | non =>
      cases ee
      refine ⟨α, δ, L, A, S, us, L1, e1, fun xs H1 α1 g1 A1 r1 => ⟨?_, fun x nx => ?_⟩⟩
      · rw [← r1.length]; exact Nat.le_of_lt (small1000 (by omega))
      obtain ⟨Ab, gb⟩ := A1.new (o := .ext (ExcIs x Ca none true)) (u := .exc C true []) nx ⟨Ca, none, [], hns, upd_same, rfl, rfl, .nil⟩
      have rx : RepU X.K (upd H1 x (.ext (ExcIs x Ca none true))) (α1 ++ [x]) (.ref L1.length) (.ref x) := by
        unfold RepU
        exact ⟨x, by rw [← A1.len]; simp, rfl⟩
      refine ⟨α1 ++ [x], L1 ++ [.exc C true []], .ref L1.length :: us, Ab, .cons rx (r1.mono gb), by simpa using hlen.1, .non, L2, e2, fun v H3 α3 g3 A3 r3 => ?_⟩
      have hv : v = .non := by unfold RepU at r3; exact r3
      exact ⟨hv, q _ H3 α3 (g1.trans (gb.trans g3)) A3 (rx.mono g3)⟩
    | _ => cases ee
  · cases ee
end
noncomputable def bInit (K : PySem.W.Frag) (B : Addr) : Bool := match PySem.W.findCls K (.ref B) (.type "type") "__init__" with
  | some (.val (.builtin id)) => id == "ValueError.__init__"
  | _ => false
structure BInit (K : PySem.W.Frag) (B : Addr) : Prop where
  sp : PySem.W.specialIn K (.ref B) "__getattribute__" = some (some (.builtin "type.__getattribute__"))
  rd : PySem.W.readsIn K B (.type "type") = true
  fd : bInit K B = true
theorem BInit.found {K : PySem.W.Frag} {B : Addr} (b : BInit K B) : PySem.W.findCls K (.ref B) (.type "type") "__init__" = some (.val (.builtin "ValueError.__init__")) := by
  have h := b.fd
  unfold bInit at h
  split at h
  · rename_i id q
    rw [q, beq_iff_eq.mp h]
  · cases h
noncomputable def tBInit (K : PySem.W.Frag) (t : TA) : TE := fun σ H Q => t σ H fun vs H1 => ∃ a Ca dd fr y, vs = [.ref a, y] ∧ H1 a = some (.ext (ExcIs a Ca dd fr)) ∧ excI K Ca = true ∧ Q .non H1
section
variable {X : Cx} {B : Addr} {x : Str} {p pos apos : Pos} {a b : Expr} {t : TA}
theorem call_binit {pins : List (Addr × Obj)} {σ : L2.St} {H : Hp} {s : Shared} {Q : VK} {ea Ca : Addr} {dd : Option Addr} {fr : Bool} {v : Value} (I : L2.Inv X pins σ H s) (he : H ea = some (.ext (ExcIs ea Ca dd fr))) (hc : excI X.K Ca = true) (q : Q .non H) :
    wpAny (model X.prog X.w) X.A (call (.builtin "ValueError.__init__") [.ref ea, v]) (EP X pins σ Q) X.xe s := by
  have x := (I.hok ea _ he).1
  obtain ⟨o, vs, h1, h2, h3, h4, h5, h6, h7⟩ := id x
  obtain ⟨nm, qn, N, bs, bm, hdct, sn, sub, ab, col, dd', k0, k1, k2, k3, k5, hC, T⟩ := exc_obj I.kIn hc
  have FV : ExcBaseFacts "ValueError" "ValueError.__new__" "ValueError.__init__" bmV := PySem.F.excBase_ValueError
  obtain ⟨h, g, d, tk, os⟩ := s
  refine wpAny_call (codeAny_call_builtin FV.init.plain FV.initEntry (wpAny_check_init_subT FV T hC h1 h2 ?_))
  unfold Builtin.«BaseException.__init__»
  dsimp only
  obtain ⟨v0, hv0⟩ : ∃ v0, vs[0]? = some v0 := ⟨vs[0], Array.getElem?_eq_getElem (by omega)⟩
  unfold newTuple Builtin.BaseException.bexcPut
  rw [if_neg (by decide)]
  refine wpAny_bind (wpAny_newObj_type ?_ (by show (1 : Nat) ≤ sizeLine; decide))
  have e2 : (h.push { cls := .type "tuple", data := .seq #[v] }).get? ea = some o := Heap.get?_push_of_some _ h1
  have fin : ∀ s' : Shared, s' = ⟨(h.push { cls := .type "tuple", data := .seq #[v] }).update ea (Obj.mapFields (·.setIfInBounds 0 (Value.ref h.objs.size))), g, d, tk, os⟩ → EP X pins σ Q .none s' := fun s' hs => by
    subst hs
    have hd3 := Obj.data_mapFields h4 (·.setIfInBounds 0 (Value.ref h.objs.size))
    have e3 := Heap.get?_update_self (Obj.mapFields (·.setIfInBounds 0 (Value.ref h.objs.size))) e2 (Obj.isFreed_of_fields hd3)
    refine ⟨.non, H, ?_, rfl, q⟩
    have hupd : upd H ea (.ext (ExcIs ea Ca dd fr)) = H := by
      funext b
      unfold upd
      split
      · rename_i hb; rw [hb, he]
      · rfl
    have J := I.write (h' := (h.push { cls := .type "tuple", data := .seq #[v] }).update ea (Obj.mapFields (·.setIfInBounds 0 (Value.ref h.objs.size)))) (x := ea) (e := ea) (o := .ext (ExcIs ea Ca dd fr)) (t' := tk) (by rw [he]; exact True.intro) (.inl rfl) (fun b u hb z => by
      rw [Heap.get?_update_other _ _ (Ne.symm hb)]
      exact Heap.get?_push_of_some _ z) ⟨_, e3⟩ (excIs_ok (by obtain ⟨o2, g1, g2, g3, g4, g5, g6⟩ := xobj_map h4 ⟨⟨h2, h3⟩, h5, h6⟩ e3; exact ⟨o2, _, g1, g2, g3, g4, g5, g6, fun z => by rw [Array.getElem?_setIfInBounds_ne (by decide)]; exact h7 z⟩))
    rw [hupd] at J
    exact J
  refine wpAny_bind (wpAny_bind (wpAny_field e2 h4 hv0 (wpAny_bind (wpAny_setField e2 h4 (by omega) ?_))))
  cases v0 with
  | ref a0 => exact wpAny_letGo (wpAny_pure (fin _ rfl))
  | _ => exact wpAny_pure (wpAny_pure (fin _ rfl))
theorem pe_binit {pl : Sem Bool} (Bi : BInit X.K B) (hg : Gl X x) (hm : X.mg x = some (.ref B)) (ha : PA X [a, b] t) (hdb : (x == ("__debug__" : Str)) = false := by decide)
    (hst : starEach [a, b] X.env = (false, eval a X.env) :: starEach [b] X.env := by rfl) (hpl : (backTo pos (starEach [b] X.env)).any (·.1) = false := by rfl)
    (ht : eval (.Call (.Attribute (.Name x p) "__init__" apos) [a, b] [] pos) X.env = (do
      let ov ← eval (.Name x p) X.env
      standAt apos.atName
      let (f, first) ← holding [ov] (getMethod ov "__init__" pl)
      callWith pos f first (backTo pos (starEach [a, b] X.env)) (backToKw pos (keywordEach [] X.env))) := by rfl) :
    PE X (.Call (.Attribute (.Name x p) "__init__" apos) [a, b] [] pos) (tBInit X.K t) := by
  intro pins s σ H Q I h
  refine PySem.W.methodCall_KW (pl := pl) (ld_glob I hg hm ?_ hdb) ht
  refine PySem.W.method_cls I.kIn Bi.sp (PySem.W.cls_value I.kIn Bi.rd Bi.found (by decide +kernel) ?_)
  have I1 := I.tok (s.toks + 1)
  have hA := ha pos pins { s with toks := s.toks + 1 } σ H _ I1 h
  rw [hst] at hA ⊢
  refine Calls.callWith_builtin (by show (false || (backTo pos (starEach [b] X.env)).any (·.1)) = false; rw [hpl] <;> rfl) (Calls.evalArgs_plain ?_)
  refine thn hA fun us s2 ⟨vs, H2, I2, r2, ea, Ca, dd, fr, y, hv, he, hc, q2⟩ => ?_
  subst hv
  obtain ⟨u1, u2, rfl, ru1, ru2⟩ := r2.two
  obtain rfl : u1 = Value.ref ea := ru1
  exact call_binit I2 he hc q2
noncomputable def AllX (K : PySem.W.Frag) (Cs : List Str) : Prop := ∀ C ∈ Cs, ∀ Ca, PySem.W.nsIn K mainGlobals C = some (some (.ref Ca)) → excI K Ca = true
noncomputable def fBInitC (Cs : List Str) (g : FA) : FE := fun δ L => (g δ L).bind fun p => match p.1 with
  | [.ref n, _] => match p.2[n]? with
    | some (.exc C _ _) => if C ∈ Cs then some (.non, p.2) else none
    | _ => none
  | _ => none
theorem pf_binit {pl : Sem Bool} {Cs : List Str} {g : FA} (hC : AllX X.K Cs) (Bi : BInit X.K B) (hg : Gl X x) (hm : X.mg x = some (.ref B)) (ha : PAF X [a, b] g) (hdb : (x == ("__debug__" : Str)) = false := by decide)
    (hst : starEach [a, b] X.env = (false, eval a X.env) :: starEach [b] X.env := by rfl) (hpl : (backTo pos (starEach [b] X.env)).any (·.1) = false := by rfl)
    (ht : eval (.Call (.Attribute (.Name x p) "__init__" apos) [a, b] [] pos) X.env = (do
      let ov ← eval (.Name x p) X.env
      standAt apos.atName
      let (f, first) ← holding [ov] (getMethod ov "__init__" pl)
      callWith pos f first (backTo pos (starEach [a, b] X.env)) (backToKw pos (keywordEach [] X.env))) := by rfl) :
    PEF X (.Call (.Attribute (.Name x p) "__init__" apos) [a, b] [] pos) (fBInitC Cs g) := by
  refine PE.imp (pe_binit (pl := pl) Bi hg hm ha hdb hst hpl ht) ?_
  rintro σ H Q ⟨α, δ, L, A, S, z, L3, ee, q⟩
  obtain ⟨⟨us, L1⟩, e1, ee⟩ := Option.bind_eq_some_iff.mp ee
  refine ⟨α, δ, L, A, S, us, L1, e1, fun xs H1 α1 g1 A1 r1 => ?_⟩
  simp only at ee
  split at ee
  · rename_i n w
    split at ee
    · rename_i C fr fs hL
      split at ee
      · rename_i hin
        cases ee
        obtain ⟨x1, x2, rfl, rx1, rx2⟩ := r1.two
        obtain ⟨a, ea, Ca, dd, vs, hns, ha, _⟩ := A1.addr hL
        obtain ⟨a', ea', rfl⟩ := rx1.ref_of A1
        rw [ea] at ea'; cases ea'
        exact ⟨a, Ca, dd, fr, x2, rfl, ha, hC C hin Ca hns, q _ H1 α1 g1 A1 rfl⟩
      · cases ee
    · cases ee
  · cases ee
end
end MR
set_option Elab.async false
set_option linter.all false
set_option maxRecDepth 100000
set_option maxHeartbeats 1000000
namespace MR
open PySem PySem.Spec PyProof.Rows L2
theorem raise_go {M : Model} {A : Around} {E : Value → Shared → Prop} {s : Shared} {env : PySem.Env} {K : PySem.W.Frag} {x : Sem Value} {Q : Flow → Shared → Prop} {Ca ea : Addr} (hh : A.handled = none)
    (h : wpAny M A x (fun v s1 => ∃ ea Ca dd, v = .ref ea ∧ K.In s1.heap ∧ excI K Ca = true ∧ ExcIs ea Ca dd true s1.heap ∧ E (.ref ea) s1) E s) : wpAny M A (raiseStmt env (some x) none) Q E s := by
  unfold raiseStmt
  refine wpAny_bind (wpAny_mono h (fun v s1 h1 => ?_) fun _ _ z => z)
  obtain ⟨ea, Ca, dd, rfl, X, hc, ⟨o, vs, h1, h2, h3, h4, h5, h6, h7⟩, hE⟩ := h1
  obtain ⟨cl, di, da, sl⟩ := o
  dsimp only at h2 h3 h4 h6
  subst h2 h3 h4 h6
  obtain ⟨nm, qn, N, bs, bm, hdct, sn, sub, ab, col, dd', k0, k1, k2, k3, k5, hC, T⟩ := exc_obj X hc
  have hb : (Value.ref Ca :: bm).contains (.type "BaseException") = true := by rw [List.contains_cons, T.hasType PySem.F.excBase_ValueError.hasBase, Bool.or_true]
  obtain ⟨hp, g, d, tk, os⟩ := s1
  have h8 := h7 rfl
  repeat (first | with_reducible refine wpAny_loadPart_at h1 ?_ | with_reducible refine wpAny_loadPart_at hC ?_ | (with_reducible refine wpAny_isSubtype_exc hC ?_; rw [hb]) | with_reducible refine wpAny_field h1 rfl h8 ?_ | wp_step)
  exact wpAny_raiseNew_none hh hE
noncomputable def xRaise (Cs : List Str) (fe : FE) : XS := fun δ L => (fe δ L).bind fun p => match p.1 with
  | .ref n => match p.2[n]? with
    | some (.exc C true fs) => if C ∈ Cs then some (n, δ, p.2.set n (.exc C false fs)) else none
    | _ => none
  | _ => none
section
variable {X : Cx} {e : Expr} {pos : Pos} {fe : FE} {Cs : List Str}
theorem xs_raise (hA : AllX X.K Cs) (he : PEF X e fe) (hc : X.calm = true := by rfl) (hx : ∀ e s, X.xe e s → False := by exact fun _ _ z => z) : PXS X (.Raise (some e) none pos) (xRaise Cs fe) := by
  intro pins s σ H α δ L n δ' L' I A S q
  obtain ⟨⟨u, L1⟩, q1, q2⟩ := Option.bind_eq_some_iff.mp q
  simp only at q2
  split at q2
  · rename_i m
    split at q2
    · rename_i C fs hL
      split at q2
      · rename_i hin
        cases q2
        rw [arm_exec_Raise]
        show wpAny _ _ (do standAt pos; raiseStmt X.env (some (do let v ← eval e X.env; standAt pos; pure v)) none) _ _ _
        refine wpAny_bind (wpAny_standAt (raise_go (K := X.K) (Ca := 0) (ea := 0) (I.ok.hd hc) (wpAny_bind (he.go hx I A S q1 fun x v H1 α1 s1 I1 g1 A1 r1 rv => wpAny_bind (wpAny_standAt (wpAny_pure ?_))))))
        obtain ⟨a, ea, Ca, dd, vs, hns, ha, hd, hk, rr⟩ := A1.addr hL
        obtain ⟨a', ea', rfl⟩ := r1.ref_of A1
        rw [ea] at ea'; cases ea'
        obtain rfl : x = Value.ref a := rv
        have hex := (I1.hok a _ ha).1
        refine ⟨a, Ca, dd, rfl, I1.kIn, hA C hin Ca hns, hex, ?_⟩
        obtain ⟨o, ws, h1, h2, h3, h4, h5, h6, h7⟩ := id hex
        have hxf : ExcIs a Ca dd false s1.heap := ⟨o, ws, h1, h2, h3, h4, h5, h6, fun z => nomatch z⟩
        have g2 : Gr H1 α1 (upd H1 a (.ext (ExcIs a Ca dd false))) α1 := ⟨⟨[], by simp⟩, .write ha (by exact trivial) _⟩
        obtain ⟨A2, _⟩ := A1.put (o := .ext (ExcIs a Ca dd false)) (u := .exc C false fs) ea hL rfl rfl ha (by exact trivial) ⟨Ca, dd, vs, hns, upd_same, hd.stay (fun b o ws q => g2.st.2 b o _ q), hk, rr.mono g2⟩
        have I2 := I1.write (h' := s1.heap) (t' := s1.toks) (x := a) (e := a) (o := .ext (ExcIs a Ca dd false)) (by rw [ha]; exact True.intro) (.inl rfl) (fun b u _ z => z) ⟨_, h1⟩ (excIs_ok hxf)
        refine ⟨a, Ca, dd, s1.heap.objs.size, σ, _, α1, rfl, ⟨I2, .of I1 (Nat.le_refl _), ⟨Nat.le_refl _, .inl ⟨ws, ⟨o, h1, h2, h3, h4, h5, h6⟩, h7 rfl⟩⟩, fun b o2 hb => I2.hok.lt hb, upd_same⟩, g1.trans g2, A2, (S.mono g1).mono g2, ea⟩
      · cases q2
    · cases q2
  · cases q2
end
end MR
set_option Elab.async false
set_option linter.all false
set_option maxRecDepth 100000
set_option maxHeartbeats 1000000
namespace MR
open PySem PySem.Spec PyProof.Rows L2
noncomputable abbrev hld (X : Cx) (e : Addr) : Cx := { X with A := X.A.mark (some (.ref e)), calm := false }
theorem Ok.hld {X : Cx} (ok : X.Ok) (e : Addr) : (hld X e).Ok :=
  ⟨ok.mod, ok.kind, ok.glob, ok.blt, ok.above, ok.inj, ok.has, ok.cab, (fun z => (nomatch z)), ok.frames, ok.stk, ok.exf, ok.bs, ok.bsz, ok.noex, ok.exfs, ok.funs, ok.frf⟩
theorem Inv.hld {X : Cx} {pins : List (Addr × Obj)} {σ : L2.St} {H : Hp} {s : Shared} (I : L2.Inv X pins σ H s) (e : Addr) : L2.Inv (hld X e) pins σ H s := ⟨Ok.hld I.ok e, I.os, I.bare, I.base, I.loc, I.cell, I.free, I.freeC, I.pin, I.hok, I.len⟩
theorem Inv.unhld {X : Cx} {pins : List (Addr × Obj)} {σ : L2.St} {H : Hp} {s : Shared} {e : Addr} (ok : X.Ok) (I : L2.Inv (MR.hld X e) pins σ H s) : L2.Inv X pins σ H s := ⟨ok, I.os, I.bare, I.base, I.loc, I.cell, I.free, I.freeC, I.pin, I.hok, I.len⟩
theorem goes_ok {X : Cx} {pins : List (Addr × Obj)} {σ : L2.St} {H : Hp} {s : Shared} {M : Model} {A : Around} {E : Value → Shared → Prop} {i : Nat} {n : Str} {pos : Pos} {Q : Unit → Shared → Prop} (I : L2.Inv X pins σ H s) (hN : X.N.Nodup) (hi : X.N[i]? = some n) (hl : X.env.kindOf n = some .local)
    (q : ∀ s', L2.Inv X pins (σ.set i none) H s' → Q () s') : wpAny M A (do bindName X.env n .none; unbindBehindTheSuite X.env n pos) Q E s := by
  obtain ⟨m, hn, hloc⟩ := id I.loc
  have hcls : (X.env.scope.kind == .class || (X.env.scope.kind == .module && X.env.locals != X.env.globals)) = false := by rw [I.ok.kind]; rfl
  obtain ⟨oL, _, _, hoL, _⟩ := id hn
  refine wpAny_nameGoes_keeps hl hn hcls fun h' v hn' hs => q _ ?_
  have far : ∀ b o, X.s₀.heap.get? b = some o → b ≠ X.env.locals := fun b o e => Nat.ne_of_lt (Nat.lt_of_lt_of_le (Heap.lt_size e) I.ok.above)
  refine ⟨I.ok, I.os, I.bare, ⟨fun b o e n hb hx => (hs.2 b (far b o e)).trans (I.base.keep b o e n hb hx), fun b o e n hb hx => ?_, I.base.free, fun b o e hx => ?_, I.base.tups, I.base.frzs, I.base.tbls⟩, ⟨_, hn', fun j y w e1 e2 e3 => ?_⟩, fun y c e => ?_, I.free, I.freeC, fun p hp => ?_, fun b ob e => ?_, by simpa using I.len⟩
  · obtain ⟨sl, e1⟩ := I.base.slot b o e n hb hx
    exact ⟨sl, (hs.2 b (far b o e)).trans e1⟩
  · obtain ⟨o', e1⟩ := I.base.there b o e hx
    exact ⟨o', (hs.2 b (far b o e)).trans e1⟩
  · have hj : j ≠ i := by
      rintro rfl
      by_cases hz : j < σ.length
      · rw [List.getElem?_set_self hz] at e2; cases e2
      · rw [List.getElem?_eq_none (by simpa using hz)] at e2; cases e2
    rw [List.getElem?_set_ne (Ne.symm hj)] at e2
    obtain ⟨u, r, l⟩ := hloc j y w e1 e2 e3
    refine ⟨u, r, ?_⟩
    rcases l with ⟨k, e⟩ | ⟨k, c, e, z⟩
    · refine .inl ⟨k, ?_⟩
      have : y ≠ n := fun e => hj (nodup_ix hN e1 (e ▸ hi))
      simp [this, e]
    · exact .inr ⟨k, c, e, z.sameBut hs (I.cne y c e)⟩
  · obtain ⟨w, z⟩ := I.cell y c e
    exact ⟨w, z.sameBut hs (I.cne y c e)⟩
  · obtain ⟨e, n, ne, nf, d⟩ := I.pin p hp
    exact ⟨(hs.2 p.1 ne).trans e, n, ne, nf, d⟩
  · refine (I.hok b ob e).stay (fun c w hc z => (hs.2 c ?_).trans z) (fun _ z => z) fun _ _ z => z
    rintro rfl
    rcases hc with hc | hc
    · rw [← hc, I.free] at e; cases e
    · rw [I.free] at hc; cases hc
theorem RepS.unset {K : PySem.W.Frag} {H : Hp} {α : List Addr} {δ : UE} {σ : L2.St} (h : RepS K H α δ σ) (i : Nat) : RepS K H α (δ.set i none) (σ.set i none) :=
  ⟨by simp [h.len], fun j w e => by
    by_cases hj : i = j
    · subst hj
      by_cases hi : i < δ.length
      · rw [List.getElem?_set_self hi] at e; cases e
      · rw [List.getElem?_eq_none (by simpa using hi)] at e; cases e
    · rw [List.getElem?_set_ne hj] at e
      obtain ⟨v', q, r'⟩ := h.at_ j w e
      exact ⟨v', by rw [List.getElem?_set_ne hj]; exact q, r'⟩⟩
theorem flight_any {M : Model} {A : Around} {E : Value → Shared → Prop} {s : Shared} {base : Heap} {N : Nat} {l : List PySem.Env} {e Ca : Addr} {dd : Option Addr} {Q : Unit → Shared → Prop} (fr : s.heap.FunFrames base l) (F : Fly N e Ca dd s.heap)
    (hQ : ∀ h', Fly N e Ca dd h' → Stp N (frs l) e s.heap h' → h'.FunFrames base l → Q () { s with heap := h' }) : wpAny M A (setFlight (.ref e) none) Q E s := by
  rcases F.2 with ⟨vs, hx, h1⟩ | T
  · obtain ⟨oe, he, hc, hdd, hd, hsz, hsl⟩ := id hx
    unfold setFlight
    refine wpAny_bind (wpAny_field he hd h1 ?_)
    rw [if_neg (by decide)]
    exact wpAny_pure (hQ s.heap F ⟨fun _ _ _ _ _ z => z, fun b o _ z => ⟨o.slots, z⟩, fun b o z => ⟨o, z⟩, Nat.le_refl _⟩ fr)
  · exact flight_step fr T fun h2 F2 u2 fr2 => hQ h2 ⟨Nat.le_trans F.1 u2.sz, .inr F2⟩ u2 fr2
noncomputable def AllM (K : PySem.W.Frag) (Cs : List Str) (D : Addr) : Prop := ∀ C ∈ Cs, ∀ Ca, PySem.W.nsIn K mainGlobals C = some (some (.ref Ca)) → PySem.W.exmOne K (.ref Ca) (.ref D) = some true
noncomputable def fTry (b : FS) (x : XS) (Cs : List Str) (i : Nat) (suite : FS) : FS := fun δ L => match x δ L with
  | some (n, δ1, L1) => match L1[n]? with
    | some (.exc C _ _) => if C ∈ Cs then (suite (δ1.set i (some (.ref n))) L1).bind fun p => match p.1 with
        | .nx δ2 => some (.nx (δ2.set i none), p.2)
        | _ => none
      else none
    | _ => none
  | none => b δ L
section
variable {X : Cx} {body suite : List Stmt} {b0 : Stmt} {x n : Str} {np hpos pos : Pos} {D : Addr} {Cs : List Str} {fb fs : FS} {xb : XS} {i : Nat}
theorem psf_try (hM : AllM X.K Cs D) (hN : X.N.Nodup) (hb : PSsF X body fb) (hx : PXSs X body xb) (hs : ∀ e, PSsF (hld X e) (b0 :: suite) fs) (hg : Gl X x) (hm : X.mg x = some (.ref D))
    (hi : X.N[i]? = some n := by rfl) (hl : X.env.kindOf n = some .local := by rfl) (hxe : ∀ e s, X.xe e s → False := by exact fun _ _ z => z) (hst : X.stack = X.env :: X.outer := by rfl) (hfr : X.env.frame = some X.env.locals := by rfl)
    (hdb : (x == ("__debug__" : Str)) = false := by decide) : PSF X (.Try body [.ExceptHandler (some (.Name x np)) (some n) (b0 :: suite) hpos] [] [] pos) (fTry fb xb Cs i fs) := by
  intro pins s σ H E I h
  obtain ⟨α, δ, L, A, S, fl, L', ee, q⟩ := h
  refine wpAny_Try_except ?_
  unfold fTry at ee
  cases q1 : xb δ L with
  | none =>
    rw [q1] at ee
    refine wpAny_mono (hb pins s σ H E I ⟨α, δ, L, A, S, fl, L', ee, q⟩) (fun f s1 h1 => ?_) fun _ _ z => (hxe _ _ z).elim
    cases f with
    | next => exact wpAny_execs_nil h1
    | ret v => exact h1
    | brk => exact h1
    | cont => exact h1
  | some r =>
    obtain ⟨k, δ1, L1⟩ := r
    rw [q1] at ee
    simp only at ee
    split at ee
    · rename_i C fr0 fs0 hL
      split at ee
      · rename_i hin
        obtain ⟨⟨fl2, L2⟩, e2, e3⟩ := Option.bind_eq_some_iff.mp ee
        cases fl2 with
        | nx δ2 =>
          cases e3
          refine wpAny_mono (hx pins s σ H α δ L k δ1 L1 I A S q1) (fun _ _ z => z.elim) fun ev s1 hf => ?_
          obtain ⟨ea, Ca, dd, N, σ1, H1, α1, rfl, Fl, g1, A1, S1, at1⟩ := hf
          have hfrm : X.A.frames = some (X.env :: X.outer) := by rw [← hst]; exact Fl.inv.ok.frames
          have hstk : s1.heap.FunFrames X.base (X.env :: X.outer) := by rw [← hst]; exact Fl.inv.stack
          refine on_step hfrm hfr hstk Fl.fly fun h2 F2 u2 fr2 => ?_
          have Fl2 := Fl.step (h' := h2) (by rw [hst]; exact u2) F2
          have J2 := Inv.hld Fl2.inv ea
          obtain ⟨ox, vx, y1, y2, _⟩ := id F2.excIs
          obtain ⟨a, ea', Cb, dd', vs, hns, hav, _⟩ := A1.addr hL
          rw [at1] at ea'; cases ea'
          have hCa : Cb = Ca := by
            have hh := Fl.me
            rw [hav] at hh
            have := (Fl2.inv.hok ea _ hav).1
            obtain ⟨o3, _, z1, z2, _⟩ := this
            rw [y1] at z1; cases z1
            rw [y2] at z2; cases z2; rfl
          subst hCa
          have LT : PySem.W.Looks (model X.prog X.w) h2 (typeOf (.ref ea)) (.ref Cb) := by
            have z : PySem.W.Looks (model X.prog X.w) h2 (typeOf (.ref ea)) ox.cls := (PySem.W.Looks.ld y1).andThen .now
            rw [y2] at z
            exact z
          refine wpAny_handleBy_cons (codeAny_handlers_test ?_) (by intro z; cases z)
          refine ld_glob (X := hld X ea) J2 hg hm ?_ hdb
          refine PySem.W.Looks.here (s := { s1 with heap := h2 }) (PySem.W.exm_one Fl2.inv.kIn LT (hM C hin Cb hns)) ?_
          refine codeAny_handlers_suite_as ?_
          refine flight_any (s := { s1 with heap := h2 }) fr2 F2 fun h3 F3 u3 fr3 => ?_
          have Fl3 := Fl2.step (h' := h3) (by rw [hst]; exact u3) F3
          have J3 := Inv.hld Fl3.inv ea
          refine store_ok (X := hld X ea) (v := .ref ea) J3 hN hi (.inl hl) rfl (fun s4 J4 => ?_) (.inr hl)
          refine wpAny_mono (hs ea pins s4 _ H1 { nx := fun σ2 H2 => ∃ α2, Gr H1 α1 H2 α2 ∧ Abs X.K H2 α2 L2 ∧ RepS X.K H2 α2 δ2 σ2, rt := fun _ _ => False } J4 ⟨α1, _, L1, A1, S1.set i (u := .ref k) (v := .ref ea) (by unfold RepU; exact ⟨ea, at1, rfl⟩), .nx δ2, L2, e2, fun σ2 H2 α2 g2 A2 S2 => ⟨α2, g2, A2, S2⟩⟩) (fun f s5 h5 => ?_) fun _ _ z => (hxe _ _ z).elim
          cases f with
          | next =>
            obtain ⟨σ2, H2, J5, α2, g2, A2, S2⟩ := h5
            have I5 := Inv.unhld I.ok J5
            refine goes_ok I5 hN hi hl fun s6 I6 => ?_
            exact ⟨_, H2, I6, q _ H2 α2 (g1.trans g2) A2 (S2.unset i)⟩
          | ret v => obtain ⟨_, _, _, _, _, z⟩ := h5; exact z.elim
          | brk => obtain ⟨_, _, _, z⟩ := h5; exact z.elim
          | cont => obtain ⟨_, _, _, z⟩ := h5; exact z.elim
        | rt w => cases e3
        | bk w => cases e3
        | ct w => cases e3
      · cases ee
    · cases ee
end
end MR
set_option Elab.async false
set_option linter.all false
set_option maxRecDepth 100000
set_option maxHeartbeats 1000000
namespace MR
open PySem PySem.Spec PyProof.Rows L2
noncomputable def excA (K : PySem.W.Frag) (C : Addr) : Bool := excI K C && PySem.W.findIn K (.ref C) "__getattribute__" == some (some (.builtin "BaseException.__getattribute__")) && PySem.W.findIn K (.ref C) "__getattr__" == some none &&
  PySem.W.subIn K (.ref C) (.type "BaseException") == some true && PySem.W.findIn K (.ref C) "__class__" == some (some (.builtin "object.__class__")) && PySem.W.mroIn K C (.type "object") == some true && PySem.W.hasDictIn K C &&
  PySem.W.specialIn K (.builtin "object.__class__") "__get__" == some (some (.builtin "getset_descriptor.__get__")) && PySem.W.takesIn K (.builtin "object.__class__") == some true
structure ExcA (K : PySem.W.Frag) (C : Addr) : Prop where
  ex : excI K C = true
  ga : PySem.W.findIn K (.ref C) "__getattribute__" = some (some (.builtin "BaseException.__getattribute__"))
  gk : PySem.W.findIn K (.ref C) "__getattr__" = some none
  sb : PySem.W.subIn K (.ref C) (.type "BaseException") = some true
  cl : PySem.W.findIn K (.ref C) "__class__" = some (some (.builtin "object.__class__"))
  mo : PySem.W.mroIn K C (.type "object") = some true
  hd : PySem.W.hasDictIn K C = true
  sg : PySem.W.specialIn K (.builtin "object.__class__") "__get__" = some (some (.builtin "getset_descriptor.__get__"))
  tk : PySem.W.takesIn K (.builtin "object.__class__") = some true
theorem excA_of {K : PySem.W.Frag} {C : Addr} (h : excA K C = true) : ExcA K C := by
  unfold excA at h
  simp only [Bool.and_eq_true, beq_iff_eq] at h
  obtain ⟨⟨⟨⟨⟨⟨⟨⟨a, b⟩, c⟩, d⟩, e⟩, f⟩, g⟩, i⟩, j⟩ := h
  exact ⟨a, b, c, d, e, f, g, i, j⟩
noncomputable def isX (C D : Str) : Bool := C == D || D == "BelowError" || D == "ValueError"
noncomputable def clsV (K : PySem.W.Frag) (D : Str) : Option Value := match PySem.W.nsIn K mainGlobals D with
  | some (some (.ref a)) => some (.ref a)
  | some none => if D == "ValueError" then some (.type "ValueError") else none
  | _ => none
noncomputable def xTab (K : PySem.W.Frag) (Cs Ds : List Str) : Bool := Cs.all fun C => match PySem.W.nsIn K mainGlobals C with
  | some (some (.ref a)) => excA K a && Ds.all fun D => match clsV K D with
    | some v => PySem.W.kitOne K (.ref a) v == some (isX C D) && (!isX C D || PySem.W.exmOne K (.ref a) v == some true)
    | none => false
  | _ => false
section
variable {K : PySem.W.Frag} {Cs Ds : List Str}
theorem xTab_at (T : xTab K Cs Ds = true) {C : Str} {Ca : Addr} (hC : C ∈ Cs) (hn : PySem.W.nsIn K mainGlobals C = some (some (.ref Ca))) : ExcA K Ca ∧ ∀ D ∈ Ds, ∃ v, clsV K D = some v ∧ PySem.W.kitOne K (.ref Ca) v = some (isX C D) ∧ (isX C D = true → PySem.W.exmOne K (.ref Ca) v = some true) := by
  have h := List.all_eq_true.mp T C hC
  rw [hn] at h
  simp only [Bool.and_eq_true] at h
  refine ⟨excA_of h.1, fun D hD => ?_⟩
  have h2 := List.all_eq_true.mp h.2 D hD
  split at h2
  · rename_i v hv
    simp only [Bool.and_eq_true, beq_iff_eq, Bool.or_eq_true, Bool.not_eq_true'] at h2
    exact ⟨v, hv, h2.1, fun z => h2.2.resolve_left (by rw [z]; exact Bool.noConfusion)⟩
  · cases h2
theorem AllX.of (T : xTab K Cs Ds = true) : AllX K Cs := fun C hC Ca hn => (xTab_at T hC hn).1.ex
theorem clsV_own {D : Str} {Da : Addr} (h : PySem.W.nsIn K mainGlobals D = some (some (.ref Da))) : clsV K D = some (.ref Da) := by unfold clsV; rw [h]
theorem AllM.of {D : Str} {Da : Addr} (T : xTab K Cs Ds = true) (hD : D ∈ Ds) (hn : PySem.W.nsIn K mainGlobals D = some (some (.ref Da))) (ha : Cs.all (fun C => isX C D) = true) : AllM K Cs Da := fun C hC Ca hc => by
  obtain ⟨v, hv, _, h2⟩ := (xTab_at T hC hc).2 D hD
  rw [clsV_own hn] at hv
  cases hv
  exact h2 (List.all_eq_true.mp ha C hC)
theorem AllM.sub {Es : List Str} {D : Str} {Da : Addr} (T : xTab K Cs Ds = true) (hs : ∀ C ∈ Es, C ∈ Cs) (hD : D ∈ Ds) (hn : PySem.W.nsIn K mainGlobals D = some (some (.ref Da))) (ha : Es.all (fun C => isX C D) = true) : AllM K Es Da := fun C hC Ca hc => by
  obtain ⟨v, hv, _, h2⟩ := (xTab_at T (hs C hC) hc).2 D hD
  rw [clsV_own hn] at hv
  cases hv
  exact h2 (List.all_eq_true.mp ha C hC)
end
section
variable {prog : Program} {w : World} {A : Around} {E : Value → Shared → Prop} {s : Shared} {K : PySem.W.Frag} {x C : Addr} {ox : Obj} {od : Option Obj} {name : Str}
theorem exc_ga {fill expr : Bool} {tk : Tok} {Q : Value → Shared → Prop} (X : K.In s.heap) (T : ExcA K C) (I : PySem.W.InstAt s.heap x ox C od)
    (h : wpAny (model prog w) A.in1 (Builtin.«object.__getattribute__» ⟨[.ref x, .str name tk], []⟩) (fun fin s' => match fin with | .done (.ret v) => wpAny (model prog w) A (handedOut v) Q E s' | _ => False) (fun _ _ => False) s) :
    wpAny (model prog w) A (getAttrBy (.ref x) (.str name tk) fill expr) Q E s := by
  have FB := PySem.F.attr_ValueError
  have hB : (Value.builtin "BaseException.__getattribute__" == Value.builtin "object.__getattribute__") = false := by decide +kernel
  unfold getAttrBy
  refine wpAny_holding (wpAny_bind (I.type.here (wpAny_bind ((PySem.W.looks_findIn X T.ga).here ?_))))
  dsimp only
  rw [hB, Bool.and_false, if_neg (by decide)]
  unfold getAttrByItsOwn
  refine wpAny_bind ((PySem.W.looks_hook X (mc := .ref C) (r := none) (by rw [if_pos (show onTheHeap (.ref C) = true from rfl)]; exact T.gk)).here (wpAny_bind (wpAny_attempt (wpAny_holding ?_))))
  unfold callGetattribute
  rw [show (expr && onTheHeap (Value.builtin "BaseException.__getattribute__")) = false from Bool.and_false _, if_neg (by decide)]
  unfold boundAndCalled
  rw [FB.ga.bind]
  refine wpAny_bind (wpAny_pure ?_)
  show wpAny _ _ (call (.builtin "BaseException.__getattribute__") [.ref x, .str name tk]) _ _ _
  refine wpAny_call (codeAny_call_builtin FB.ga.plain PySem.F.entry_bexc_ga ?_)
  refine @PySem.W.check_slot (model prog w) _ _ s "BaseException.__getattribute__" "BaseException" "__getattribute__" (.ref x) [.str name tk] [] _ (by decide +kernel) (by decide +kernel) (I.type.andThen (PySem.W.looks_subIn X T.sb)) (PySem.F.args_bexc_ga (.ref x) (.str name tk)) ?_
  refine wpAny_mono h (fun fin s' z => ?_) fun _ _ z => z.elim
  rcases fin with (_ | _ | _ | _) | _ <;> first | exact z | exact z.elim
theorem obj_ga {r : Builtin.ObjectAttr.Found} {tk : Tok} {Q : Fin → Shared → Prop} (X : K.In s.heap) (I : PySem.W.InstAt s.heap x ox C od) (hf : PySem.W.findObj K C od name = some r)
    (h : match r with
      | .value v => Q (.done (.ret v)) s
      | .bind g a => wpAny (model prog w) A (call g [a, .ref x, .ref C]) (fun v s' => Q (.done (.ret v)) s') E s
      | .missing => False) : wpAny (model prog w) A (Builtin.«object.__getattribute__» ⟨[.ref x, .str name tk], []⟩) Q E s := by
  unfold Builtin.«object.__getattribute__»
  refine wpAny_bind (wpAny_pure ?_)
  refine wpAny_bind (wpAny_pure ?_)
  refine wpAny_bind (I.type.here (wpAny_bind ((PySem.W.looks_find X I hf).here ?_)))
  cases r with
  | value v => exact wpAny_pure h
  | bind g a =>
    show wpAny _ _ (holding [a] (call g [a, .ref x, .ref C]) >>= ret) _ _ _
    exact wpAny_bind (wpAny_holding (wpAny_mono h (fun v s' z => wpAny_pure z) fun _ _ z => z))
  | missing => exact h.elim
theorem kitx_exc (T : ExcA K C) : PySem.W.KitX K (.ref x) (.ref C) (fun h => PySem.W.InstAt h x ox C od) where
  ty := fun _ _ _ I => I.type
  it := fun _ _ X _ => by
    obtain ⟨cd, hc, _⟩ := PySem.W.any_some T.hd
    unfold PySem.W.clsIn at hc
    split at hc
    · rename_i ho
      intro A' Q' E' s' k q
      unfold isType loadHead
      exact wpAny_bind (wpAny_loadPart (k _ _ (X _ _ ho)) (wpAny_pure q))
    · cases hc
  ne := fun h tp dd its n sl X htp => by
    obtain ⟨cd, hc, _⟩ := PySem.W.any_some T.hd
    refine Bool.eq_false_iff.mpr fun q => ?_
    have e : C = tp := Value.ref.inj (beq_iff_eq.mp q)
    subst e
    unfold PySem.W.clsIn at hc
    split at hc
    · rename_i ho
      have z := (X _ _ ho).symm.trans htp
      cases z
    · cases hc
  ca := fun {prog w A E Q s} X I k => by
    have hf : PySem.W.findObj K C od "__class__" = some (.bind (.builtin "getset_descriptor.__get__") (.builtin "object.__class__")) := by
      obtain ⟨cd, hc, _⟩ := PySem.W.any_some T.hd
      unfold PySem.W.findObj
      rw [hc, Option.bind_some, T.cl, Option.bind_some]
      dsimp only
      rw [T.sg, Option.bind_some]
      dsimp only
      rw [T.tk, Option.bind_some]
    unfold getAttr? getAttrBy?
    refine wpAny_bind (wpAny_mkText (wpAny_bind (wpAny_attempt (exc_ga (s := { s with toks := s.toks + 1 }) X T I (obj_ga (s := { s with toks := s.toks + 1 }) X I hf ?_)))))
    refine wpAny_call (PySem.W.class_get (s := { s with toks := s.toks + 1 }) X I T.mo ?_)
    exact PySem.W.handed_on rfl (wpAny_pure k)
end
section
variable {X : Cx} {Cs Ds : List Str}
theorem inst_of {P : Program} {w : World} {H : Hp} {h : Heap} {a Ca : Addr} {dd : Option Addr} {fr : Bool} {vs : List (Str × V)} (ok : HOk P w H h) (he : H a = some (.ext (ExcIs a Ca dd fr))) (hd : DictIs H dd vs) :
    ∃ ox od, PySem.W.InstAt h a ox Ca od ∧ ox.dict = dd := by
  obtain ⟨o, ws, h1, h2, h3, h4, _⟩ := (ok a _ he).1
  have no : PySem.W.notCls o = true := by unfold PySem.W.notCls; rw [h4]
  cases dd with
  | none => exact ⟨o, none, ⟨h1, h2, no, by rw [h3]; trivial⟩, h3⟩
  | some dx =>
    obtain ⟨od, q⟩ := hd
    exact ⟨o, some od, ⟨h1, h2, no, by rw [h3]; exact (ok dx _ q).1⟩, h3⟩
noncomputable def vOf : Value → Option V
  | .ref a => some (.ref a)
  | .type T => some (.ty T)
  | _ => none
theorem call_isx : CallR X (.builtin "isinstance") (fun xs H Q => ∃ a Ca dd fr vs c v b, xs = [.ref a, v] ∧ vOf c = some v ∧ H a = some (.ext (ExcIs a Ca dd fr)) ∧ DictIs H dd vs ∧ ExcA X.K Ca ∧ PySem.W.kitOne X.K (.ref Ca) c = some b ∧ Q (.bl b) H) := by
  intro pins s σ H xs us Q I r h
  obtain ⟨a, Ca, dd, fr, vs, c, v, b, rfl, hc, ha, hd, T, e, q⟩ := h
  obtain ⟨u, u2, rfl, rx, ry⟩ := r.two
  obtain rfl : u = Value.ref a := rx
  have hu : u2 = c := by
    cases c <;> simp [vOf] at hc <;> subst hc <;> exact ry
  subst hu
  obtain ⟨ox, od, J, _⟩ := inst_of I.hok ha hd
  exact PySem.W.kia_one (kitx_exc (ox := ox) (od := od) T) I.kIn J e (fun z => nomatch z) fun tk => ⟨.bl b, H, I.tok _, rfl, q⟩
theorem vals_refs : ∀ {ds : List Addr} {its : List Value}, Vals (ds.map V.ref) its → its = ds.map Value.ref
  | [], _, .nil => rfl
  | _ :: ds, _, .cons r t => by
    rw [vals_refs t]
    exact congrArg (· :: _) r
theorem call_isxt : CallR X (.builtin "isinstance") (fun xs H Q => ∃ (a Ca : Addr) (dd : Option Addr) (fr : Bool) (vs : List (Str × V)) (tp : Addr) (ds : List Addr) (b : Bool), xs = [.ref a, .ref tp] ∧ H tp = some (.tup (ds.map V.ref)) ∧ H a = some (.ext (ExcIs a Ca dd fr)) ∧ DictIs H dd vs ∧ ExcA X.K Ca ∧ PySem.W.kitAny X.K (.ref Ca) (ds.map Value.ref) = some b ∧ Q (.bl b) H) := by
  intro pins s σ H xs us Q I r h
  obtain ⟨a, Ca, dd, fr, vs, tp, ds, b, rfl, ht, ha, hd, T, e, q⟩ := h
  obtain ⟨u, u2, rfl, rx, ry⟩ := r.two
  obtain rfl : u = Value.ref a := rx
  obtain rfl : u2 = Value.ref tp := ry
  obtain ⟨ox, od, J, _⟩ := inst_of I.hok ha hd
  obtain ⟨_, its, rv, o, ho, hcl, n, hda⟩ := I.hok tp _ ht
  rw [vals_refs rv] at hda
  obtain ⟨cl, di, da, sl⟩ := o
  dsimp only at hcl hda
  subst hcl hda
  exact PySem.W.kia_tup (kitx_exc (ox := ox) (od := od) T) I.kIn J ho e (fun z => nomatch z) fun tk => ⟨.bl b, H, I.tok _, rfl, q⟩
noncomputable def excAt (Cs : List Str) (u : U) (L : UH) : Option (Nat × Str × List (Str × U)) := match u with
  | .ref n => match L[n]? with
    | some (.exc C _ fs) => if C ∈ Cs then some (n, C, fs) else none
    | _ => none
  | _ => none
theorem excAt_ok {u : U} {L : UH} {n : Nat} {C : Str} {fs : List (Str × U)} (h : excAt Cs u L = some (n, C, fs)) : u = .ref n ∧ C ∈ Cs ∧ ∃ fr, L[n]? = some (.exc C fr fs) := by
  unfold excAt at h
  split at h
  · split at h
    · rename_i e
      split at h
      · rename_i hc
        cases h
        exact ⟨rfl, hc, _, e⟩
      · cases h
    · cases h
  · cases h
noncomputable def fIsX (Cs : List Str) (D : Str) (f : FE) : FE := fun δ L => (f δ L).bind fun p => (excAt Cs p.1 p.2).map fun t => (.bl (isX t.2.1 D), p.2)
theorem isx_imp {σ : L2.St} {H : Hp} {Q : VK} {K : PySem.W.Frag} {D : Str} {fe : FE} {c : Value} {v : V} (T : xTab K Cs Ds = true) (hD : D ∈ Ds) (hc : clsV K D = some c) (hv : vOf c = some v) (h : lE K (fIsX Cs D fe) σ H Q) :
    tCB (fun xs H Q => ∃ a Ca dd fr vs c v b, xs = [.ref a, v] ∧ vOf c = some v ∧ H a = some (.ext (ExcIs a Ca dd fr)) ∧ DictIs H dd vs ∧ ExcA K Ca ∧ PySem.W.kitOne K (.ref Ca) c = some b ∧ Q (.bl b) H) (tCons (lE K fe) (tCons (tC v) tNil)) σ H Q := by
  obtain ⟨α, δ, L, A, S, z, L3, e, q⟩ := h
  obtain ⟨⟨u, L1⟩, e1, e⟩ := Option.bind_eq_some_iff.mp e
  obtain ⟨⟨n, C, fs⟩, e2, e⟩ := Option.map_eq_some_iff.mp e
  cases e
  obtain ⟨rfl, hC, fr, hL⟩ := excAt_ok e2
  refine ⟨α, δ, L, A, S, _, _, e1, fun x H1 α1 g1 A1 r1 => ?_⟩
  obtain ⟨a, ea, Ca, dd, vs, hns, ha, hd, hk, rr⟩ := A1.addr hL
  obtain ⟨a', ea', rfl⟩ := r1.ref_of A1
  rw [ea] at ea'; cases ea'
  obtain ⟨TA, TD⟩ := xTab_at T hC hns
  obtain ⟨c', hc', hk', _⟩ := TD D hD
  rw [hc] at hc'; cases hc'
  exact ⟨a, Ca, dd, fr, vs, c, v, _, rfl, hv, ha, hd, TA, hk', q _ H1 α1 g1 A1 rfl⟩
theorem pf_isx {e : Expr} {fe : FE} {p p2 pos : Pos} {D : Str} {Da : Addr} (T : xTab X.K Cs Ds = true) (hD : D ∈ Ds) (hns : PySem.W.nsIn X.K mainGlobals D = some (some (.ref Da))) (he : PEF X e fe) (hg : Gl X "isinstance") (hm : X.mg "isinstance" = none) (hg2 : Gl X D) (hm2 : X.mg D = some (.ref Da))
    (hdb : (D == ("__debug__" : Str)) = false := by decide)
    (hs : starEach [e, .Name D p2] X.env = (false, eval e X.env) :: starEach [.Name D p2] X.env := by rfl) (hs2 : starEach [.Name D p2] X.env = (false, eval (.Name D p2) X.env) :: starEach [] X.env := by rfl)
    (hpl : (backTo pos (starEach [.Name D p2] X.env)).any (·.1) = false := by rfl) : PEF X (.Call (.Name "isinstance" p) [e, .Name D p2] [] pos) (fIsX Cs D fe) :=
  PE.imp (pe_callB call_isx hg hm (by decide +kernel) (pa_cons he (pa_cons (pe_glob hg2 hm2 (v := .ref Da) rfl hdb) pa_nil hs2) hs) (by decide) (by decide) hs hpl) fun σ H Q h => isx_imp T hD (clsV_own hns) rfl h
theorem pf_isxV {e : Expr} {fe : FE} {p p2 pos : Pos} (T : xTab X.K Cs Ds = true) (hD : ("ValueError" : Str) ∈ Ds) (hns : PySem.W.nsIn X.K mainGlobals "ValueError" = some none) (he : PEF X e fe) (hg : Gl X "isinstance") (hm : X.mg "isinstance" = none) (hg2 : Gl X "ValueError") (hm2 : X.mg "ValueError" = none)
    (hs : starEach [e, .Name "ValueError" p2] X.env = (false, eval e X.env) :: starEach [.Name "ValueError" p2] X.env := by rfl) (hs2 : starEach [.Name "ValueError" p2] X.env = (false, eval (.Name "ValueError" p2) X.env) :: starEach [] X.env := by rfl)
    (hpl : (backTo pos (starEach [.Name "ValueError" p2] X.env)).any (·.1) = false := by rfl) : PEF X (.Call (.Name "isinstance" p) [e, .Name "ValueError" p2] [] pos) (fIsX Cs "ValueError" fe) :=
  PE.imp (pe_callB call_isx hg hm (by decide +kernel) (pa_cons he (pa_cons (pe_bltn hg2 hm2 (u := .type "ValueError") (by decide +kernel) (v := .ty "ValueError") rfl) pa_nil hs2) hs) (by decide) (by decide) hs hpl) fun σ H Q h => isx_imp (c := .type "ValueError") T hD (by unfold clsV; rw [hns]; rfl) rfl h
inductive Names (X : Cx) : List Str → List Addr → List Expr → Prop where
  | nil : Names X [] [] []
  | cons {D : Str} {Da : Addr} {Dn : List Str} {ds : List Addr} {es : List Expr} {p2 : Pos} (hns : PySem.W.nsIn X.K mainGlobals D = some (some (.ref Da))) (hg2 : Gl X D) (hm2 : X.mg D = some (.ref Da)) (t : Names X Dn ds es)
      (hdb : (D == ("__debug__" : Str)) = false := by decide) (hs : starEach (.Name D p2 :: es) X.env = (false, eval (.Name D p2) X.env) :: starEach es X.env := by rfl) : Names X (D :: Dn) (Da :: ds) (.Name D p2 :: es)
theorem Names.pa {Dn : List Str} {ds : List Addr} {es : List Expr} (h : Names X Dn ds es) : PA X es (fun _ H Q => Q (ds.map V.ref) H) := by
  induction h with
  | nil => exact pa_nil
  | cons hns hg2 hm2 t hdb hs ih => exact pa_cons (pe_glob hg2 hm2 (v := .ref _) rfl hdb) ih hs
theorem Names.kit {Dn : List Str} {ds : List Addr} {es : List Expr} (h : Names X Dn ds es) (T : xTab X.K Cs Ds = true) (hD : ∀ D ∈ Dn, D ∈ Ds) {C : Str} {Ca : Addr} (hC : C ∈ Cs) (hn : PySem.W.nsIn X.K mainGlobals C = some (some (.ref Ca))) :
    PySem.W.kitAny X.K (.ref Ca) (ds.map Value.ref) = some (Dn.any (isX C)) := by
  induction h with
  | nil => rfl
  | cons hns hg2 hm2 t hdb hs ih =>
    obtain ⟨v, hv, hk, _⟩ := (xTab_at T hC hn).2 _ (hD _ List.mem_cons_self)
    rw [clsV_own hns] at hv
    cases hv
    have ih := ih fun D h => hD D (List.mem_cons_of_mem _ h)
    simp only [List.map_cons, PySem.W.kitAny, List.any_cons]
    rw [hk]
    cases hb : isX C _ with
    | true => simp
    | false => simp [ih]
noncomputable def fIsXT (Cs Dn : List Str) (f : FE) : FE := fun δ L => (f δ L).bind fun p => (excAt Cs p.1 p.2).map fun t => (.bl (Dn.any (isX t.2.1)), p.2)
theorem Names.len {Dn : List Str} {ds : List Addr} {es : List Expr} (h : Names X Dn ds es) : ds.length = Dn.length := by
  induction h with
  | nil => rfl
  | cons _ _ _ _ _ _ ih => simp [ih]
theorem pf_isxt {e : Expr} {fe : FE} {p p2 pos : Pos} {k : Nat} {Dn : List Str} {ds : List Addr} {es : List Expr} (T : xTab X.K Cs Ds = true) (hD : ∀ D ∈ Dn, D ∈ Ds) (hN : Names X Dn ds es) (he : PEF X e fe) (hg : Gl X "isinstance") (hm : X.mg "isinstance" = none) (hlen : Dn.length ≤ 100 := by decide)
    (hs : starEach [e, .Tuple es k p2] X.env = (false, eval e X.env) :: starEach [.Tuple es k p2] X.env := by rfl) (hs2 : starEach [.Tuple es k p2] X.env = (false, eval (.Tuple es k p2) X.env) :: starEach [] X.env := by rfl)
    (hpl : (backTo pos (starEach [.Tuple es k p2] X.env)).any (·.1) = false := by rfl) : PEF X (.Call (.Name "isinstance" p) [e, .Tuple es k p2] [] pos) (fIsXT Cs Dn fe) := by
  refine PE.imp (pe_callB call_isxt hg hm (by decide +kernel) (pa_cons he (pa_cons (pe_tup hN.pa) pa_nil hs2) hs) (by decide) (by decide) hs hpl) ?_
  rintro σ H Q ⟨α, δ, L, A, S, z, L3, e, q⟩
  obtain ⟨⟨u, L1⟩, e1, e⟩ := Option.bind_eq_some_iff.mp e
  obtain ⟨⟨n, C, fs⟩, e2, e⟩ := Option.map_eq_some_iff.mp e
  cases e
  obtain ⟨rfl, hC, fr, hL⟩ := excAt_ok e2
  refine ⟨α, δ, L, A, S, _, _, e1, fun x H1 α1 g1 A1 r1 => ⟨?_, fun tp ntp => ?_⟩⟩
  · rw [List.length_map, hN.len]; exact Nat.le_of_lt (small1000 (by omega))
  have g2 : Gr H1 α1 (upd H1 tp (.tup (ds.map V.ref))) α1 := ⟨⟨[], by simp⟩, .new ntp _⟩
  have A2 : Abs X.K (upd H1 tp (.tup (ds.map V.ref))) α1 L1 := ⟨A1.len, A1.inj, fun i a o e1 e2 => (A1.rep i a o e1 e2).other g2 (.inr fun u q => by rw [upd_ne (ne_of_none q ntp)]; exact q)⟩
  obtain ⟨a, ea, Ca, dd, vs, hns, ha, hd, hk, rr⟩ := A2.addr hL
  obtain ⟨a', ea', rfl⟩ := r1.ref_of A1
  rw [ea] at ea'; cases ea'
  exact ⟨a, Ca, dd, fr, vs, tp, ds, _, rfl, upd_same, ha, hd, (xTab_at T hC hns).1, hN.kit T hD hC hns, q _ _ α1 (g1.trans g2) A2 rfl⟩
end
end MR
set_option Elab.async false
set_option linter.all false
set_option maxRecDepth 100000
set_option maxHeartbeats 1000000
namespace MR
open PySem PySem.Spec PyProof.Rows L2
section
variable {X : Cx} {e : Expr} {pos pos' : Pos} {x : Str} {xe : XE}
theorem xss_first {st : Stmt} {rest : List Stmt} {y : XS} (h1 : PXS X st y) : PXSs X (st :: rest) (xSeq fNever y xNo) := by
  intro pins s σ H α δ L n δ' L' I A S q
  have q1 : y δ L = some (n, δ', L') := by
    unfold xSeq at q
    cases h : y δ L with
    | some r => rw [h] at q; exact q
    | none => rw [h] at q; cases q
  exact wpAny_execs_cons (wpAny_mono (h1 pins s σ H α δ L n δ' L' I A S q1) (fun _ _ z => z.elim) fun _ _ z => z)
end
end MR
set_option Elab.async false
set_option linter.all false
set_option maxRecDepth 100000
set_option maxHeartbeats 1000000
namespace MR
open PySem L2
@[simp] theorem fVar_eq (i : Nat) (δ : UE) (L : UH) : fVar i δ L = (δ[i]?).join.map fun u => (u, L) := rfl
@[simp] theorem fC_eq (u : U) (δ : UE) (L : UH) : fC u δ L = some (u, L) := rfl
@[simp] theorem f2_eq (s : S2) (a b : FE) (δ : UE) (L : UH) : f2 s a b δ L = (a δ L).bind fun p => (b δ p.2).bind fun q => s p.1 q.1 q.2 := rfl
@[simp] theorem fTest_eq (f : FE) (δ : UE) (L : UH) : fTest f δ L = (f δ L).bind fun p => match p.1 with | .bl k => some (k, p.2) | _ => none := rfl
@[simp] theorem fAnd_eq (f g : FT) (δ : UE) (L : UH) : fAnd f g δ L = (f δ L).bind fun p => if p.1 = true then g δ p.2 else some (false, p.2) := rfl
@[simp] theorem fOr_eq (f g : FT) (δ : UE) (L : UH) : fOr f g δ L = (f δ L).bind fun p => if p.1 = true then some (true, p.2) else g δ p.2 := rfl
@[simp] theorem fNot_eq (f : FT) (δ : UE) (L : UH) : fNot f δ L = (f δ L).map fun p => (!p.1, p.2) := rfl
@[simp] theorem fAndV_eq (f g : FE) (δ : UE) (L : UH) : fAndV f g δ L = (f δ L).bind fun p => match p.1 with | .bl k => if k = true then g δ p.2 else some (.bl false, p.2) | _ => none := rfl
@[simp] theorem fOrV_eq (f g : FE) (δ : UE) (L : UH) : fOrV f g δ L = (f δ L).bind fun p => match p.1 with | .bl k => if k = true then some (.bl true, p.2) else g δ p.2 | _ => none := rfl
@[simp] theorem fNotV_eq (f : FE) (δ : UE) (L : UH) : fNotV f δ L = (f δ L).bind fun p => match p.1 with | .bl k => some (.bl (!k), p.2) | _ => none := rfl
@[simp] theorem fIf_eq (c : FT) (f g : FE) (δ : UE) (L : UH) : fIf c f g δ L = (c δ L).bind fun p => if p.1 = true then f δ p.2 else g δ p.2 := rfl
@[simp] theorem fNil_eq (δ : UE) (L : UH) : fNil δ L = some ([], L) := rfl
@[simp] theorem fCons_eq (f : FE) (g : FA) (δ : UE) (L : UH) : fCons f g δ L = (f δ L).bind fun p => (g δ p.2).map fun q => (p.1 :: q.1, q.2) := rfl
@[simp] theorem fTup_eq (g : FA) (δ : UE) (L : UH) : fTup g δ L = (g δ L).bind fun p => if small p.1.length = true then some (.tup p.1, p.2) else none := rfl
@[simp] theorem fLst_eq (g : FA) (δ : UE) (L : UH) : fLst g δ L = (g δ L).bind fun p => if small p.1.length = true then some (.ref p.2.length, p.2 ++ [.lst p.1]) else none := rfl
@[simp] theorem fCall_eq (s : SC) (g : FA) (δ : UE) (L : UH) : fCall s g δ L = (g δ L).bind fun p => s p.1 p.2 := rfl
@[simp] theorem fOwn_eq (n : Nat) (F : FN) (g : FA) (δ : UE) (L : UH) : fOwn n F g δ L = (g δ L).bind fun p => if p.1.length = n then F p.1 p.2 else none := rfl
@[simp] theorem fMeth_eq (T : String) (s : SM) (f : FE) (g : FA) (δ : UE) (L : UH) : fMeth T s f g δ L = (f δ L).bind fun p => if tyU T p.1 p.2 = true then (g δ p.2).bind fun q => s p.1 q.1 q.2 else none := rfl
@[simp] theorem fPart_eq (f : FE) (δ : UE) (L : UH) : fPart f δ L = (f δ L).bind fun p => match p.1 with | .int i => some (some i, p.2) | _ => none := rfl
@[simp] theorem fNoPart_eq (δ : UE) (L : UH) : fNoPart δ L = some (none, L) := rfl
@[simp] theorem fSl_eq (s : SS) (f : FE) (l h : FO) (δ : UE) (L : UH) : fSl s f l h δ L = (f δ L).bind fun p => (l δ p.2).bind fun q => (h δ q.2).bind fun r => s p.1 q.1 r.1 r.2 := rfl
@[simp] theorem fNeg_eq (f : FE) (δ : UE) (L : UH) : fNeg f δ L = (f δ L).bind fun p => match p.1 with | .int i => some (.int (-i), p.2) | _ => none := rfl
@[simp] theorem fTru_eq (f : FE) (δ : UE) (L : UH) : fTru f δ L = (f δ L).bind fun p => (truU p.1 p.2).map fun k => (k, p.2) := rfl
@[simp] theorem fIsi_eq (c : String) (f : FE) (δ : UE) (L : UH) : fIsi c f δ L = (f δ L).bind fun p => (tyName p.1 p.2).map fun t => (.bl (isT t c), p.2) := rfl
@[simp] theorem fNext_eq (δ : UE) (L : UH) : fNext δ L = some (.nx δ, L) := rfl
@[simp] theorem fSeq_eq (f g : FS) (δ : UE) (L : UH) : fSeq f g δ L = (f δ L).bind fun p => match p.1 with | .nx δ' => g δ' p.2 | fl => some (fl, p.2) := rfl
@[simp] theorem fRet_eq (f : FE) (δ : UE) (L : UH) : fRet f δ L = (f δ L).map fun p => (.rt p.1, p.2) := rfl
@[simp] theorem fDrop_eq (f : FE) (δ : UE) (L : UH) : fDrop f δ L = (f δ L).map fun p => (.nx δ, p.2) := rfl
@[simp] theorem fRetN_eq (δ : UE) (L : UH) : fRetN δ L = some (.rt .non, L) := rfl
@[simp] theorem fIfS_eq (c : FT) (f g : FS) (δ : UE) (L : UH) : fIfS c f g δ L = (c δ L).bind fun p => if p.1 = true then f δ p.2 else g δ p.2 := rfl
@[simp] theorem gN_eq (i : Nat) (u : U) (δ : UE) (L : UH) : gN i u δ L = some (δ.set i (some u), L) := rfl
@[simp] theorem gNil_eq (δ : UE) (L : UH) : MR.gNil [] δ L = some (δ, L) := rfl
@[simp] theorem gCons_eq (f : FG) (g : FGs) (u : U) (r : List U) (δ : UE) (L : UH) : MR.gCons f g (u :: r) δ L = (f u δ L).bind fun p => g r p.1 p.2 := rfl
@[simp] theorem gTup_eq (n : Nat) (g : FGs) (us : List U) (δ : UE) (L : UH) : MR.gTup n g (.tup us) δ L = if us.length = n then g us δ L else none := rfl
@[simp] theorem gSub_eq (a b : FE) (v : U) (δ : UE) (L : UH) : MR.gSub a b v δ L = (a δ L).bind fun p => (b δ p.2).bind fun q => match p.1, q.1 with
  | .ref n, .int k => (lstAt q.2 n).bind fun l => (ixN l.length k).map fun j => (δ, q.2.set n (.lst (l.set j v)))
  | _, _ => none := rfl
@[simp] theorem fAsg_eq (f : FE) (g : FG) (δ : UE) (L : UH) : fAsg f g δ L = (f δ L).bind fun p => (g p.1 δ p.2).map fun q => (.nx q.1, q.2) := rfl
@[simp] theorem fFor_eq (fi : FI) (g : FG) (b : FS) (δ : UE) (L : UH) : fFor fi g b δ L = (fi δ L).bind fun p => loopU p.1 g b (p.1.size p.2 + 1) 0 δ p.2 := rfl
@[simp] theorem fSeqI_eq (f : FE) (δ : UE) (L : UH) : fSeqI f δ L = (f δ L).bind fun p => (iSeqU p.1 p.2).map fun i => (i, p.2) := rfl
@[simp] theorem fRng1_eq (g : FA) (δ : UE) (L : UH) : fRng1 g δ L = (g δ L).bind fun p => match p.1 with
  | [.int j] => if -(2 ^ 62) ≤ j ∧ j < 2 ^ 62 then some (.seq (rangeU 0 j.toNat), p.2) else none
  | _ => none := rfl
@[simp] theorem semAdd_int (i j : Int) (L : UH) : semAdd (.int i) (.int j) L = some (.int (i + j), L) := rfl
@[simp] theorem semSub_int (i j : Int) (L : UH) : semSub (.int i) (.int j) L = some (.int (i - j), L) := rfl
@[simp] theorem semMul_int (i j : Int) (L : UH) : semMul (.int i) (.int j) L = if mulOk i j = true then some (.int (i * j), L) else none := rfl
@[simp] theorem semDiv_int (i j : Int) (L : UH) : semDiv (.int i) (.int j) L = if divOk i j = true then some (.int (i / j), L) else none := rfl
@[simp] theorem semMod_int (i j : Int) (L : UH) : semMod (.int i) (.int j) L = if decide (0 < j) = true then some (.int (i % j), L) else none := rfl
@[simp] theorem semPow_int (i j : Int) (L : UH) : semPow (.int i) (.int j) L = if powOk i j = true then some (.int (i ^ j.toNat), L) else none := rfl
@[simp] theorem semLe_int (i j : Int) (L : UH) : semLe (.int i) (.int j) L = some (.bl (decide (i ≤ j)), L) := rfl
@[simp] theorem semLt_int (i j : Int) (L : UH) : semLt (.int i) (.int j) L = some (.bl (decide (i < j)), L) := rfl
@[simp] theorem semGt_int (i j : Int) (L : UH) : semGt (.int i) (.int j) L = some (.bl (decide (j < i)), L) := rfl
@[simp] theorem semGe_int (i j : Int) (L : UH) : semGe (.int i) (.int j) L = some (.bl (decide (j ≤ i)), L) := rfl
@[simp] theorem semEq_int (i j : Int) (L : UH) : semEq (.int i) (.int j) L = some (.bl (i == j), L) := rfl
@[simp] theorem semNe_int (i j : Int) (L : UH) : semNe (.int i) (.int j) L = some (.bl (!(i == j)), L) := rfl
@[simp] theorem semEq_bl (i j : Bool) (L : UH) : semEq (.bl i) (.bl j) L = some (.bl (i == j), L) := rfl
@[simp] theorem semNe_bl (i j : Bool) (L : UH) : semNe (.bl i) (.bl j) L = some (.bl (!(i == j)), L) := rfl
@[simp] theorem semIs_bl (i j : Bool) (L : UH) : semIs false (.bl i) (.bl j) L = some (.bl (i == j), L) := rfl
@[simp] theorem semIx_tup (l : List U) (i : Int) (L : UH) : semIx (.tup l) (.int i) L = (L2.atI l i).map fun z => (z, L) := rfl
@[simp] theorem semIx_ref (n : Nat) (i : Int) (L : UH) : semIx (.ref n) (.int i) L = (seqAt L n).bind fun l => (L2.atI l i).map fun z => (z, L) := rfl
@[simp] theorem truU_bl (b : Bool) (L : UH) : truU (.bl b) L = some b := rfl
theorem seqAt_lst {L : UH} {n : Nat} {us : List U} (h : L[n]? = some (.lst us)) : seqAt L n = some us := by unfold seqAt; rw [h]
theorem lstAt_lst {L : UH} {n : Nat} {us : List U} (h : L[n]? = some (.lst us)) : lstAt L n = some us := by unfold lstAt; rw [h]
theorem small_of {n : Nat} (h : n ≤ 16777216) : small n = true := by unfold small sizeLine; exact decide_eq_true (by omega)
theorem atI_of {β : Type} {l : List β} {i : Int} (h0 : 0 ≤ i) (h : i < l.length) : L2.atI l i = l[i.toNat]? := by
  unfold L2.atI ixN
  rw [if_pos h0, if_pos h]; rfl
theorem ixN_of {n : Nat} {i : Int} (h0 : 0 ≤ i) (h : i < n) : ixN n i = some i.toNat := by
  unfold ixN
  rw [if_pos h0, if_pos h]
theorem mulOk_l {i j : Int} (h1 : -1000000000000000000 ≤ i) (h2 : i ≤ 1000000000000000000) : mulOk i j = true := by
  unfold mulOk; simp only [Bool.or_eq_true, Bool.and_eq_true, decide_eq_true_eq]; left; constructor <;> omega
theorem mulOk_r {i j : Int} (h1 : -1000000000000000000 ≤ j) (h2 : j ≤ 1000000000000000000) : mulOk i j = true := by
  unfold mulOk; simp only [Bool.or_eq_true, Bool.and_eq_true, decide_eq_true_eq]; right; constructor <;> omega
theorem divOk_of {i j : Int} (h1 : 0 < j) (h2 : j < 1152921504606846976) : divOk i j = true := by
  unfold divOk; simp only [Bool.and_eq_true, decide_eq_true_eq]; exact ⟨h1, h2⟩
end MR
set_option Elab.async false
set_option linter.all false
set_option maxRecDepth 100000
set_option maxHeartbeats 1000000
namespace MR
open PySem L2
noncomputable def GoesOn (g : FG) (body : FS) (u : U) (δ : UE) (L : UH) (R : UE → UH → Prop) : Prop := ∃ δ1 L1, g u δ L = some (δ1, L1) ∧ ∃ δ2 L2, (body δ1 L1 = some (.nx δ2, L2) ∨ body δ1 L1 = some (.ct δ2, L2)) ∧ R δ2 L2
theorem loop_any {it : IU} {g : FG} {body : FS} {us : List U} (P : Nat → UE → UH → Prop) (hat : ∀ k δ L, k ≤ us.length → P k δ L → it.at k L = some us[k]?)
    (step : ∀ k u δ L, us[k]? = some u → P k δ L → GoesOn g body u δ L (P (k + 1))) :
    ∀ (m k : Nat) (δ : UE) (L : UH), us.length < m + k → k ≤ us.length → P k δ L → ∃ δ' L', loopU it g body m k δ L = some (.nx δ', L') ∧ P us.length δ' L'
  | 0, k, δ, L, h1, h2, _ => by omega
  | m + 1, k, δ, L, h1, h2, hP => by
    have hk := hat k δ L h2 hP
    unfold loopU
    rw [hk]
    cases hu : us[k]? with
    | none =>
      have : k = us.length := by have := List.getElem?_eq_none_iff.mp hu; omega
      subst this
      exact ⟨δ, L, rfl, hP⟩
    | some u =>
      have hlt : k < us.length := (List.getElem?_eq_some_iff.mp hu).1
      obtain ⟨δ1, L1, e1, δ2, L2, e2, hP2⟩ := step k u δ L hu hP
      obtain ⟨δ', L', e3, hP3⟩ := loop_any P hat step m (k + 1) δ2 L2 (by omega) (by omega) hP2
      refine ⟨δ', L', ?_, hP3⟩
      rcases e2 with e2 | e2
      · simp only [e1, Option.bind_some, e2, e3]
      · simp only [e1, Option.bind_some, e2, e3]
theorem for_seq {fi : FI} {g : FG} {body : FS} {us : List U} {δ : UE} {L L0 : UH} (P : Nat → UE → UH → Prop) (hi : fi δ L = some (.seq us, L0)) (h0 : P 0 δ L0) (step : ∀ k u δ L, us[k]? = some u → P k δ L → GoesOn g body u δ L (P (k + 1))) :
    ∃ δ' L', fFor fi g body δ L = some (.nx δ', L') ∧ P us.length δ' L' := by
  obtain ⟨δ', L', e, h⟩ := loop_any (it := .seq us) (g := g) (body := body) (us := us) P (fun _ _ _ _ _ => rfl) step (us.length + 1) 0 δ L0 (by omega) (by omega) h0
  exact ⟨δ', L', by rw [fFor_eq, hi]; exact e, h⟩
theorem for_ref {fi : FI} {g : FG} {body : FS} {us : List U} {n : Nat} {δ : UE} {L L0 : UH} (P : Nat → UE → UH → Prop) (hi : fi δ L = some (.ref n, L0)) (h0 : P 0 δ L0) (hl : ∀ k δ L, P k δ L → seqAt L n = some us) (step : ∀ k u δ L, us[k]? = some u → P k δ L → GoesOn g body u δ L (P (k + 1))) :
    ∃ δ' L', fFor fi g body δ L = some (.nx δ', L') ∧ P us.length δ' L' := by
  have hat : ∀ k δ L, k ≤ us.length → P k δ L → (IU.ref n).at k L = some us[k]? := fun k δ L _ hp => by
    have := hl k δ L hp
    unfold seqAt at this
    unfold IU.at
    simp only
    split at this
    · rename_i e; cases this; first | rw [e] | rfl
    · rename_i e; cases this; first | rw [e] | rfl
    · cases this
  have hsz : (IU.ref n).size L0 = us.length := by
    have := hl 0 δ L0 h0
    unfold seqAt at this
    unfold IU.size
    simp only
    split at this
    · rename_i e; cases this; first | rw [e] | rfl
    · rename_i e; cases this; first | rw [e] | rfl
    · cases this
  obtain ⟨δ', L', e, h⟩ := loop_any (it := .ref n) (g := g) (body := body) (us := us) P hat step (us.length + 1) 0 δ L0 (by omega) (by omega) h0
  exact ⟨δ', L', by rw [fFor_eq, hi]; simp only [Option.bind_some, hsz]; exact e, h⟩
theorem iSeqU_ref {L : UH} {n : Nat} {us : List U} (h : seqAt L n = some us) : iSeqU (.ref n) L = some (.ref n) := by
  unfold seqAt at h
  unfold iSeqU
  simp only
  split at h
  · rename_i e; first | rw [e] | rfl
  · rename_i e; first | rw [e] | rfl
  · cases h
theorem rangeU_get {lo : Int} {n k : Nat} {u : U} (h : (rangeU lo n)[k]? = some u) : k < n ∧ u = .int (lo + k) := by
  unfold rangeU at h
  rw [List.getElem?_map] at h
  by_cases hk : k < n
  · rw [List.getElem?_range hk] at h
    simp at h
    exact ⟨hk, h.symm⟩
  · rw [List.getElem?_eq_none (by simpa using hk)] at h
    simp at h
theorem rangeU_len {lo : Int} {n : Nat} : (rangeU lo n).length = n := by simp [rangeU]
end MR
set_option Elab.async false
set_option linter.all false
set_option maxRecDepth 100000
set_option maxHeartbeats 1000000
namespace MR
open PySem L2
@[simp] theorem fEnum_eq (g : FA) (δ : UE) (L : UH) : fEnum g δ L = (g δ L).bind fun p => match p.1 with
  | [.ref n] => (seqAt p.2 n).map fun _ => (.enm n, p.2)
  | _ => none := rfl
@[simp] theorem fZip_eq (g : FA) (δ : UE) (L : UH) : fZip g δ L = (g δ L).bind fun p => match p.1 with
  | [.ref n, .ref m] => (seqAt p.2 n).bind fun _ => (seqAt p.2 m).map fun _ => (.zip2 n m, p.2)
  | _ => none := rfl
@[simp] theorem fRev_eq (f : FE) (δ : UE) (L : UH) : fRev f δ L = (f δ L).bind fun p => match p.1 with | .ref n => (seqAt p.2 n).map fun l => (.ref p.2.length, p.2 ++ [.lst l.reverse]) | .tup l => some (.tup l.reverse, p.2) | _ => none := rfl
@[simp] theorem fRng2_eq (g : FA) (δ : UE) (L : UH) : fRng2 g δ L = (g δ L).bind fun p => match p.1 with
  | [.int i, .int j] => if (-(2 ^ 62) ≤ i ∧ i < 2 ^ 62) ∧ (-(2 ^ 62) ≤ j ∧ j < 2 ^ 62) then some (.seq (rangeU i (j - i).toNat), p.2) else none
  | _ => none := by first | rfl | (unfold fRng2; rfl)
theorem comp_any {it : IU} {g : FG} {tt : Option FT} {fe : FE} {us : List U} (P : Nat → List U → UE → UH → Prop) (hat : ∀ k acc δ L, k ≤ us.length → P k acc δ L → it.at k L = some us[k]?)
    (step : ∀ k u acc δ L, us[k]? = some u → P k acc δ L → ∃ δ1 L1, g u δ L = some (δ1, L1) ∧ ∃ b L2, testU tt δ1 L1 = some (b, L2) ∧ (b = true → ∃ r L3, fe δ1 L2 = some (r, L3) ∧ acc.length < 16777216 ∧ P (k + 1) (acc ++ [r]) δ1 L3) ∧ (b = false → P (k + 1) acc δ1 L2)) :
    ∀ (m k : Nat) (acc : List U) (δ : UE) (L : UH), us.length < m + k → k ≤ us.length → P k acc δ L → ∃ ys δ' L', compU it g tt fe m k acc δ L = some (ys, L') ∧ P us.length ys δ' L'
  | 0, k, acc, δ, L, h1, h2, _ => by omega
  | m + 1, k, acc, δ, L, h1, h2, hP => by
    have hk := hat k acc δ L h2 hP
    unfold compU
    rw [hk]
    cases hu : us[k]? with
    | none =>
      have : k = us.length := by have := List.getElem?_eq_none_iff.mp hu; omega
      subst this
      exact ⟨acc, δ, L, rfl, hP⟩
    | some u =>
      have hlt : k < us.length := (List.getElem?_eq_some_iff.mp hu).1
      obtain ⟨δ1, L1, e1, b, L2, e2, h3, h4⟩ := step k u acc δ L hu hP
      cases b with
      | true =>
        obtain ⟨r, L3, e3, hl, hP2⟩ := h3 rfl
        obtain ⟨ys, δ', L', e4, hP3⟩ := comp_any P hat step m (k + 1) (acc ++ [r]) δ1 L3 (by omega) (by omega) hP2
        refine ⟨ys, δ', L', ?_, hP3⟩
        have hz : decide (acc.length < sizeLine) = true := decide_eq_true (by unfold sizeLine; omega)
        simp only [e1, Option.bind_some, e2, e3, if_true, hz, e4]
      | false =>
        obtain ⟨ys, δ', L', e4, hP3⟩ := comp_any P hat step m (k + 1) acc δ1 L2 (by omega) (by omega) (h4 rfl)
        refine ⟨ys, δ', L', ?_, hP3⟩
        simp only [e1, Option.bind_some, e2, e4, Bool.false_eq_true, if_false]
theorem fcomp {ix : List (Option Nat)} {fi : FI} {it : IU} {g : FG} {tt : Option FT} {fe : FE} {us : List U} {δ : UE} {L L0 : UH} (P : Nat → List U → UE → UH → Prop) (hi : fi δ L = some (it, L0)) (hsz : us.length ≤ it.size L0) (h0 : P 0 [] (innerU ix δ) L0)
    (hat : ∀ k acc δ L, k ≤ us.length → P k acc δ L → it.at k L = some us[k]?)
    (step : ∀ k u acc δ L, us[k]? = some u → P k acc δ L → ∃ δ1 L1, g u δ L = some (δ1, L1) ∧ ∃ b L2, testU tt δ1 L1 = some (b, L2) ∧ (b = true → ∃ r L3, fe δ1 L2 = some (r, L3) ∧ acc.length < 16777216 ∧ P (k + 1) (acc ++ [r]) δ1 L3) ∧ (b = false → P (k + 1) acc δ1 L2)) :
    ∃ ys δ' L', fComp ix fi g tt fe δ L = some (.ref L'.length, L' ++ [.lst ys]) ∧ P us.length ys δ' L' := by
  obtain ⟨ys, δ', L', e, h⟩ := comp_any P hat step (it.size L0 + 1) 0 [] (innerU ix δ) L0 (by omega) (by omega) h0
  refine ⟨ys, δ', L', ?_, h⟩
  unfold fComp
  simp only [hi, Option.bind_some, e, Option.map_some]
theorem comp_grow {β : Type} {ix : List (Option Nat)} {fi : FI} {it : IU} {g : FG} {tt : Option FT} {fe : FE} {δ : UE} {L L0 : UH} (as : List β) (rep : β → U) (f : β → Bool) (e : β → U) (E : UE → Prop) (hi : fi δ L = some (it, L0)) (hsz : as.length ≤ it.size L0) (hl : as.length < 16777216) (h0 : E (innerU ix δ))
    (hat : ∀ k x, it.at k (L0 ++ x) = some (as.map rep)[k]?)
    (step : ∀ (a : β) δ x, a ∈ as → E δ → ∃ δ1, g (rep a) δ (L0 ++ x) = some (δ1, L0 ++ x) ∧ E δ1 ∧ ∃ y, testU tt δ1 (L0 ++ x) = some (f a, L0 ++ x ++ y) ∧ (f a = true → ∃ z, fe δ1 (L0 ++ x ++ y) = some (e a, L0 ++ x ++ y ++ z))) :
    ∃ x, fComp ix fi g tt fe δ L = some (.ref (L0 ++ x).length, L0 ++ x ++ [.lst ((as.filter f).map e)]) := by
  obtain ⟨ys, δ', L', e1, ⟨h1, h2, x, rfl⟩, h3⟩ := fcomp (us := as.map rep) (ix := ix) (tt := tt) (g := g) (fe := fe) (δ := δ) (fun k acc δ L => (acc = ((as.take k).filter f).map e ∧ E δ ∧ ∃ x, L = L0 ++ x) ∧ acc.length ≤ k) hi (by simpa using hsz) ⟨⟨rfl, h0, [], by simp⟩, by simp⟩
    (fun k acc δ L _ ⟨⟨_, _, x, hx⟩, _⟩ => by rw [hx]; exact hat k x)
    (fun k u acc δ L hu ⟨⟨ha, hE, x, hx⟩, hlen⟩ => by
      subst hx
      rw [List.getElem?_map] at hu
      obtain ⟨a, hk, rfl⟩ := Option.map_eq_some_iff.mp hu
      have hk' := (List.getElem?_eq_some_iff.mp hk).1
      obtain ⟨δ1, g1, E1, y, t1, r1⟩ := step a δ x (List.mem_of_getElem? hk) hE
      have ht : as.take (k + 1) = as.take k ++ [a] := by
        rw [List.take_add_one, hk]; rfl
      refine ⟨δ1, _, g1, f a, _, t1, fun hf => ?_, fun hf => ?_⟩
      · obtain ⟨z, q⟩ := r1 hf
        refine ⟨_, _, q, by omega, ⟨?_, E1, x ++ y ++ z, by simp⟩, by simp; omega⟩
        rw [ha, ht]; simp [hf]
      · refine ⟨⟨?_, E1, x ++ y, by simp⟩, by omega⟩
        rw [ha, ht]; simp [hf])
  refine ⟨x, ?_⟩
  rw [e1, h1]
  simp
theorem seqAt_app {L x : UH} {n : Nat} {us : List U} (h : seqAt L n = some us) : seqAt (L ++ x) n = some us := by
  unfold seqAt at h ⊢
  cases hn : L[n]? with
  | none => rw [hn] at h; cases h
  | some o => rw [List.getElem?_append_left (List.getElem?_eq_some_iff.mp hn).1, hn]; rw [hn] at h; exact h
end MR
set_option Elab.async false
set_option linter.all false
set_option maxRecDepth 100000
set_option maxHeartbeats 1000000
namespace MR
open PySem L2
noncomputable def Pl : Nat → U → Prop
  | _, .non => True
  | _, .int _ => True
  | _, .str x => PyData.strOk x = true
  | n + 1, .tup l => ∀ u ∈ l, Pl n u
  | _, _ => False
mutual
noncomputable def pd : U → PyData
  | .non => .none
  | .bl b => .bool b
  | .int i => .int i
  | .str x => .str x
  | .tup l => .tuple (pds l)
  | .ref _ => .none
noncomputable def pds : List U → List PyData
  | [] => []
  | u :: r => pd u :: pds r
end
theorem pl_tup {n : Nat} {l : List U} : Pl (n + 1) (.tup l) ↔ ∀ u ∈ l, Pl n u := by rw [Pl]
theorem toP_pls {L : UH} {n m : Nat} (ih : ∀ u, Pl n u → toP L m u = some (pd u)) : ∀ l : List U, (∀ u ∈ l, Pl n u) → mapO (toP L m) l = some (pds l)
  | [], _ => rfl
  | u :: r, h => by
    simp only [mapO, ih u (h u (List.mem_cons_self ..)), toP_pls ih r (fun x hx => h x (List.mem_cons_of_mem _ hx)), Option.bind_some, Option.map_some, pds]
theorem toP_pl (L : UH) : ∀ (n m : Nat) (u : U), n < m → Pl n u → toP L m u = some (pd u)
  | n, 0, u, h, _ => by omega
  | n, m + 1, .non, _, _ => rfl
  | n, m + 1, .int _, _, _ => rfl
  | n, m + 1, .str _, _, _ => rfl
  | n, m + 1, .bl _, _, h => by cases n <;> exact absurd h (by simp [Pl])
  | n, m + 1, .ref _, _, h => by cases n <;> exact absurd h (by simp [Pl])
  | 0, m + 1, .tup l, _, h => absurd h (by simp [Pl])
  | n + 1, m + 1, .tup l, hm, h => by
    have := toP_pls (L := L) (n := n) (m := m) (fun u hu => toP_pl L n m u (by omega) hu) l (pl_tup.mp h)
    show (mapO (toP L m) l).map PyData.tuple = _
    rw [this]
    rfl
theorem pds_lay {n : Nat} (ih : ∀ u, Pl n u → PyData.canLay0 (pd u) = true ∧ PyData.depth (pd u) ≤ n) : ∀ l : List U, (∀ u ∈ l, Pl n u) → PyData.canLayAll0 (pds l) = true ∧ PyData.depthAll (pds l) ≤ n
  | [], _ => ⟨rfl, Nat.zero_le _⟩
  | u :: r, h => by
    obtain ⟨a1, a2⟩ := ih u (h u (List.mem_cons_self ..))
    obtain ⟨b1, b2⟩ := pds_lay ih r (fun x hx => h x (List.mem_cons_of_mem _ hx))
    refine ⟨by simp [pds, PyData.canLayAll0, a1, b1], ?_⟩
    simp only [pds, PyData.depthAll]
    omega
theorem pd_lay : ∀ (n : Nat) (u : U), Pl n u → PyData.canLay0 (pd u) = true ∧ PyData.depth (pd u) ≤ n
  | n, .non, _ => by simp [pd, PyData.canLay0, PyData.depth]
  | n, .int _, _ => by simp [pd, PyData.canLay0, PyData.depth]
  | n, .str x, h => by
    have h' : PyData.strOk x = true := by cases n <;> simpa [Pl] using h
    simp [pd, PyData.canLay0, PyData.depth, h']
  | n, .bl _, h => by cases n <;> exact absurd h (by simp [Pl])
  | n, .ref _, h => by cases n <;> exact absurd h (by simp [Pl])
  | 0, .tup l, h => absurd h (by simp [Pl])
  | n + 1, .tup l, h => by
    obtain ⟨a, b⟩ := pds_lay (fun u hu => pd_lay n u hu) l (pl_tup.mp h)
    simp only [pd, PyData.canLay0, PyData.depth]
    exact ⟨a, by omega⟩
theorem eqvAll_iff {n : Nat} (ih : ∀ u w, Pl n u → Pl n w → (PyData.eqv (pd u) (pd w) = true ↔ u = w)) : ∀ l m : List U, (∀ u ∈ l, Pl n u) → (∀ u ∈ m, Pl n u) → (PyData.eqvAll (pds l) (pds m) = true ↔ l = m)
  | [], [], _, _ => by simp [pds, PyData.eqvAll]
  | [], _ :: _, _, _ => by simp [pds, PyData.eqvAll]
  | _ :: _, [], _, _ => by simp [pds, PyData.eqvAll]
  | u :: l, w :: m, h1, h2 => by
    simp only [pds, PyData.eqvAll, Bool.and_eq_true, ih u w (h1 u (List.mem_cons_self ..)) (h2 w (List.mem_cons_self ..)), eqvAll_iff ih l m (fun x hx => h1 x (List.mem_cons_of_mem _ hx)) (fun x hx => h2 x (List.mem_cons_of_mem _ hx)), List.cons.injEq]
theorem eqv_iff : ∀ (n : Nat) (u w : U), Pl n u → Pl n w → (PyData.eqv (pd u) (pd w) = true ↔ u = w)
  | n, .bl _, _, h, _ => by cases n <;> exact absurd h (by simp [Pl])
  | n, .ref _, _, h, _ => by cases n <;> exact absurd h (by simp [Pl])
  | n, _, .bl _, _, h => by cases n <;> exact absurd h (by simp [Pl])
  | n, _, .ref _, _, h => by cases n <;> exact absurd h (by simp [Pl])
  | 0, .tup _, _, h, _ => absurd h (by simp [Pl])
  | 0, _, .tup _, _, h => absurd h (by simp [Pl])
  | n + 1, .tup l, .tup m, h1, h2 => by
    simp only [pd, PyData.eqv, U.tup.injEq]
    exact eqvAll_iff (fun u w => eqv_iff n u w) l m (pl_tup.mp h1) (pl_tup.mp h2)
  | n, .non, .non, _, _ => by simp [pd, PyData.eqv]
  | n, .non, .int _, _, _ => by simp [pd, PyData.eqv]
  | n, .non, .str _, _, _ => by simp [pd, PyData.eqv]
  | n + 1, .non, .tup _, _, _ => by simp [pd, PyData.eqv]
  | n, .int _, .non, _, _ => by simp [pd, PyData.eqv]
  | n, .int _, .int _, _, _ => by simp [pd, PyData.eqv]
  | n, .int _, .str _, _, _ => by simp [pd, PyData.eqv]
  | n + 1, .int _, .tup _, _, _ => by simp [pd, PyData.eqv]
  | n, .str _, .non, _, _ => by simp [pd, PyData.eqv]
  | n, .str _, .int _, _, _ => by simp [pd, PyData.eqv]
  | n, .str _, .str _, _, _ => by simp [pd, PyData.eqv]
  | n + 1, .str _, .tup _, _, _ => by simp [pd, PyData.eqv]
  | n + 1, .tup _, .non, _, _ => by simp [pd, PyData.eqv]
  | n + 1, .tup _, .int _, _, _ => by simp [pd, PyData.eqv]
  | n + 1, .tup _, .str _, _, _ => by simp [pd, PyData.eqv]
noncomputable def eqB (u w : U) : Bool := PyData.eqv (pd u) (pd w)
theorem eqB_iff {u w : U} (h1 : Pl 6 u) (h2 : Pl 6 w) : eqB u w = true ↔ u = w := eqv_iff 6 u w h1 h2
theorem eqB_self {u : U} (h1 : Pl 6 u) : eqB u u = true := (eqB_iff h1 h1).mpr rfl
theorem eqP_pl {u w : U} (L : UH) (h1 : Pl 6 u) (h2 : Pl 6 w) : eqP u w L = some (eqB u w) := by
  obtain ⟨a1, a2⟩ := pd_lay 6 u h1
  obtain ⟨b1, b2⟩ := pd_lay 6 w h2
  have s1 : SeqAt.shaped (pd u) = true := by unfold SeqAt.shaped; rw [a1]; simp; omega
  have s2 : SeqAt.shaped (pd w) = true := by unfold SeqAt.shaped; rw [b1]; simp; omega
  unfold eqP
  simp only [toP_pl L 6 8 u (by decide) h1, toP_pl L 6 8 w (by decide) h2, Option.bind_some, s1, s2, and_self, if_true, eqB]
theorem semEq_pl {u w : U} (L : UH) (h1 : Pl 6 u) (h2 : Pl 6 w) : semEq u w L = some (.bl (eqB u w), L) := by unfold semEq; rw [eqP_pl L h1 h2]; rfl
theorem semNe_pl {u w : U} (L : UH) (h1 : Pl 6 u) (h2 : Pl 6 w) : semNe u w L = some (.bl (!eqB u w), L) := by unfold semNe; rw [eqP_pl L h1 h2]; rfl
theorem Pl.int (n : Nat) (i : Int) : Pl n (.int i) := by cases n <;> exact trivial
theorem rng1_ok {g : FA} {δ : UE} {L L' : UH} {j : Int} (hg : g δ L = some ([.int j], L')) (h0 : 0 ≤ j) (h1 : j < 1000000) : fRng1 g δ L = some (.seq (rangeU 0 j.toNat), L') := by
  rw [fRng1_eq, hg]
  simp only [Option.bind_some]
  rw [if_pos ⟨by omega, by omega⟩]
theorem rng1_nat {g : FA} {δ : UE} {L L' : UH} {n : Nat} (hg : g δ L = some ([.int n], L')) (h1 : n < 1000000) : fRng1 g δ L = some (.seq (rangeU 0 n), L') := by
  have := rng1_ok hg (by omega) (by omega)
  rwa [Int.toNat_natCast] at this
end MR
set_option Elab.async false
set_option linter.all false
set_option maxRecDepth 100000
set_option maxHeartbeats 1000000
namespace Lw
open PySem L2 MR
end Lw
set_option Elab.async false
set_option linter.all false
set_option maxRecDepth 100000
set_option maxHeartbeats 1000000
namespace Lw
open PySem L2 MR
structure Ex (d : Nat) (L L' : UH) : Prop where
  le : L.length ≤ L'.length
  at_ : ∀ i, i < L.length → i ≠ d → L'[i]? = L[i]?
theorem Ex.refl (d : Nat) (L : UH) : Ex d L L := ⟨Nat.le_refl _, fun _ _ _ => rfl⟩
theorem Ex.trans {d : Nat} {L L1 L2 : UH} (a : Ex d L L1) (b : Ex d L1 L2) : Ex d L L2 :=
  ⟨Nat.le_trans a.le b.le, fun i h1 h2 => by rw [b.at_ i (Nat.lt_of_lt_of_le h1 a.le) h2, a.at_ i h1 h2]⟩
theorem Ex.new (d : Nat) (L : UH) (x : List HU) : Ex d L (L ++ x) := ⟨by simp, fun i h _ => by rw [List.getElem?_append_left h]⟩
theorem Ex.put (d : Nat) (L : UH) (o : HU) : Ex d L (L.set d o) := ⟨by simp, fun i _ h => by rw [List.getElem?_set_ne (Ne.symm h)]⟩
theorem Ex.set {d : Nat} {L L' : UH} (h : Ex d L L') {n : Nat} (hn : L.length ≤ n) (o : HU) : Ex d L (L'.set n o) :=
  ⟨by rw [List.length_set]; exact h.le, fun i h1 h2 => by rw [List.getElem?_set_ne (by omega)]; exact h.at_ i h1 h2⟩
theorem Ex.get {d : Nat} {L L' : UH} {i : Nat} {o : HU} (h : Ex d L L') (e : L[i]? = some o) (hi : i ≠ d) : L'[i]? = some o := by
  rw [h.at_ i (List.getElem?_eq_some_iff.mp e).1 hi]; exact e
noncomputable def Gw (L L' : UH) : Prop := ∃ x, L' = L ++ x
theorem Gw.refl (L : UH) : Gw L L := ⟨[], by simp⟩
theorem Gw.trans {L L1 M : UH} (a : Gw L L1) (b : Gw L1 M) : Gw L M := by obtain ⟨x, rfl⟩ := a; obtain ⟨y, rfl⟩ := b; exact ⟨x ++ y, by simp⟩
theorem Gw.new (L x : UH) : Gw L (L ++ x) := ⟨x, rfl⟩
theorem Gw.set {L L' : UH} (h : Gw L L') {n : Nat} (hn : L.length ≤ n) (o : HU) : Gw L (L'.set n o) := by
  obtain ⟨x, rfl⟩ := h
  exact ⟨x.set (n - L.length) o, by rw [List.set_append_right _ _ hn]⟩
theorem Gw.le {L L' : UH} (h : Gw L L') : L.length ≤ L'.length := by obtain ⟨x, rfl⟩ := h; simp
theorem Gw.get {L L' : UH} (h : Gw L L') {n : Nat} {o : HU} (e : L[n]? = some o) : L'[n]? = some o := by
  obtain ⟨x, rfl⟩ := h
  rw [List.getElem?_append_left (List.getElem?_eq_some_iff.mp e).1]; exact e
theorem Gw.seq {L L' : UH} (h : Gw L L') {n : Nat} {us : List U} (e : seqAt L n = some us) : seqAt L' n = some us := by
  obtain ⟨x, rfl⟩ := h; exact seqAt_app e
theorem Gw.ex {L L' : UH} (h : Gw L L') (d : Nat) : Ex d L L' := by obtain ⟨x, rfl⟩ := h; exact Ex.new d L x
theorem fSeq_nx {f g : FS} {δ δ' : UE} {L L' : UH} (h : f δ L = some (.nx δ', L')) : fSeq f g δ L = g δ' L' := by rw [fSeq_eq, h]; rfl
theorem Ex.seq {d : Nat} {L L' : UH} (h : Ex d L L') {n : Nat} {us : List U} (hn : n ≠ d) (e : seqAt L n = some us) : seqAt L' n = some us := by
  unfold seqAt at e ⊢
  cases hq : L[n]? with
  | none => rw [hq] at e; cases e
  | some o => rw [h.get hq hn]; rw [hq] at e; exact e
noncomputable def b_l_draw : FS := (fSeq (fAsg (f2 semAdd (f2 semIx (fVar 0) (fC (.int 2))) (fC (.int 1))) (MR.gSub (fVar 0) (fC (.int 2)))) (fSeq (fIfS (fAnd (fTest (f2 semEq (f2 semIx (fVar 0) (fC (.int 1))) (fC (.int 1)))) (fTest (f2 semGt (f2 semIx (fVar 0) (fC (.int 0))) (fC (.int 0))))) (fSeq (fAsg (f2 semMod (f2 semIx (fVar 0) (fC (.int 0))) (fVar 1)) (gN 2)) (fSeq (fAsg (f2 semDiv (f2 semIx (fVar 0) (fC (.int 0))) (fVar 1)) (MR.gSub (fVar 0) (fC (.int 0)))) (fRet (fVar 2)))) fNext) (fSeq (fAsg (f2 semMod (f2 semMul (f2 semAdd (f2 semAdd (f2 semIx (fVar 0) (fC (.int 3))) (f2 semMul (fC (.int 6997)) (f2 semIx (fVar 0) (fC (.int 2))))) (fC (.int 11))) (fC (.int 48271))) (fC (.int 2147483647))) (gN 3)) (fSeq (fAsg (f2 semMod (f2 semMul (f2 semMod (f2 semMul (fVar 3) (fVar 3)) (fC (.int 2147483629))) (fC (.int 40692))) (fC (.int 2147483399))) (gN 3)) (fRet (f2 semMod (f2 semDiv (fVar 3) (fC (.int 7))) (fVar 1)))))))
noncomputable def m_l_draw : FN := fnU 4 2 b_l_draw
noncomputable def b_l_folded_1 : FS := (fAsg (f2 semMod (f2 semAdd (f2 semMul (fVar 1) (fC (.int 48271))) (f2 semMod (fVar 2) (fC (.int 2147483629)))) (fC (.int 2147483647))) (gN 1))
noncomputable def b_l_folded : FS := (fSeq (fAsg (fCall semLen (fCons (fVar 0) fNil)) (gN 1)) (fSeq (fFor (fSeqI (fVar 0)) (gN 2) b_l_folded_1) (fRet (fVar 1))))
noncomputable def m_l_folded : FN := fnU 3 1 b_l_folded
noncomputable def b_l_many : FS := (fSeq (fAsg (fOwn 2 m_l_draw (fCons (fVar 0) (fCons (fC (.int 4)) fNil))) (gN 1)) (fSeq (fIfS (fTest (f2 semEq (fVar 1) (fC (.int 0)))) (fRet (f2 semAdd (fC (.int 1)) (fOwn 2 m_l_draw (fCons (fVar 0) (fCons (fC (.int 6)) fNil))))) fNext) (fSeq (fIfS (fTest (f2 semEq (fVar 1) (fC (.int 1)))) (fRet (fCall semMax (fCons (fC (.int 1)) (fCons (fCall semMin (fCons (fC (.int 200)) (fCons (f2 semAdd (f2 semSub (f2 semShl (fC (.int 1)) (fOwn 2 m_l_draw (fCons (fVar 0) (fCons (fC (.int 9)) fNil)))) (fC (.int 1))) (fOwn 2 m_l_draw (fCons (fVar 0) (fCons (fC (.int 3)) fNil)))) fNil))) fNil)))) fNext) (fRet (f2 semIx (fLst (fCons (f2 semAdd (fC (.int 1)) (fOwn 2 m_l_draw (fCons (fVar 0) (fCons (fC (.int 200)) fNil)))) (fCons (fC (.int 200)) fNil))) (fCall semInt (fCons (fAndV (f2 semEq (fVar 1) (fC (.int 3))) (f2 semEq (fOwn 2 m_l_draw (fCons (fVar 0) (fCons (fC (.int 2)) fNil))) (fC (.int 0)))) fNil)))))))
noncomputable def m_l_many : FN := fnU 2 1 b_l_many
noncomputable def b_l_number : FS := (fSeq (fIfS (fTest (f2 semEq (fVar 1) (fC (.int 0)))) (fRet (f2 semSub (fOwn 2 m_l_draw (fCons (fVar 0) (fCons (fC (.int 4)) fNil))) (fC (.int 1)))) fNext) (fSeq (fIfS (fTest (f2 semEq (fVar 1) (fC (.int 1)))) (fRet (f2 semSub (fOwn 2 m_l_draw (fCons (fVar 0) (fCons (fC (.int 41)) fNil))) (fC (.int 20)))) fNext) (fSeq (fAsg (f2 semIx (fLst (fCons (f2 semAdd (f2 semMul (fOwn 2 m_l_draw (fCons (fVar 0) (fCons (f2 semPow (fC (.int 10)) (fC (.int 5))) fNil))) (f2 semPow (fC (.int 10)) (fC (.int 5)))) (fOwn 2 m_l_draw (fCons (fVar 0) (fCons (f2 semPow (fC (.int 10)) (fC (.int 5))) fNil)))) (fCons (f2 semSub (f2 semPow (fC (.int 10)) (fC (.int 10))) (fC (.int 1))) fNil))) (fCall semInt (fCons (f2 semEq (fOwn 2 m_l_draw (fCons (fVar 0) (fCons (fC (.int 8)) fNil))) (fC (.int 0))) fNil))) (gN 2)) (fRet (f2 semMul (f2 semIx (fLst (fCons (fC (.int 1)) (fCons (fNeg (fC (.int 1))) fNil))) (fOwn 2 m_l_draw (fCons (fVar 0) (fCons (fC (.int 2)) fNil)))) (fVar 2))))))
noncomputable def m_l_number : FN := fnU 3 2 b_l_number
noncomputable def b_l_seed : FS := (fSeq (fAsg (fCall semMax (fCons (fVar 0) (fCons (f2 semSub (fC (.int 0)) (fVar 0)) fNil))) (gN 1)) (fRet (fLst (fCons (fVar 1) (fCons (fCall semInt (fCons (f2 semGe (fVar 1) (f2 semPow (fC (.int 10)) (fC (.int 18)))) fNil)) (fCons (fC (.int 0)) (fCons (f2 semMod (fVar 0) (fC (.int 1999999913))) fNil)))))))
noncomputable def m_l_seed : FN := fnU 2 1 b_l_seed
structure Seed (L : UH) (d : Nat) (B : Int) : Prop where
  ex : ∃ (a b c e : Int), L[d]? = some (.lst [.int a, .int b, .int c, .int e]) ∧ 0 ≤ a ∧ 0 ≤ c ∧ c ≤ B ∧ 0 ≤ e ∧ e < 1999999913
theorem Seed.lt {L : UH} {d : Nat} {B : Int} (h : Seed L d B) : d < L.length := by
  obtain ⟨a, b, c, e, h1, _⟩ := h.ex
  exact (List.getElem?_eq_some_iff.mp h1).1
theorem Seed.mono {L : UH} {d : Nat} {B B' : Int} (h : Seed L d B) (hb : B ≤ B') : Seed L d B' := by
  obtain ⟨a, b, c, e, h1, h2, h3, h4, h5⟩ := h.ex
  exact ⟨a, b, c, e, h1, h2, h3, by omega, h5⟩
theorem Seed.new {L : UH} {d : Nat} {B : Int} (h : Seed L d B) (x : List HU) : Seed (L ++ x) d B := by
  obtain ⟨a, b, c, e, h1, h2⟩ := h.ex
  exact ⟨a, b, c, e, by rw [List.getElem?_append_left (List.getElem?_eq_some_iff.mp h1).1]; exact h1, h2⟩
theorem Seed.set {L : UH} {d : Nat} {B : Int} (h : Seed L d B) {n : Nat} (hn : n ≠ d) (o : HU) : Seed (L.set n o) d B := by
  obtain ⟨a, b, c, e, h1, h2⟩ := h.ex
  exact ⟨a, b, c, e, by rw [List.getElem?_set_ne hn]; exact h1, h2⟩
theorem Seed.gw {L L' : UH} {d : Nat} {B : Int} (h : Seed L d B) (g : Gw L L') : Seed L' d B := by obtain ⟨x, rfl⟩ := g; exact h.new x
theorem draw_ok {L : UH} {d : Nat} {B many : Int} (D : Seed L d B) (hB : B ≤ 1000000000000) (h0 : 0 < many) (h1 : many < 1000000000000000) :
    ∃ r L', m_l_draw [.ref d, .int many] L = some (.int r, L') ∧ 0 ≤ r ∧ r < many ∧ Seed L' d (B + 1) ∧ Ex d L L' := by
  obtain ⟨a, b, c, e, hd, ha, hc0, hc1, he0, he1⟩ := D.ex
  have hdl : d < L.length := (List.getElem?_eq_some_iff.mp hd).1
  have q1 := seqAt_lst hd
  have q2 := lstAt_lst hd
  have md : ∀ x : Int, 0 ≤ x % many ∧ x % many < many := fun x => ⟨Int.emod_nonneg _ (by omega), Int.emod_lt_of_pos _ h0⟩
  have i0 : ∀ (x0 x1 x2 x3 : U), L2.atI [x0, x1, x2, x3] 0 = some x0 := fun _ _ _ _ => rfl
  have i1 : ∀ (x0 x1 x2 x3 : U), L2.atI [x0, x1, x2, x3] 1 = some x1 := fun _ _ _ _ => rfl
  have i2 : ∀ (x0 x1 x2 x3 : U), L2.atI [x0, x1, x2, x3] 2 = some x2 := fun _ _ _ _ => rfl
  have i3 : ∀ (x0 x1 x2 x3 : U), L2.atI [x0, x1, x2, x3] 3 = some x3 := fun _ _ _ _ => rfl
  have j0 : ixN 4 0 = some 0 := rfl
  have j2 : ixN 4 2 = some 2 := rfl
  have set1 : ∀ us : List U, seqAt (L.set d (.lst us)) d = some us ∧ lstAt (L.set d (.lst us)) d = some us := fun us => by
    have : (L.set d (.lst us))[d]? = some (.lst us) := List.getElem?_set_self hdl
    exact ⟨seqAt_lst this, lstAt_lst this⟩
  have s1 := set1 [.int a, .int b, .int (c + 1), .int e]
  have keep : ∀ x : Int, 0 ≤ x → Seed (L.set d (.lst [.int x, .int b, .int (c + 1), .int e])) d (B + 1) ∧ Ex d L (L.set d (.lst [.int x, .int b, .int (c + 1), .int e])) := fun x hx =>
    ⟨⟨x, b, c + 1, e, List.getElem?_set_self hdl, hx, by omega, by omega, he0, he1⟩, Ex.put d L _⟩
  by_cases hb : b = 1 ∧ 0 < a
  · obtain ⟨rfl, hap⟩ := hb
    refine ⟨a % many, L.set d (.lst [.int (a / many), .int 1, .int (c + 1), .int e]), ?_, (md a).1, (md a).2, (keep (a / many) (Int.ediv_nonneg (by omega) (by omega))).1, (keep (a / many) (Int.ediv_nonneg (by omega) (by omega))).2⟩
    simp [m_l_draw, fnU, b_l_draw, q1, q2, i0, i1, i2, i3, j0, j2, s1, hap, h0, divOk_of h0 (by omega), List.replicate]
  · generalize hA : (e + 6997 * (c + 1) + 11) * 48271 % 2147483647 = A
    have hA0 : 0 ≤ A ∧ A < 2147483647 := by rw [← hA]; exact ⟨Int.emod_nonneg _ (by decide), Int.emod_lt_of_pos _ (by decide)⟩
    generalize hC : A * A % 2147483629 * 40692 % 2147483399 = Cn
    have m1 : mulOk 6997 (c + 1) = true := mulOk_l (by decide) (by decide)
    have m2 : ∀ x : Int, mulOk x 48271 = true := fun x => mulOk_r (by decide) (by decide)
    have m3 : mulOk A A = true := mulOk_l (by omega) (by omega)
    have m4 : ∀ x : Int, mulOk x 40692 = true := fun x => mulOk_r (by decide) (by decide)
    have d7 : ∀ x : Int, divOk x 7 = true := fun x => divOk_of (by decide) (by decide)
    refine ⟨Cn / 7 % many, L.set d (.lst [.int a, .int b, .int (c + 1), .int e]), ?_, (md _).1, (md _).2, (keep a ha).1, (keep a ha).2⟩
    by_cases hb1 : b = 1
    · have hna : ¬ 0 < a := fun z => hb ⟨hb1, z⟩
      simp [m_l_draw, fnU, b_l_draw, q1, q2, i0, i1, i2, i3, j0, j2, s1, hb1, hna, h0, m1, m2, m3, m4, d7, hA, hC, List.replicate]
      subst hb1
      simp [q1, q2, i0, i1, i2, i3, j2, s1, hna, h0, m1, m2, m3, m4, d7, hA, hC]
    · simp [m_l_draw, fnU, b_l_draw, q1, q2, i0, i1, i2, i3, j0, j2, s1, hb1, h0, m1, m2, m3, m4, d7, hA, hC, List.replicate]
theorem seed_ok (cell : Int) (L : UH) : ∃ L', m_l_seed [.int cell] L = some (.ref L.length, L') ∧ Seed L' L.length 0 ∧ Gw L L' := by
  have hmax : semMax [.int cell, .int (0 - cell)] L = some (.int (if 0 - cell > cell then 0 - cell else cell), L) := rfl
  generalize hn : (if 0 - cell > cell then 0 - cell else cell) = n at hmax
  have hn0 : 0 ≤ n := by rw [← hn]; split <;> omega
  have p18 : powOk 10 18 = true := rfl
  have hint : ∀ k : Bool, semInt [.bl k] L = some (.int (if k then 1 else 0), L) := fun _ => rfl
  refine ⟨L ++ [.lst [.int n, .int (if decide (1000000000000000000 ≤ n) = true then 1 else 0), .int 0, .int (cell % 1999999913)]], ?_, ⟨n, (if decide (1000000000000000000 ≤ n) = true then 1 else 0), 0, cell % 1999999913, by simp, hn0, by omega, by omega, Int.emod_nonneg _ (by decide), Int.emod_lt_of_pos _ (by decide)⟩, Gw.new _ _⟩
  simp only [Int.zero_sub] at hmax
  simp [m_l_seed, fnU, b_l_seed, hmax, p18, hint, small_of, List.replicate]
theorem folded_ok {L : UH} {n : Nat} (ns : List Int) (hs : seqAt L n = some (ns.map U.int)) : ∃ r, m_l_folded [.ref n] L = some (.int r, L) := by
  obtain ⟨δ', L', e, hP⟩ := for_ref (us := ns.map U.int) (n := n) (L0 := L) (L := L) (δ := [some (.ref n), some (.int ns.length), none]) (body := b_l_folded_1) (g := gN 2) (fi := fSeqI (fVar 0))
    (fun _ δ' L' => ∃ y1 y2, δ' = [some (.ref n), some (.int y1), y2] ∧ L' = L)
    (by simp [iSeqU_ref hs]) ⟨ns.length, none, rfl, rfl⟩
    (fun k δ L' ⟨_, _, _, hL⟩ => by rw [hL]; exact hs)
    (fun k u δ L' hu ⟨y1, y2, hδ, hL⟩ => by
      subst hδ; subst hL
      rw [List.getElem?_map] at hu
      obtain ⟨c, _, rfl⟩ := Option.map_eq_some_iff.mp hu
      refine ⟨_, _, rfl, [some (.ref n), some (.int ((y1 * 48271 + c % 2147483629) % 2147483647)), some (.int c)], _, .inl ?_, _, _, rfl, rfl⟩
      have m1 : mulOk y1 48271 = true := mulOk_r (by decide) (by decide)
      simp [b_l_folded_1, m1])
  obtain ⟨y1, y2, hδ, hL⟩ := hP
  subst hL
  refine ⟨y1, ?_⟩
  have hlen : semLen [.ref n] L' = some (.int ns.length, L') := by simp [semLen, lenU, hs]
  rw [hδ] at e
  simp [m_l_folded, fnU, b_l_folded, -fFor_eq, hlen, e, List.replicate]
theorem int_bl (k : Bool) (L : UH) : semInt [.bl k] L = some (.int (if k then 1 else 0), L) := rfl
theorem number2_ok {L : UH} {d : Nat} {B way : Int} (D : Seed L d B) (hB : B ≤ 100000000000) (hw : way = 0 ∨ way = 1 ∨ way = 2) :
    ∃ r L', m_l_number [.ref d, .int way] L = some (.int r, L') ∧ -9999999999 ≤ r ∧ r ≤ 9999999999 ∧ Seed L' d (B + 4) ∧ Ex d L L' := by
  rcases hw with rfl | rfl | rfl
  · obtain ⟨r, L1, e1, a1, b1, D1, x1⟩ := draw_ok (many := 4) D (by omega) (by decide) (by decide)
    exact ⟨r - 1, L1, by simp [m_l_number, fnU, b_l_number, e1, List.replicate], by omega, by omega, D1.mono (by omega), x1⟩
  · obtain ⟨r, L1, e1, a1, b1, D1, x1⟩ := draw_ok (many := 41) D (by omega) (by decide) (by decide)
    exact ⟨r - 20, L1, by simp [m_l_number, fnU, b_l_number, e1, List.replicate], by omega, by omega, D1.mono (by omega), x1⟩
  · obtain ⟨r1, L1, e1, a1, b1, D1, x1⟩ := draw_ok (many := 100000) D (by omega) (by decide) (by decide)
    obtain ⟨r2, K2, e2, a2, b2, D2, x2⟩ := draw_ok (many := 100000) D1 (by omega) (by decide) (by decide)
    obtain ⟨r3, L3, e3, a3, b3, D3, x3⟩ := draw_ok (many := 8) (D2.new [HU.lst [.int (r1 * 100000 + r2), .int 9999999999]]) (by omega) (by decide) (by decide)
    have hdl := D2.lt
    have q3 : seqAt L3 K2.length = some [.int (r1 * 100000 + r2), .int 9999999999] := seqAt_lst (x3.get (i := K2.length) (by simp) (by omega))
    have hg : ∃ g : Int, L2.atI [U.int (r1 * 100000 + r2), .int 9999999999] (if (r3 == 0) = true then 1 else 0) = some (.int g) ∧ 0 ≤ g ∧ g ≤ 9999999999 := by
      by_cases h : r3 = 0
      · exact ⟨9999999999, by simp [h]; rfl, by decide, by decide⟩
      · exact ⟨r1 * 100000 + r2, by simp [h]; rfl, by omega, by omega⟩
    obtain ⟨g, hg, g0, g1⟩ := hg
    obtain ⟨r4, L4, e4, a4, b4, D4, x4⟩ := draw_ok (many := 2) (D3.new [HU.lst [.int 1, .int (-1)]]) (by omega) (by decide) (by decide)
    have q4 : seqAt L4 L3.length = some [.int 1, .int (-1)] := seqAt_lst (x4.get (i := L3.length) (by simp) (by have := D3.lt; omega))
    have hs : ∃ sg : Int, L2.atI [U.int 1, .int (-1)] r4 = some (.int sg) ∧ (sg = 1 ∨ sg = -1) := by
      have : r4 = 0 ∨ r4 = 1 := by omega
      rcases this with rfl | rfl
      · exact ⟨1, rfl, .inl rfl⟩
      · exact ⟨-1, rfl, .inr rfl⟩
    obtain ⟨sg, hs, hsg⟩ := hs
    have p5 : powOk 10 5 = true := rfl
    have p10 : powOk 10 10 = true := rfl
    have m1 : mulOk r1 100000 = true := mulOk_r (by decide) (by decide)
    have m2 : mulOk sg g = true := mulOk_r (by omega) (by omega)
    refine ⟨sg * g, L4, ?_, by rcases hsg with rfl | rfl <;> omega, by rcases hsg with rfl | rfl <;> omega, D4.mono (by omega), x1.trans (x2.trans ((Ex.new d K2 _).trans (x3.trans ((Ex.new d L3 _).trans x4))))⟩
    simp only [beq_iff_eq] at hg
    simp [m_l_number, fnU, b_l_number, p5, p10, e1, m1, e2, small_of, e3, int_bl, q3, hg, e4, q4, hs, m2, List.replicate]
theorem many_ok {L : UH} {d : Nat} {B : Int} (D : Seed L d B) (hB : B ≤ 100000000000) :
    ∃ r L', m_l_many [.ref d] L = some (.int r, L') ∧ 1 ≤ r ∧ r ≤ 200 ∧ Seed L' d (B + 4) ∧ Ex d L L' := by
  obtain ⟨w, L1, e1, a1, b1, D1, x1⟩ := draw_ok (many := 4) D (by omega) (by decide) (by decide)
  by_cases h0 : w = 0
  · subst h0
    obtain ⟨r, K2, e2, a2, b2, D2, x2⟩ := draw_ok (many := 6) D1 (by omega) (by decide) (by decide)
    exact ⟨1 + r, K2, by simp [m_l_many, fnU, b_l_many, e1, e2, List.replicate], by omega, by omega, D2.mono (by omega), x1.trans x2⟩
  · by_cases h1 : w = 1
    · subst h1
      obtain ⟨r, K2, e2, a2, b2, D2, x2⟩ := draw_ok (many := 9) D1 (by omega) (by decide) (by decide)
      obtain ⟨r3, L3, e3, a3, b3, D3, x3⟩ := draw_ok (many := 3) D2 (by omega) (by decide) (by decide)
      have pk : powOk 1 r = true := by unfold powOk; simp; omega
      generalize hv : 1 * 2 ^ r.toNat - 1 + r3 = v
      have hmin : semMin [.int 200, .int v] L3 = some (.int (if v < 200 then v else 200), L3) := rfl
      generalize hm : (if v < 200 then v else 200) = m at hmin
      have hmax : semMax [.int 1, .int m] L3 = some (.int (if m > 1 then m else 1), L3) := rfl
      have hm2 : m ≤ 200 := by rw [← hm]; split <;> omega
      have hshl : ∀ L, semShl (.int 1) (.int r) L = some (.int (1 * 2 ^ r.toNat), L) := fun L => by
        show (if powOk 1 r = true then _ else _) = _
        rw [if_pos pk]
      refine ⟨if m > 1 then m else 1, L3, ?_, by split <;> omega, by split <;> omega, D3.mono (by omega), x1.trans (x2.trans x3)⟩
      simp [m_l_many, fnU, b_l_many, e1, e2, hshl, e3, List.replicate, -Int.one_mul, hv, hmin, hmax]
    · obtain ⟨r, K2, e2, a2, b2, D2, x2⟩ := draw_ok (many := 200) D1 (by omega) (by decide) (by decide)
      have fin : ∀ (k : Bool), ∃ g : Int, L2.atI [U.int (1 + r), .int 200] (if k = true then 1 else 0) = some (.int g) ∧ 1 ≤ g ∧ g ≤ 200 := fun k => by
        cases k
        · exact ⟨1 + r, rfl, by omega, by omega⟩
        · exact ⟨200, rfl, by decide, by decide⟩
      by_cases h3 : w = 3
      · subst h3
        obtain ⟨r3, L3, e3, a3, b3, D3, x3⟩ := draw_ok (many := 2) (D2.new [HU.lst [.int (1 + r), .int 200]]) (by omega) (by decide) (by decide)
        have q3 : seqAt L3 K2.length = some [.int (1 + r), .int 200] := seqAt_lst (x3.get (i := K2.length) (by simp) (by have := D2.lt; omega))
        obtain ⟨g, hg, g0, g1⟩ := fin (r3 == 0)
        refine ⟨g, L3, ?_, g0, g1, D3.mono (by omega), x1.trans (x2.trans ((Ex.new d K2 _).trans x3))⟩
        simp only [beq_iff_eq] at hg
        simp [m_l_many, fnU, b_l_many, e1, e2, small_of, e3, int_bl, q3, hg, List.replicate]
      · have hb : (w == 3) = false := by simpa using h3
        have q2 : seqAt (K2 ++ [HU.lst [.int (1 + r), .int 200]]) K2.length = some [.int (1 + r), .int 200] := seqAt_lst (by simp)
        have hg : L2.atI [U.int (1 + r), .int 200] 0 = some (.int (1 + r)) := rfl
        refine ⟨1 + r, K2 ++ [HU.lst [.int (1 + r), .int 200]], ?_, by omega, by omega, (D2.new _).mono (by omega), x1.trans (x2.trans (Ex.new d K2 _))⟩
        simp [m_l_many, fnU, b_l_many, e1, h0, h1, e2, small_of, h3, int_bl, q2, hg, List.replicate]
end Lw
set_option Elab.async false
set_option linter.all false
set_option maxRecDepth 100000
set_option maxHeartbeats 1000000
namespace Lw
open PySem L2 MR
noncomputable def lowF : Nat → Nat → Nat
  | 0, _ => 1
  | f + 1, k => if k % 2 = 0 then 2 * lowF f (k / 2) else 1
noncomputable def low (k : Nat) : Nat := lowF 8 k
noncomputable def vis : Nat → Nat → Nat → Bool
  | 0, _, _ => false
  | f + 1, j, i => if i = j then true else if j < i then vis f (j + low j) i else false
theorem lowF_pos : ∀ f k, 1 ≤ lowF f k
  | 0, _ => Nat.le_refl _
  | f + 1, k => by unfold lowF; have := lowF_pos f (k / 2); split <;> omega
theorem low_pos (k : Nat) : 1 ≤ low k := lowF_pos 8 k
theorem low_le_all : ((List.range 201).all fun i => i == 0 || decide (low i ≤ i)) = true := by decide +kernel
theorem low_le {i : Nat} (h1 : 1 ≤ i) (h2 : i ≤ 200) : low i ≤ i := by
  have := List.all_eq_true.mp low_le_all i (List.mem_range.mpr (by omega))
  simp at this
  omega
theorem and_all : ((List.range 201).all fun i => i == 0 || (Builtin.bitAnd (i : Int) (-(i : Int)) == (low i : Int))) = true := by decide +kernel
theorem and_low {i : Nat} (h1 : 1 ≤ i) (h2 : i ≤ 200) : Builtin.bitAnd (i : Int) (-(i : Int)) = (low i : Int) := by
  have := List.all_eq_true.mp and_all i (List.mem_range.mpr (by omega))
  simp at this
  omega
theorem vis_all : ((List.range 201).all fun i => (List.range 201).all fun j => i == 0 || j == 0 || (vis 201 j i == (decide (i - low i < j) && decide (j ≤ i)))) = true := by decide +kernel
theorem vis_is {i j : Nat} (h1 : 1 ≤ i) (h2 : i ≤ 200) (h3 : 1 ≤ j) (h4 : j ≤ 200) : vis 201 j i = (decide (i - low i < j) && decide (j ≤ i)) := by
  have a := List.all_eq_true.mp vis_all i (List.mem_range.mpr (by omega))
  have b := List.all_eq_true.mp a j (List.mem_range.mpr (by omega))
  simp only [Bool.or_eq_true, beq_iff_eq] at b
  rcases b with (b | b) | b
  · omega
  · omega
  · exact b
theorem vis_fuel : ∀ (f g j i : Nat), i < f + j → i < g + j → vis f j i = vis g j i
  | 0, 0, _, _, _, _ => rfl
  | 0, g + 1, j, i, h1, _ => by unfold vis; rw [if_neg (by omega), if_neg (by omega)]
  | f + 1, 0, j, i, _, h2 => by unfold vis; rw [if_neg (by omega), if_neg (by omega)]
  | f + 1, g + 1, j, i, h1, h2 => by
    unfold vis
    have := low_pos j
    by_cases a : i = j
    · rw [if_pos a, if_pos a]
    · rw [if_neg a, if_neg a]
      by_cases b : j < i
      · rw [if_pos b, if_pos b]; exact vis_fuel f g (j + low j) i (by omega) (by omega)
      · rw [if_neg b, if_neg b]
noncomputable def putF : Nat → List Int → Nat → Int → Nat → List Int
  | 0, cs, _, _, _ => cs
  | f + 1, cs, j, v, n => if j ≤ n then putF f (cs.set j (cs.getD j 0 + v)) (j + low j) v n else cs
theorem putF_len : ∀ f cs j v n, (putF f cs j v n).length = cs.length
  | 0, _, _, _, _ => rfl
  | f + 1, cs, j, v, n => by
    unfold putF
    split
    · rw [putF_len]; simp
    · rfl
theorem putF_at : ∀ (f : Nat) (cs : List Int) (j : Nat) (v : Int) (n i : Nat), n < f + j → i ≤ n → cs.length = n + 1 → (putF f cs j v n).getD i 0 = cs.getD i 0 + if vis f j i = true then v else 0
  | 0, cs, j, v, n, i, h1, h2, _ => by simp [putF, vis]
  | f + 1, cs, j, v, n, i, h1, h2, h3 => by
    have hp := low_pos j
    unfold putF vis
    by_cases a : j ≤ n
    · rw [if_pos a, putF_at f _ (j + low j) v n i (by omega) h2 (by simp [h3])]
      by_cases b : i = j
      · subst b
        rw [if_pos rfl]
        have : vis f (i + low i) i = false := by
          cases f with
          | zero => rfl
          | succ f => unfold vis; rw [if_neg (by omega), if_neg (by omega)]
        rw [this]
        simp only [List.getD_eq_getElem?_getD]
        rw [List.getElem?_set_self (by omega)]
        simp
      · rw [if_neg b]
        simp only [List.getD_eq_getElem?_getD]
        rw [List.getElem?_set_ne (by omega)]
        by_cases c : j < i
        · rw [if_pos c]
        · rw [if_neg c]
          have : vis f (j + low j) i = false := by
            cases f with
            | zero => rfl
            | succ f => unfold vis; rw [if_neg (by omega), if_neg (by omega)]
          rw [this]
    · have c1 : ¬ i = j := by omega
      have c2 : ¬ j < i := by omega
      rw [if_neg a, if_neg c1, if_neg c2]
      simp
noncomputable def pre (row : List Int) (m : Nat) : Int := (row.take m).sum
theorem pre_set : ∀ (row : List Int) (q m : Nat) (v : Int), q < row.length → pre (row.set q (row.getD q 0 + v)) m = pre row m + if q < m then v else 0
  | [], q, m, v, h => by simp at h
  | a :: row, 0, 0, v, _ => by simp [pre]
  | a :: row, 0, m + 1, v, _ => by simp [pre]; omega
  | a :: row, q + 1, 0, v, _ => by simp [pre]
  | a :: row, q + 1, m + 1, v, h => by
    have := pre_set row q m v (by simpa using h)
    simp only [pre, List.set_cons_succ, List.take_succ_cons, List.sum_cons, List.getD_cons_succ] at this ⊢
    rw [this]
    by_cases c : q < m
    · simp [c]; omega
    · simp [c]
noncomputable def cellv (row : List Int) (i : Nat) : Int := pre row i - pre row (i - low i)
structure Fen (row cs : List Int) (n : Nat) : Prop where
  rl : row.length = n
  cl : cs.length = n + 1
  at_ : ∀ i, 1 ≤ i → i ≤ n → cs.getD i 0 = cellv row i
theorem Fen.put {row cs : List Int} {n p : Nat} (v : Int) (F : Fen row cs n) (hn : n ≤ 200) (h1 : 1 ≤ p) (h2 : p ≤ n) : Fen (row.set (p - 1) (row.getD (p - 1) 0 + v)) (putF (n + 1 - p) cs p v n) n := by
  have hrl := F.rl
  refine ⟨by simp [F.rl], by rw [putF_len]; exact F.cl, fun i i1 i2 => ?_⟩
  rw [putF_at (n + 1 - p) cs p v n i (by omega) i2 F.cl, F.at_ i i1 i2, vis_fuel (n + 1 - p) 201 p i (by omega) (by omega), vis_is i1 (by omega) h1 (by omega)]
  unfold cellv
  rw [pre_set row (p - 1) i v (by omega), pre_set row (p - 1) (i - low i) v (by omega)]
  have hl := low_le i1 (show i ≤ 200 by omega)
  have hp := low_pos i
  by_cases a : i - low i < p <;> by_cases b : p ≤ i
  · have c1 : p - 1 < i := by omega
    have c2 : ¬ p - 1 < i - low i := by omega
    simp [a, b, c1, c2]; omega
  · have c1 : ¬ p - 1 < i := by omega
    have c2 : ¬ p - 1 < i - low i := by omega
    simp [a, b, c1, c2]
  · have c1 : p - 1 < i := by omega
    have c2 : p - 1 < i - low i := by omega
    simp [a, b, c1, c2]; omega
  · omega
theorem sum_rep (m : Nat) : (List.replicate m (0 : Int)).sum = 0 := by
  induction m with
  | zero => rfl
  | succ m ih => rw [List.replicate_succ, List.sum_cons, ih]; rfl
theorem pre_zero (n m : Nat) : pre (List.replicate n 0) m = 0 := by
  unfold pre
  rw [List.take_replicate]
  exact sum_rep _
theorem Fen.new (n : Nat) : Fen (List.replicate n 0) (List.replicate (n + 1) 0) n := by
  refine ⟨by simp, by simp, fun i h1 h2 => ?_⟩
  unfold cellv
  rw [pre_zero, pre_zero]
  simp only [List.getD_eq_getElem?_getD]
  rw [List.getElem?_replicate]
  split <;> rfl
noncomputable def cellsv (row : List Int) : List Int := (List.range row.length).map fun i => cellv row (i + 1)
theorem Fen.tail {row cs : List Int} {n : Nat} (F : Fen row cs n) : cs.drop 1 = cellsv row := by
  apply List.ext_getElem?
  intro i
  unfold cellsv
  rw [List.getElem?_drop, List.getElem?_map, F.rl]
  by_cases h : i < n
  · have := F.at_ (i + 1) (by omega) (by omega)
    rw [List.getElem?_range h, Option.map_some, ← this]
    have hlt : 1 + i < cs.length := by rw [F.cl]; omega
    simp only [List.getD_eq_getElem?_getD]
    rw [List.getElem?_eq_getElem hlt, List.getElem?_eq_getElem (by rw [F.cl]; omega)]
    simp [Nat.add_comm]
  · rw [List.getElem?_eq_none (by rw [F.cl]; omega), List.getElem?_eq_none (by simpa using h)]; rfl
end Lw
set_option Elab.async false
set_option linter.all false
set_option maxRecDepth 100000
set_option maxHeartbeats 1000000
namespace Lw
open PySem L2 MR
noncomputable def b_SumTree___init__ : FS := (fSeq (fPutF "SumTree" "many" (fVar 0) (fVar 1)) (fPutF "SumTree" "cells" (fVar 0) (f2 semMul (fLst (fCons (fC (.int 0)) fNil)) (f2 semAdd (fVar 1) (fC (.int 1))))))
noncomputable def m_SumTree___init__ : FN := fnU 2 2 b_SumTree___init__
noncomputable def b_SumTree_need_place : FS := (fIfS (fOr (fTest (f2 semLt (fVar 1) (fC (.int 1)))) (fTest (f2 semGt (fVar 1) (fFld "SumTree" "many" (fVar 0))))) fNever fNext)
noncomputable def m_SumTree_need_place : FN := fnU 2 2 b_SumTree_need_place
noncomputable def b_lowest_bit : FS := (fRet (f2 semBitAnd (fVar 0) (fNeg (fVar 0))))
noncomputable def m_lowest_bit : FN := fnU 1 1 b_lowest_bit
noncomputable def b_SumTree_sum_of_first_1c : FT := (fTest (f2 semGt (fVar 3) (fC (.int 0))))
noncomputable def b_SumTree_sum_of_first_1 : FS := (fSeq (fAsg (f2 semAdd (fVar 2) (f2 semIx (fFld "SumTree" "cells" (fVar 0)) (fVar 3))) (gN 2)) (fAsg (f2 semSub (fVar 3) (fOwn 1 m_lowest_bit (fCons (fVar 3) fNil))) (gN 3)))
noncomputable def b_SumTree_sum_of_first : FS := (fSeq (fIfS (fOr (fTest (f2 semLt (fVar 1) (fC (.int 0)))) (fTest (f2 semGt (fVar 1) (fFld "SumTree" "many" (fVar 0))))) fNever fNext) (fSeq (fAsg (fC (.int 0)) (gN 2)) (fSeq (fAsg (fVar 1) (gN 3)) (fSeq (whileU b_SumTree_sum_of_first_1c b_SumTree_sum_of_first_1 100000) (fRet (fVar 2))))))
noncomputable def m_SumTree_sum_of_first : FN := fnU 4 2 b_SumTree_sum_of_first
noncomputable def b_SumTree_sum_from_to : FS := (fSeq (fDrop (fMethO "SumTree" "need_place" 2 m_SumTree_need_place (fVar 0) (fCons (fVar 1) fNil))) (fSeq (fDrop (fMethO "SumTree" "need_place" 2 m_SumTree_need_place (fVar 0) (fCons (fVar 2) fNil))) (fSeq (fIfS (fTest (f2 semLt (fVar 2) (fVar 1))) (fRet (fC (.int 0))) fNext) (fRet (f2 semSub (fMethO "SumTree" "sum_of_first" 2 m_SumTree_sum_of_first (fVar 0) (fCons (fVar 2) fNil)) (fMethO "SumTree" "sum_of_first" 2 m_SumTree_sum_of_first (fVar 0) (fCons (f2 semSub (fVar 1) (fC (.int 1))) fNil)))))))
noncomputable def m_SumTree_sum_from_to : FN := fnU 3 3 b_SumTree_sum_from_to
noncomputable def b_SumTree_number_at : FS := (fRet (fMethO "SumTree" "sum_from_to" 3 m_SumTree_sum_from_to (fVar 0) (fCons (fVar 1) (fCons (fVar 1) fNil))))
noncomputable def m_SumTree_number_at : FN := fnU 2 2 b_SumTree_number_at
noncomputable def b_SumTree_put_to_1c : FT := (fTest (f2 semLe (fVar 3) (fFld "SumTree" "many" (fVar 0))))
noncomputable def b_SumTree_put_to_1 : FS := (fSeq (fAsg (f2 semAdd (f2 semIx (fFld "SumTree" "cells" (fVar 0)) (fVar 3)) (fVar 2)) (MR.gSub (fFld "SumTree" "cells" (fVar 0)) (fVar 3))) (fAsg (f2 semAdd (fVar 3) (fOwn 1 m_lowest_bit (fCons (fVar 3) fNil))) (gN 3)))
noncomputable def b_SumTree_put_to : FS := (fSeq (fDrop (fMethO "SumTree" "need_place" 2 m_SumTree_need_place (fVar 0) (fCons (fVar 1) fNil))) (fSeq (fAsg (fVar 1) (gN 3)) (whileU b_SumTree_put_to_1c b_SumTree_put_to_1 100000)))
noncomputable def m_SumTree_put_to : FN := fnU 4 3 b_SumTree_put_to
noncomputable def b_SumTree_row_now_1e : FE := (fMethO "SumTree" "number_at" 2 m_SumTree_number_at (fVar 1) (fCons (fVar 0) fNil))
noncomputable def b_SumTree_row_now : FS := (fRet (fCall semTuple (fCons (fComp [none, some 0] (fRng2 (fCons (fC (.int 1)) (fCons (f2 semAdd (fFld "SumTree" "many" (fVar 0)) (fC (.int 1))) fNil))) (gN 0) none b_SumTree_row_now_1e) fNil)))
noncomputable def m_SumTree_row_now : FN := fnU 1 1 b_SumTree_row_now
noncomputable def b_SumTree_cells_now : FS := (fRet (fCall semTuple (fCons (fSl semSl (fFld "SumTree" "cells" (fVar 0)) (fPart (fC (.int 1))) fNoPart) fNil)))
noncomputable def m_SumTree_cells_now : FN := fnU 1 1 b_SumTree_cells_now
noncomputable def flds (n c : Nat) : List (Str × U) := [("many", .int n), ("cells", .ref c)]
theorem fl_many (n c : Nat) : List.lookup ("many" : Str) (flds n c) = some (.int n) := rfl
theorem fl_ne : (("cells" : Str) == "many") = false := by decide +kernel
theorem fl_cells (n c : Nat) : List.lookup ("cells" : Str) (flds n c) = some (.ref c) := by
  unfold flds
  rw [List.lookup_cons, fl_ne]
  rfl
theorem nl1 : (("need_place" : Str) == "many") = false := by decide +kernel
theorem nl2 : (("need_place" : Str) == "cells") = false := by decide +kernel
theorem nl3 : (("put_to" : Str) == "many") = false := by decide +kernel
theorem nl4 : (("put_to" : Str) == "cells") = false := by decide +kernel
theorem nl5 : (("cells_now" : Str) == "many") = false := by decide +kernel
theorem nl6 : (("cells_now" : Str) == "cells") = false := by decide +kernel
theorem fl_no {m : Str} (n c : Nat) (h1 : (m == "many") = false) (h2 : (m == "cells") = false) : List.lookup m (flds n c) = none := by
  unfold flds
  rw [List.lookup_cons, h1, List.lookup_cons, h2]
  rfl
theorem insAt_at {C : Str} {L : UH} {t : Nat} {fs : List (Str × U)} (h : L[t]? = some (.ins C fs)) : insAt C (.ref t) L = some (t, fs) := by
  unfold insAt
  simp only [h, if_true]
noncomputable def fld1 (n : Nat) : List (Str × U) := [("many", .int n)]
theorem put_many (n : Nat) : putU "many" (.int n) [] = fld1 n := rfl
theorem pc_ne : ¬ (("many" : Str) = "cells") := by decide +kernel
theorem put_cells (n c : Nat) : putU "cells" (.ref c) (fld1 n) = flds n c := by
  unfold fld1 putU
  rw [if_neg pc_ne]
  rfl
structure Tree (L : UH) (t c n : Nat) (cs : List Int) : Prop where
  ob : L[t]? = some (.ins "SumTree" (flds n c))
  ce : L[c]? = some (.lst (cs.map U.int))
  ln : cs.length = n + 1
theorem Tree.ne {L : UH} {t c n : Nat} {cs : List Int} (T : Tree L t c n cs) : t ≠ c := fun h => by
  have a := T.ob
  rw [h, T.ce] at a
  cases a
theorem Tree.gw {L L' : UH} {t c n : Nat} {cs : List Int} (T : Tree L t c n cs) (g : Gw L L') : Tree L' t c n cs := ⟨g.get T.ob, g.get T.ce, T.ln⟩
theorem Tree.ex {d : Nat} {L L' : UH} {t c n : Nat} {cs : List Int} (T : Tree L t c n cs) (x : Ex d L L') (h1 : t ≠ d) (h2 : c ≠ d) : Tree L' t c n cs := ⟨x.get T.ob h1, x.get T.ce h2, T.ln⟩
theorem fld_many {L : UH} {t c n : Nat} {cs : List Int} (T : Tree L t c n cs) {δ : UE} {fe : FE} (h : fe δ L = some (.ref t, L)) : fFld "SumTree" "many" fe δ L = some (.int n, L) := by
  unfold fFld
  simp only [h, Option.bind_some, insAt_at T.ob, fl_many, Option.map_some]
theorem fld_cells {L : UH} {t c n : Nat} {cs : List Int} (T : Tree L t c n cs) {δ : UE} {fe : FE} (h : fe δ L = some (.ref t, L)) : fFld "SumTree" "cells" fe δ L = some (.ref c, L) := by
  unfold fFld
  simp only [h, Option.bind_some, insAt_at T.ob, fl_cells, Option.map_some]
theorem var0 (x : U) (r : UE) (L : UH) : fVar 0 (some x :: r) L = some (x, L) := rfl
theorem semMul_lst {L : UH} {n : Nat} {k : Int} {a : List U} (h : lstAt L n = some a) (h1 : -1000000 ≤ k ∧ k ≤ 1000000 ∧ small (a.length * k.toNat) = true) : semMul (.ref n) (.int k) L = some (.ref L.length, L ++ [.lst (List.replicate k.toNat a).flatten]) := by
  unfold semMul
  simp only [h, Option.bind_some]
  rw [if_pos h1]
theorem rep_flat (m : Nat) (u : U) : (List.replicate m [u]).flatten = List.replicate m u := by
  induction m with
  | zero => rfl
  | succ m ih => rw [List.replicate_succ, List.flatten_cons, ih, List.replicate_succ]; rfl
theorem zeros_ok {L : UH} {n m : Nat} {k : Int} (h : lstAt L n = some [.int 0]) (hk : k = m) (hm : m ≤ 1000) : semMul (.ref n) (.int k) L = some (.ref L.length, L ++ [.lst (List.replicate m (.int 0))]) := by
  subst hk
  have h2 : ([U.int 0] : List U).length * ((m : Nat) : Int).toNat ≤ 16777216 := by
    rw [Int.toNat_natCast, List.length_singleton, Nat.one_mul]
    exact Nat.le_trans hm (by decide)
  rw [semMul_lst h ⟨by omega, by omega, small_of h2⟩, Int.toNat_natCast, rep_flat]
theorem init_ok (n : Nat) (hn : n ≤ 200) (L : UH) : ∃ L', m_SumTree___init__ [.ref L.length, .int n] (L ++ [.ins "SumTree" []]) = some (.non, L') ∧ Tree L' L.length (L.length + 2) n (List.replicate (n + 1) 0) ∧ Gw L L' := by
  have i1 : insAt "SumTree" (.ref L.length) (L ++ [HU.ins "SumTree" []]) = some (L.length, []) := insAt_at (by simp)
  have hM1 : (L ++ [HU.ins "SumTree" []]).set L.length (.ins "SumTree" (fld1 n)) = L ++ [HU.ins "SumTree" (fld1 n)] := by simp
  have l0 : lstAt (L ++ [HU.ins "SumTree" (fld1 n)] ++ [HU.lst [.int 0]]) (L.length + 1) = some [.int 0] := lstAt_lst (by simp [List.getElem?_append])
  have hmul : semMul (.ref (L.length + 1)) (.int ((n : Int) + 1)) (L ++ [HU.ins "SumTree" (fld1 n)] ++ [HU.lst [.int 0]]) = some (.ref (L.length + 2), L ++ [HU.ins "SumTree" (fld1 n)] ++ [HU.lst [.int 0]] ++ [HU.lst (List.replicate (n + 1) (.int 0))]) := by
    have := zeros_ok (m := n + 1) (k := (n : Int) + 1) l0 (by omega) (by omega)
    rw [this]
    simp
  let M2 : UH := L ++ [HU.ins "SumTree" (flds n (L.length + 2))] ++ [HU.lst [.int 0]] ++ [HU.lst (List.replicate (n + 1) (.int 0))]
  have hce : M2[L.length + 2]? = some (.lst ((List.replicate (n + 1) (0 : Int)).map U.int)) := by
    rw [List.map_replicate]
    simp [M2, List.getElem?_append]
  refine ⟨M2, ?_, ⟨by simp [M2, List.getElem?_append], hce, by simp⟩, ⟨[HU.ins "SumTree" (flds n (L.length + 2))] ++ [HU.lst [.int 0]] ++ [HU.lst (List.replicate (n + 1) (.int 0))], by simp [M2]⟩⟩
  have h1 : fPutF "SumTree" "many" (fVar 0) (fVar 1) [some (.ref L.length), some (.int n)] (L ++ [.ins "SumTree" []]) = some (.nx [some (.ref L.length), some (.int n)], L ++ [HU.ins "SumTree" (fld1 n)]) := by
    unfold fPutF
    simp only [fVar_eq, List.getElem?_cons_succ, List.getElem?_cons_zero, Option.join_some, Option.map_some, Option.bind_some, i1, List.length_nil]
    rw [if_pos (by decide), put_many, hM1]
  have h2 : fPutF "SumTree" "cells" (fVar 0) (f2 semMul (fLst (fCons (fC (.int 0)) fNil)) (f2 semAdd (fVar 1) (fC (.int 1)))) [some (.ref L.length), some (.int n)] (L ++ [HU.ins "SumTree" (fld1 n)]) = some (.nx [some (.ref L.length), some (.int n)], M2) := by
    have e1 : (f2 semMul (fLst (fCons (fC (.int 0)) fNil)) (f2 semAdd (fVar 1) (fC (.int 1)))) [some (.ref L.length), some (.int n)] (L ++ [HU.ins "SumTree" (fld1 n)]) = some (.ref (L.length + 2), L ++ [HU.ins "SumTree" (fld1 n)] ++ [HU.lst [.int 0]] ++ [HU.lst (List.replicate (n + 1) (.int 0))]) := by
      have hl1 : fLst (fCons (fC (.int 0)) fNil) [some (.ref L.length), some (.int n)] (L ++ [HU.ins "SumTree" (fld1 n)]) = some (.ref (L.length + 1), L ++ [HU.ins "SumTree" (fld1 n)] ++ [HU.lst [.int 0]]) := by simp [small_of]
      have hl2 : (f2 semAdd (fVar 1) (fC (.int 1))) [some (.ref L.length), some (.int n)] (L ++ [HU.ins "SumTree" (fld1 n)] ++ [HU.lst [.int 0]]) = some (.int ((n : Int) + 1), L ++ [HU.ins "SumTree" (fld1 n)] ++ [HU.lst [.int 0]]) := rfl
      rw [f2_eq, hl1, Option.bind_some, hl2, Option.bind_some, hmul]
    have i3 : insAt "SumTree" (.ref L.length) (L ++ [HU.ins "SumTree" (fld1 n)] ++ [HU.lst [.int 0]] ++ [HU.lst (List.replicate (n + 1) (.int 0))]) = some (L.length, fld1 n) := insAt_at (by simp [List.getElem?_append])
    unfold fPutF
    simp only [e1, Option.bind_some, var0, i3]
    rw [if_pos (show (fld1 n).length < 1000 from (by simp [fld1])), put_cells]
    simp [M2]
  unfold m_SumTree___init__ fnU b_SumTree___init__
  simp only [List.length_cons, List.length_nil, if_true, List.map_cons, List.map_nil, Nat.sub_self, List.replicate_zero, List.append_nil]
  rw [fSeq_nx h1, h2]
  rfl
theorem need_ok {L : UH} {t c n p : Nat} {cs : List Int} (T : Tree L t c n cs) (h1 : 1 ≤ p) (h2 : p ≤ n) : m_SumTree_need_place [.ref t, .int p] L = some (.non, L) := by
  have e := fld_many T (var0 (.ref t) [some (.int p)] L)
  have c1 : ¬ ((p : Int) < 1) := by omega
  have c2 : ¬ ((n : Int) < p) := by omega
  simp [m_SumTree_need_place, fnU, b_SumTree_need_place, c1, e, c2]
theorem low_ok {j : Nat} (L : UH) (h1 : 1 ≤ j) (h2 : j ≤ 200) : m_lowest_bit [.int j] L = some (.int (low j), L) := by
  have e := and_low h1 h2
  have hb : semBitAnd (.int j) (.int (-(j : Int))) L = some (.int (low j), L) := by
    show some (U.int (Builtin.bitAnd (j : Int) (-(j : Int))), L) = _
    rw [e]
  simp [m_lowest_bit, fnU, b_lowest_bit, hb]
theorem put_turn {L : UH} {t c n j : Nat} {cs : List Int} {v : Int} {x1 : Option U} (T : Tree L t c n cs) (hn : n ≤ 200) (h1 : 1 ≤ j) (h2 : j ≤ n) :
    b_SumTree_put_to_1 [some (.ref t), x1, some (.int v), some (.int j)] L = some (.nx [some (.ref t), x1, some (.int v), some (.int (j + low j : Nat))], L.set c (.lst ((cs.set j (cs.getD j 0 + v)).map U.int))) := by
  have e := fld_cells T (var0 (.ref t) [x1, some (.int v), some (.int j)] L)
  have hj : j < cs.length := by rw [T.ln]; omega
  have hat : L2.atI (cs.map U.int) (j : Int) = some (.int (cs.getD j 0)) := by
    rw [atI_of (by omega) (by simp; omega), List.getElem?_map, Int.toNat_natCast, List.getElem?_eq_getElem hj]
    simp [List.getD_eq_getElem?_getD, hj]
  have hix : ixN (cs.map U.int).length (j : Int) = some j := by rw [ixN_of (by omega) (by simp; omega)]; simp
  have hset : (cs.map U.int).set j (.int (cs.getD j 0 + v)) = (cs.set j (cs.getD j 0 + v)).map U.int := by rw [List.map_set]
  have s1 : (fAsg (f2 semAdd (f2 semIx (fFld "SumTree" "cells" (fVar 0)) (fVar 3)) (fVar 2)) (MR.gSub (fFld "SumTree" "cells" (fVar 0)) (fVar 3))) [some (.ref t), x1, some (.int v), some (.int j)] L = some (.nx [some (.ref t), x1, some (.int v), some (.int j)], L.set c (.lst ((cs.set j (cs.getD j 0 + v)).map U.int))) := by
    simp only [fAsg_eq, f2_eq, e, Option.bind_some, fVar_eq, List.getElem?_cons_succ, List.getElem?_cons_zero, Option.join_some, Option.map_some, semIx_ref, seqAt_lst T.ce, hat, semAdd_int, gSub_eq, lstAt_lst T.ce, hix, hset]
  have s2 := low_ok (L.set c (.lst ((cs.set j (cs.getD j 0 + v)).map U.int))) h1 (show j ≤ 200 by omega)
  unfold b_SumTree_put_to_1
  rw [fSeq_nx s1]
  simp only [fAsg_eq, f2_eq, fOwn_eq, fCons_eq, fNil_eq, fVar_eq, List.getElem?_cons_succ, List.getElem?_cons_zero, Option.join_some, Option.map_some, Option.bind_some, List.length_cons, List.length_nil, if_true, s2, semAdd_int, gN_eq, List.set_cons_succ, List.set_cons_zero]
  rw [Int.natCast_add]
theorem Tree.put {L : UH} {t c n : Nat} {cs ds : List Int} (T : Tree L t c n cs) (h : ds.length = cs.length) : Tree (L.set c (.lst (ds.map U.int))) t c n ds :=
  ⟨by rw [List.getElem?_set_ne (Ne.symm T.ne)]; exact T.ob, List.getElem?_set_self (List.getElem?_eq_some_iff.mp T.ce).1, by rw [h]; exact T.ln⟩
theorem put_loop {t c n : Nat} {v : Int} {x1 : Option U} (hn : n ≤ 200) : ∀ (f m j : Nat) (cs : List Int) (L : UH), Tree L t c n cs → f < m → n < f + j → 1 ≤ j → ∃ y3, whileU b_SumTree_put_to_1c b_SumTree_put_to_1 m [some (.ref t), x1, some (.int v), some (.int j)] L = some (.nx [some (.ref t), x1, some (.int v), y3], L.set c (.lst ((putF f cs j v n).map U.int)))
  | f, 0, j, cs, L, _, hm, _, _ => by omega
  | f, m + 1, j, cs, L, T, hm, hf, h1 => by
    have e := fld_many T (var0 (.ref t) [x1, some (.int v), some (.int j)] L)
    have ht : b_SumTree_put_to_1c [some (.ref t), x1, some (.int v), some (.int j)] L = some (decide (j ≤ n), L) := by
      simp [b_SumTree_put_to_1c, e]
    unfold whileU
    rw [ht]
    by_cases a : j ≤ n
    · cases f with
      | zero => omega
      | succ f =>
        have hp := low_pos j
        obtain ⟨y3, ih⟩ := put_loop (t := t) (c := c) (v := v) (x1 := x1) hn f m (j + low j) (cs.set j (cs.getD j 0 + v)) (L.set c (.lst ((cs.set j (cs.getD j 0 + v)).map U.int))) (T.put (by simp)) (by omega) (by omega) (by omega)
        refine ⟨y3, ?_⟩
        simp only [Option.bind_some, a, decide_true, if_true, put_turn T hn h1 a, ih]
        rw [List.set_set]
        simp only [putF, a, if_true]
    · refine ⟨some (.int j), ?_⟩
      simp only [Option.bind_some, a, decide_false, Bool.false_eq_true, if_false]
      have : putF f cs j v n = cs := by cases f <;> simp [putF, a]
      rw [this]
      have hs : L.set c (.lst (cs.map U.int)) = L := by
        have hlt := (List.getElem?_eq_some_iff.mp T.ce)
        obtain ⟨h, hh⟩ := hlt
        rw [← hh]
        exact List.set_getElem_self h
      rw [hs]
theorem put_ok {L : UH} {t c n p : Nat} {cs : List Int} {v : Int} (T : Tree L t c n cs) (hn : n ≤ 200) (h1 : 1 ≤ p) (h2 : p ≤ n) : m_SumTree_put_to [.ref t, .int p, .int v] L = some (.non, L.set c (.lst ((putF (n + 1 - p) cs p v n).map U.int))) := by
  obtain ⟨y3, e⟩ := put_loop (t := t) (c := c) (v := v) (x1 := some (.int p)) hn (n + 1 - p) 100000 p cs L T (by omega) (by omega) h1
  have hme : (fDrop (fMethO "SumTree" "need_place" 2 m_SumTree_need_place (fVar 0) (fCons (fVar 1) fNil))) [some (.ref t), some (.int p), some (.int v), none] L = some (.nx [some (.ref t), some (.int p), some (.int v), none], L) := by
    have hq := need_ok T h1 h2
    unfold fMethO
    simp only [fDrop_eq, var0, Option.bind_some, insAt_at T.ob, fl_no n c nl1 nl2, if_true, fCons_eq, fNil_eq, fVar_eq, List.getElem?_cons_succ, List.getElem?_cons_zero, Option.join_some, Option.map_some, List.length_cons, List.length_nil, hq]
  have h3 : (fAsg (fVar 1) (gN 3)) [some (.ref t), some (.int p), some (.int v), none] L = some (.nx [some (.ref t), some (.int p), some (.int v), some (.int p)], L) := rfl
  unfold m_SumTree_put_to fnU b_SumTree_put_to
  simp only [List.length_cons, List.length_nil, if_true, List.map_cons, List.map_nil, List.replicate, List.cons_append, List.nil_append]
  rw [fSeq_nx hme, fSeq_nx h3, e]
  rfl
theorem cells_now_ok {L : UH} {t c n : Nat} {cs : List Int} (T : Tree L t c n cs) : ∃ L', m_SumTree_cells_now [.ref t] L = some (.tup ((cs.drop 1).map U.int), L') ∧ Gw L L' := by
  have e := fld_cells T (var0 (.ref t) [] L)
  have hcut : cutU (cs.map U.int) (some 1) none = (cs.drop 1).map U.int := by
    unfold cutU
    rw [HT.sIx_none, show (some (1 : Int)) = some ((1 : Nat) : Int) from rfl, HT.sIx_nat]
    have : min 1 (cs.map U.int).length = 1 := by rw [List.length_map, T.ln]; omega
    rw [this, ← List.map_drop, List.take_of_length_le (by simp)]
  have q1 : seqAt (L ++ [HU.lst ((cs.drop 1).map U.int)]) L.length = some ((cs.drop 1).map U.int) := seqAt_lst (by simp)
  refine ⟨L ++ [HU.lst ((cs.drop 1).map U.int)], ?_, Gw.new _ _⟩
  simp [m_SumTree_cells_now, fnU, b_SumTree_cells_now, e, semSl, seqAt_lst T.ce, hcut, semTuple, q1, -List.map_drop, -List.drop_one]
theorem sum_turn {L : UH} {t c n j : Nat} {cs : List Int} {told : Int} {x1 : Option U} (T : Tree L t c n cs) (hn : n ≤ 200) (h1 : 1 ≤ j) (h2 : j ≤ n) :
    b_SumTree_sum_of_first_1 [some (.ref t), x1, some (.int told), some (.int j)] L = some (.nx [some (.ref t), x1, some (.int (told + cs.getD j 0)), some (.int (j - low j : Nat))], L) := by
  have e := fld_cells T (var0 (.ref t) [x1, some (.int told), some (.int j)] L)
  have hj : j < cs.length := by rw [T.ln]; omega
  have hat : L2.atI (cs.map U.int) (j : Int) = some (.int (cs.getD j 0)) := by
    rw [atI_of (by omega) (by simp; omega), List.getElem?_map, Int.toNat_natCast, List.getElem?_eq_getElem hj]
    simp [List.getD_eq_getElem?_getD, hj]
  have s1 : (fAsg (f2 semAdd (fVar 2) (f2 semIx (fFld "SumTree" "cells" (fVar 0)) (fVar 3))) (gN 2)) [some (.ref t), x1, some (.int told), some (.int j)] L = some (.nx [some (.ref t), x1, some (.int (told + cs.getD j 0)), some (.int j)], L) := by
    simp only [fAsg_eq, f2_eq, e, Option.bind_some, fVar_eq, List.getElem?_cons_succ, List.getElem?_cons_zero, Option.join_some, Option.map_some, semIx_ref, seqAt_lst T.ce, hat, semAdd_int, gN_eq, List.set_cons_succ, List.set_cons_zero]
  have s2 := low_ok L h1 (show j ≤ 200 by omega)
  have hl := low_le h1 (show j ≤ 200 by omega)
  have hc : (j : Int) - (low j : Int) = ((j - low j : Nat) : Int) := by omega
  unfold b_SumTree_sum_of_first_1
  rw [fSeq_nx s1]
  simp only [fAsg_eq, f2_eq, fOwn_eq, fCons_eq, fNil_eq, fVar_eq, List.getElem?_cons_succ, List.getElem?_cons_zero, Option.join_some, Option.map_some, Option.bind_some, List.length_cons, List.length_nil, if_true, s2, semSub_int, gN_eq, List.set_cons_succ, List.set_cons_zero, hc]
theorem pre_zero0 (row : List Int) : pre row 0 = 0 := by simp [pre]
theorem sum_loop {L : UH} {t c n : Nat} {row cs : List Int} {x1 : Option U} (T : Tree L t c n cs) (F : Fen row cs n) (hn : n ≤ 200) : ∀ (m j : Nat) (told : Int), j < m → j ≤ n → whileU b_SumTree_sum_of_first_1c b_SumTree_sum_of_first_1 m [some (.ref t), x1, some (.int told), some (.int j)] L = some (.nx [some (.ref t), x1, some (.int (told + pre row j)), some (.int 0)], L)
  | 0, j, _, h, _ => by omega
  | m + 1, j, told, hm, hj => by
    have ht : b_SumTree_sum_of_first_1c [some (.ref t), x1, some (.int told), some (.int j)] L = some (decide (0 < j), L) := by
      have : decide ((0 : Int) < (j : Int)) = decide (0 < j) := by rw [Bool.eq_iff_iff]; simp
      simp only [b_SumTree_sum_of_first_1c, fTest_eq, f2_eq, fVar_eq, fC_eq, List.getElem?_cons_succ, List.getElem?_cons_zero, Option.join_some, Option.map_some, Option.bind_some, semGt_int, this]
    unfold whileU
    rw [ht]
    by_cases a : 0 < j
    · have hl := low_le a (show j ≤ 200 by omega)
      have hp := low_pos j
      have ih := sum_loop (x1 := x1) T F hn m (j - low j) (told + cs.getD j 0) (by omega) (by omega)
      have hv := F.at_ j a hj
      unfold cellv at hv
      have hs : told + cs.getD j 0 + pre row (j - low j) = told + pre row j := by omega
      simp only [Option.bind_some, a, decide_true, if_true, sum_turn T hn a hj, ih, hs]
    · have : j = 0 := by omega
      subst this
      simp only [Option.bind_some, a, decide_false, Bool.false_eq_true, if_false, pre_zero0, Int.add_zero]
      rfl
theorem sum_ok {L : UH} {t c n m : Nat} {row cs : List Int} (T : Tree L t c n cs) (F : Fen row cs n) (hn : n ≤ 200) (hm : m ≤ n) : m_SumTree_sum_of_first [.ref t, .int m] L = some (.int (pre row m), L) := by
  have e := fld_many T (var0 (.ref t) [some (.int m), none, none] L)
  have c1 : ¬ ((m : Int) < 0) := by omega
  have c2 : ¬ ((n : Int) < m) := by omega
  have s1 : (fIfS (fOr (fTest (f2 semLt (fVar 1) (fC (.int 0)))) (fTest (f2 semGt (fVar 1) (fFld "SumTree" "many" (fVar 0))))) fNever fNext) [some (.ref t), some (.int m), none, none] L = some (.nx [some (.ref t), some (.int m), none, none], L) := by
    simp [c1, e, c2]
  have s2 : (fAsg (fC (.int 0)) (gN 2)) [some (.ref t), some (.int m), none, none] L = some (.nx [some (.ref t), some (.int m), some (.int 0), none], L) := rfl
  have s3 : (fAsg (fVar 1) (gN 3)) [some (.ref t), some (.int m), some (.int 0), none] L = some (.nx [some (.ref t), some (.int m), some (.int 0), some (.int m)], L) := rfl
  have s4 := sum_loop (x1 := some (.int m)) T F hn 100000 m 0 (by omega) hm
  unfold m_SumTree_sum_of_first fnU b_SumTree_sum_of_first
  simp only [List.length_cons, List.length_nil, if_true, List.map_cons, List.map_nil, List.replicate, List.cons_append, List.nil_append]
  rw [fSeq_nx s1, fSeq_nx s2, fSeq_nx s3, fSeq_nx s4]
  simp only [fRet_eq, fVar_eq, List.getElem?_cons_succ, List.getElem?_cons_zero, Option.join_some, Option.map_some, Option.bind_some, Int.zero_add]
theorem nm1 : (("sum_of_first" : Str) == "many") = false := by decide +kernel
theorem nm2 : (("sum_of_first" : Str) == "cells") = false := by decide +kernel
theorem nm3 : (("sum_from_to" : Str) == "many") = false := by decide +kernel
theorem nm4 : (("sum_from_to" : Str) == "cells") = false := by decide +kernel
theorem nm5 : (("number_at" : Str) == "many") = false := by decide +kernel
theorem nm6 : (("number_at" : Str) == "cells") = false := by decide +kernel
theorem meth_at {L M L' : UH} {t c n k : Nat} {cs : List Int} {mt : Str} {F : FN} {fo : FE} {g : FA} {δ : UE} {us : List U} {z : U} (T : Tree L t c n cs) (h1 : (mt == "many") = false) (h2 : (mt == "cells") = false) (ho : fo δ L = some (.ref t, L)) (hg : g δ L = some (us, M)) (hk : us.length + 1 = k) (hF : F (.ref t :: us) M = some (z, L')) : fMethO "SumTree" mt k F fo g δ L = some (z, L') := by
  unfold fMethO
  simp only [ho, Option.bind_some, insAt_at T.ob, fl_no n c h1 h2, if_true, hg, hk, hF]
theorem from_to_ok {L : UH} {t c n a b : Nat} {row cs : List Int} (T : Tree L t c n cs) (F : Fen row cs n) (hn : n ≤ 200) (a1 : 1 ≤ a) (a2 : a ≤ n) (b1 : 1 ≤ b) (b2 : b ≤ n) : m_SumTree_sum_from_to [.ref t, .int a, .int b] L = some (.int (if b < a then 0 else pre row b - pre row (a - 1)), L) := by
  have s1 : (fDrop (fMethO "SumTree" "need_place" 2 m_SumTree_need_place (fVar 0) (fCons (fVar 1) fNil))) [some (.ref t), some (.int a), some (.int b)] L = some (.nx [some (.ref t), some (.int a), some (.int b)], L) := by
    have q : fMethO "SumTree" "need_place" 2 m_SumTree_need_place (fVar 0) (fCons (fVar 1) fNil) [some (.ref t), some (.int a), some (.int b)] L = some (.non, L) := meth_at T nl1 nl2 rfl (us := [.int a]) (M := L) rfl rfl (need_ok T a1 a2)
    rw [fDrop_eq, q]; rfl
  have s2 : (fDrop (fMethO "SumTree" "need_place" 2 m_SumTree_need_place (fVar 0) (fCons (fVar 2) fNil))) [some (.ref t), some (.int a), some (.int b)] L = some (.nx [some (.ref t), some (.int a), some (.int b)], L) := by
    have q : fMethO "SumTree" "need_place" 2 m_SumTree_need_place (fVar 0) (fCons (fVar 2) fNil) [some (.ref t), some (.int a), some (.int b)] L = some (.non, L) := meth_at T nl1 nl2 rfl (us := [.int b]) (M := L) rfl rfl (need_ok T b1 b2)
    rw [fDrop_eq, q]; rfl
  unfold m_SumTree_sum_from_to fnU b_SumTree_sum_from_to
  simp only [List.length_cons, List.length_nil, if_true, List.map_cons, List.map_nil, Nat.sub_self, List.replicate_zero, List.append_nil]
  rw [fSeq_nx s1, fSeq_nx s2]
  by_cases h : b < a
  · have hz : ((b : Int) < (a : Int)) := by omega
    simp [hz, h]
  · have hz : ¬ ((b : Int) < (a : Int)) := by omega
    have s3 : (fIfS (fTest (f2 semLt (fVar 2) (fVar 1))) (fRet (fC (.int 0))) fNext) [some (.ref t), some (.int a), some (.int b)] L = some (.nx [some (.ref t), some (.int a), some (.int b)], L) := by simp [hz]
    rw [fSeq_nx s3]
    have m1 : fMethO "SumTree" "sum_of_first" 2 m_SumTree_sum_of_first (fVar 0) (fCons (fVar 2) fNil) [some (.ref t), some (.int a), some (.int b)] L = some (.int (pre row b), L) := meth_at T nm1 nm2 rfl (us := [.int b]) (M := L) rfl rfl (sum_ok T F hn b2)
    have ha : (a : Int) - 1 = ((a - 1 : Nat) : Int) := by omega
    have m2 : fMethO "SumTree" "sum_of_first" 2 m_SumTree_sum_of_first (fVar 0) (fCons (f2 semSub (fVar 1) (fC (.int 1))) fNil) [some (.ref t), some (.int a), some (.int b)] L = some (.int (pre row (a - 1)), L) := meth_at T nm1 nm2 rfl (us := [.int ((a : Int) - 1)]) (M := L) rfl rfl (by rw [ha]; exact sum_ok T F hn (by omega))
    rw [fRet_eq, f2_eq, m1, Option.bind_some, m2, if_neg h]
    rfl
theorem at_ok {L : UH} {t c n a : Nat} {row cs : List Int} (T : Tree L t c n cs) (F : Fen row cs n) (hn : n ≤ 200) (a1 : 1 ≤ a) (a2 : a ≤ n) : m_SumTree_number_at [.ref t, .int a] L = some (.int (row.getD (a - 1) 0), L) := by
  have h := from_to_ok T F hn a1 a2 a1 a2
  rw [if_neg (by omega)] at h
  have hr : pre row a - pre row (a - 1) = row.getD (a - 1) 0 := by
    have hlt : a - 1 < row.length := by rw [F.rl]; omega
    unfold pre
    have ht : row.take a = row.take (a - 1) ++ [row[a - 1]'hlt] := by
      obtain ⟨k, rfl⟩ : ∃ k, a = k + 1 := ⟨a - 1, by omega⟩
      simp only [Nat.add_sub_cancel] at hlt ⊢
      rw [List.take_add_one, List.getElem?_eq_getElem hlt]; rfl
    rw [ht, List.sum_append]
    simp [List.getD_eq_getElem?_getD, hlt]
    omega
  rw [hr] at h
  unfold m_SumTree_number_at fnU b_SumTree_number_at
  simp only [List.length_cons, List.length_nil, if_true, List.map_cons, List.map_nil, Nat.sub_self, List.replicate_zero, List.append_nil]
  have q : fMethO "SumTree" "sum_from_to" 3 m_SumTree_sum_from_to (fVar 0) (fCons (fVar 1) (fCons (fVar 1) fNil)) [some (.ref t), some (.int a)] L = some (.int (row.getD (a - 1) 0), L) := meth_at T nm3 nm4 rfl (us := [.int a, .int a]) (M := L) rfl rfl h
  rw [fRet_eq, q]
  rfl
theorem rng2_is {g : FA} {δ : UE} {L L' : UH} {i j : Int} (hg : g δ L = some ([.int i, .int j], L')) (h0 : 0 ≤ i) (h1 : i < 1000000) (h2 : 0 ≤ j) (h3 : j < 1000000) : fRng2 g δ L = some (.seq (rangeU i (j - i).toNat), L') := by
  rw [fRng2_eq, hg]
  simp only [Option.bind_some]
  rw [if_pos ⟨⟨by omega, by omega⟩, by omega, by omega⟩]
theorem row_now_ok {L : UH} {t c n : Nat} {row cs : List Int} (T : Tree L t c n cs) (F : Fen row cs n) (hn : n ≤ 200) : ∃ L', m_SumTree_row_now [.ref t] L = some (.tup (row.map U.int), L') ∧ Gw L L' := by
  have e := fld_many T (var0 (.ref t) [] L)
  have hi : fRng2 (fCons (fC (.int 1)) (fCons (f2 semAdd (fFld "SumTree" "many" (fVar 0)) (fC (.int 1))) fNil)) [some (.ref t)] L = some (.seq (rangeU 1 n), L) := by
    have hg : (fCons (fC (.int 1)) (fCons (f2 semAdd (fFld "SumTree" "many" (fVar 0)) (fC (.int 1))) fNil)) [some (.ref t)] L = some ([.int 1, .int ((n : Int) + 1)], L) := by simp [e]
    rw [rng2_is hg (by decide) (by decide) (by omega) (by omega)]
    have : ((n : Int) + 1 - 1).toNat = n := by omega
    rw [this]
  have hr : rangeU 1 n = (List.range n).map fun (i : Nat) => U.int (1 + (i : Int)) := rfl
  obtain ⟨x, e2⟩ := comp_grow (ix := [none, some 0]) (fi := fRng2 (fCons (fC (.int 1)) (fCons (f2 semAdd (fFld "SumTree" "many" (fVar 0)) (fC (.int 1))) fNil))) (it := .seq (rangeU 1 n)) (g := gN 0) (tt := none) (fe := b_SumTree_row_now_1e) (δ := [some (.ref t)]) (L := L) (L0 := L)
    (List.range n) (fun (i : Nat) => U.int (1 + (i : Int))) (fun _ => true) (fun i => .int (row.getD i 0)) (fun δ => ∃ a, δ = [a, some (.ref t)]) hi (by simp [IU.size, rangeU]) (by simp; omega) ⟨none, rfl⟩
    (fun k x => rfl)
    (fun i δ x hi ⟨y, hδ⟩ => by
      subst hδ
      have hin := List.mem_range.mp hi
      refine ⟨_, rfl, ⟨_, rfl⟩, [], by simp [testU], fun _ => ⟨[], ?_⟩⟩
      have hc : (1 : Int) + (i : Int) = ((i + 1 : Nat) : Int) := by omega
      have ha := at_ok (a := i + 1) (T.gw (Gw.new L x)) F hn (by omega) (by omega)
      rw [Nat.add_sub_cancel] at ha
      simp only [List.append_nil]
      unfold b_SumTree_row_now_1e
      exact meth_at (T.gw (Gw.new L x)) nm5 nm6 rfl (us := [.int (1 + (i : Int))]) (M := L ++ x) rfl rfl (by rw [hc]; exact ha))
  have hf : List.filter (fun _ => true) (List.range n) = List.range n := List.filter_eq_self.mpr (fun _ _ => rfl)
  rw [hf] at e2
  have hrow : (List.range n).map (fun i => U.int (row.getD i 0)) = row.map U.int := by
    apply List.ext_getElem?
    intro i
    rw [List.getElem?_map, List.getElem?_map]
    by_cases h : i < n
    · have hlt : i < row.length := by rw [F.rl]; exact h
      rw [List.getElem?_range h, List.getElem?_eq_getElem hlt]
      simp [List.getD_eq_getElem?_getD, hlt]
    · rw [List.getElem?_eq_none (by simpa using h), List.getElem?_eq_none (by rw [F.rl]; omega)]; rfl
  rw [hrow] at e2
  have q2 : seqAt (L ++ x ++ [HU.lst (row.map U.int)]) (L ++ x).length = some (row.map U.int) := seqAt_lst (by simp)
  refine ⟨L ++ x ++ [HU.lst (row.map U.int)], ?_, ⟨x ++ [HU.lst (row.map U.int)], by rw [List.append_assoc]⟩⟩
  unfold m_SumTree_row_now fnU b_SumTree_row_now
  simp only [List.length_cons, List.length_nil, if_true, List.map_cons, List.map_nil, Nat.sub_self, List.replicate_zero, List.append_nil]
  rw [fRet_eq, fCall_eq, fCons_eq, e2]
  simp only [Option.bind_some, fNil_eq, Option.map_some, semTuple, q2]
end Lw
set_option Elab.async false
set_option linter.all false
set_option maxRecDepth 100000
set_option maxHeartbeats 1000000
namespace Lw
open PySem L2 MR
noncomputable def b_NoPlace___init__ : FS := (fDrop (fBInitC ["NoPlace", "NoAsk", "NoPoints", "NoCounts", "NoName"] (fCons (fVar 0) (fCons (fVar 1) fNil))))
noncomputable def m_NoPlace___init__ : FN := fnU 2 2 b_NoPlace___init__
noncomputable def xb_SumTree_need_place : XS := (xIf (fOr (fTest (f2 semLt (fVar 1) (fC (.int 1)))) (fTest (f2 semGt (fVar 1) (fFld "SumTree" "many" (fVar 0))))) (xRaise ["NoPlace", "NoAsk", "NoPoints", "NoCounts", "NoName"] (fMakeX "NoPlace" 2 m_NoPlace___init__ (fCons (fJoined [(fC (.str "there is no place ")), (fFmt (fVar 1))]) fNil))) xNo)
noncomputable def x_SumTree_need_place : XN := fnX 2 2 xb_SumTree_need_place
noncomputable def xb_SumTree_sum_of_first : XS := (xSeq fNever (xIf (fOr (fTest (f2 semLt (fVar 1) (fC (.int 0)))) (fTest (f2 semGt (fVar 1) (fFld "SumTree" "many" (fVar 0))))) (xRaise ["NoPlace", "NoAsk", "NoPoints", "NoCounts", "NoName"] (fMakeX "NoPlace" 2 m_NoPlace___init__ (fCons (fJoined [(fC (.str "there are no first ")), (fFmt (fVar 1)), (fC (.str " numbers"))]) fNil))) xNo) xNo)
noncomputable def x_SumTree_sum_of_first : XN := fnX 4 2 xb_SumTree_sum_of_first
noncomputable def xb_SumTree_sum_from_to : XS := (xSeq (fDrop (fMethO "SumTree" "need_place" 2 m_SumTree_need_place (fVar 0) (fCons (fVar 1) fNil))) (xOf (xMethO "SumTree" "need_place" 2 x_SumTree_need_place (fVar 0) (fCons (fVar 1) fNil))) (xSeq fNever (xOf (xMethO "SumTree" "need_place" 2 x_SumTree_need_place (fVar 0) (fCons (fVar 2) fNil))) xNo))
noncomputable def x_SumTree_sum_from_to : XN := fnX 3 3 xb_SumTree_sum_from_to
noncomputable def xb_SumTree_number_at : XS := (xOf (xMethO "SumTree" "sum_from_to" 3 x_SumTree_sum_from_to (fVar 0) (fCons (fVar 1) (fCons (fVar 1) fNil))))
noncomputable def x_SumTree_number_at : XN := fnX 2 2 xb_SumTree_number_at
noncomputable def xb_SumTree_put_to : XS := (xSeq fNever (xOf (xMethO "SumTree" "need_place" 2 x_SumTree_need_place (fVar 0) (fCons (fVar 1) fNil))) xNo)
noncomputable def x_SumTree_put_to : XN := fnX 4 3 xb_SumTree_put_to
noncomputable def b_l_alone : FS := (fSeq (fIfS (fOr (fNot (fTru (fIsX ["NoPlace", "NoAsk", "NoPoints", "NoCounts", "NoName"] "NoPlace" (fVar 0)))) (fOr (fNot (fTru (fIsX ["NoPlace", "NoAsk", "NoPoints", "NoCounts", "NoName"] "BelowError" (fVar 0)))) (fNot (fTru (fIsX ["NoPlace", "NoAsk", "NoPoints", "NoCounts", "NoName"] "ValueError" (fVar 0)))))) (fRet (fC (.bl false))) fNext) (fRet (fNotV (fIsXT ["NoPlace", "NoAsk", "NoPoints", "NoCounts", "NoName"] ["NoAsk", "NoCounts", "NoName", "NoPoints"] (fVar 0)))))
noncomputable def m_l_alone : FN := fnU 1 1 b_l_alone
noncomputable def b_l_caught_1 : FS := (fIfS (fTest (f2 semEq (fVar 1) (fC (.int 0)))) (fDrop (fMethO "SumTree" "put_to" 3 m_SumTree_put_to (fVar 0) (fCons (fVar 2) (fCons (fVar 3) fNil)))) (fIfS (fTest (f2 semEq (fVar 1) (fC (.int 1)))) (fDrop (fMethO "SumTree" "sum_of_first" 2 m_SumTree_sum_of_first (fVar 0) (fCons (fVar 2) fNil))) (fIfS (fTest (f2 semEq (fVar 1) (fC (.int 2)))) (fDrop (fMethO "SumTree" "sum_from_to" 3 m_SumTree_sum_from_to (fVar 0) (fCons (fVar 2) (fCons (fVar 3) fNil)))) (fDrop (fMethO "SumTree" "number_at" 2 m_SumTree_number_at (fVar 0) (fCons (fVar 2) fNil))))))
noncomputable def b_l_caught_1x : XS := (xIf (fTest (f2 semEq (fVar 1) (fC (.int 0)))) (xOf (xMethO "SumTree" "put_to" 3 x_SumTree_put_to (fVar 0) (fCons (fVar 2) (fCons (fVar 3) fNil)))) (xIf (fTest (f2 semEq (fVar 1) (fC (.int 1)))) (xOf (xMethO "SumTree" "sum_of_first" 2 x_SumTree_sum_of_first (fVar 0) (fCons (fVar 2) fNil))) (xIf (fTest (f2 semEq (fVar 1) (fC (.int 2)))) (xOf (xMethO "SumTree" "sum_from_to" 3 x_SumTree_sum_from_to (fVar 0) (fCons (fVar 2) (fCons (fVar 3) fNil)))) (xOf (xMethO "SumTree" "number_at" 2 x_SumTree_number_at (fVar 0) (fCons (fVar 2) fNil))))))
noncomputable def b_l_caught_1h : FS := (fAsg (fVar 5) (gN 4))
noncomputable def b_l_caught : FS := (fSeq (fAsg (fC .non) (gN 4)) (fSeq (fTry b_l_caught_1 b_l_caught_1x ["NoPlace", "NoAsk", "NoPoints", "NoCounts", "NoName"] 5 b_l_caught_1h) (fRet (fVar 4))))
noncomputable def m_l_caught : FN := fnU 6 4 b_l_caught
noncomputable def b_l_put_right_1e : FE := (fCall semSum (fCons (fSl semSlA (fVar 1) (fPart (f2 semSub (fVar 0) (f2 semBitAnd (fVar 0) (f2 semSub (fC (.int 0)) (fVar 0))))) (fPart (fVar 0))) fNil))
noncomputable def b_l_put_right : FS := (fSeq (fAsg (f2 semAddA (fC (.int 1)) (fOwn 2 m_l_draw (fCons (fVar 0) (fCons (fCall semLen (fCons (fVar 2) fNil)) fNil)))) (gN 3)) (fSeq (fAsg (fOwn 2 m_l_number (fCons (fVar 0) (fCons (fC (.int 1)) fNil))) (gN 4)) (fSeq (fDrop (fMethO "SumTree" "put_to" 3 m_SumTree_put_to (fVar 1) (fCons (fVar 3) (fCons (fVar 4) fNil)))) (fSeq (fAsg (f2 semAddA (f2 semAddA (fSl semSlA (fVar 2) fNoPart (fPart (f2 semSub (fVar 3) (fC (.int 1))))) (fTup (fCons (f2 semAddA (f2 semIx (fVar 2) (f2 semSub (fVar 3) (fC (.int 1)))) (fVar 4)) fNil))) (fSl semSlA (fVar 2) (fPart (fVar 3)) fNoPart)) (gN 2)) (fSeq (fAsg (fCall semTuple (fCons (fComp [none, some 2] (fRng2 (fCons (fC (.int 1)) (fCons (f2 semAddA (fCall semLen (fCons (fVar 2) fNil)) (fC (.int 1))) fNil))) (gN 0) none b_l_put_right_1e) fNil)) (gN 5)) (fRet (fAndV (f2 semEq (fMethO "SumTree" "row_now" 1 m_SumTree_row_now (fVar 1) fNil) (fVar 2)) (f2 semEq (fMethO "SumTree" "cells_now" 1 m_SumTree_cells_now (fVar 1) fNil) (fVar 5)))))))))
noncomputable def m_l_put_right : FN := fnU 6 3 b_l_put_right
noncomputable def b_law_2 : FS := (fIfS (fOr (fNot (fTru (fOwn 1 m_l_alone (fCons (fOwn 4 m_l_caught (fCons (fVar 4) (fCons (fVar 10) (fCons (fVar 11) (fCons (fVar 12) fNil))))) fNil)))) (fTest (f2 semNe (fMethO "SumTree" "row_now" 1 m_SumTree_row_now (fVar 4) fNil) (fVar 6)))) (fRet (fC (.bl false))) fNext)
noncomputable def b_law_4 : FS := (fIfS (fOr (fNot (fTru (fOwn 1 m_l_alone (fCons (fOwn 4 m_l_caught (fCons (fVar 4) (fCons (fVar 10) (fCons (fVar 11) (fCons (fVar 12) fNil))))) fNil)))) (fTest (f2 semNe (fMethO "SumTree" "row_now" 1 m_SumTree_row_now (fVar 4) fNil) (fVar 6)))) (fRet (fC (.bl false))) fNext)
noncomputable def b_law_3 : FS := (fSeq (fAsg (fLst (fCons (fTup (fCons (fC (.int 0)) (fCons (fVar 8) (fCons (fC (.int 5)) fNil)))) (fCons (fTup (fCons (fC (.int 0)) (fCons (fVar 8) (fCons (fC (.int 0)) fNil)))) (fCons (fTup (fCons (fC (.int 0)) (fCons (fVar 8) (fCons (fNeg (fC (.int 5))) fNil)))) (fCons (fTup (fCons (fC (.int 1)) (fCons (fVar 8) (fCons (fC (.int 0)) fNil)))) (fCons (fTup (fCons (fC (.int 2)) (fCons (fVar 8) (fCons (fC (.int 1)) fNil)))) (fCons (fTup (fCons (fC (.int 2)) (fCons (fC (.int 1)) (fCons (fVar 8) fNil)))) fNil))))))) (gN 9)) (fSeq (fAsg (f2 semAdd (fVar 9) (fLst (fCons (fTup (fCons (fC (.int 2)) (fCons (fVar 3) (fCons (fVar 8) fNil)))) (fCons (fTup (fCons (fC (.int 2)) (fCons (fVar 8) (fCons (fVar 3) fNil)))) (fCons (fTup (fCons (fC (.int 2)) (fCons (fVar 8) (fCons (fVar 8) fNil)))) fNil))))) (gN 9)) (fFor (fSeqI (f2 semAdd (fVar 9) (fLst (fCons (fTup (fCons (fC (.int 3)) (fCons (fVar 8) (fCons (fC (.int 0)) fNil)))) fNil)))) (MR.gTup 3 (MR.gCons (gN 10) (MR.gCons (gN 11) (MR.gCons (gN 12) MR.gNil)))) b_law_4)))
noncomputable def b_law_5 : FS := (fDrop (fMethO "SumTree" "put_to" 3 m_SumTree_put_to (fVar 4) (fCons (f2 semAdd (fC (.int 1)) (fOwn 2 m_l_draw (fCons (fVar 2) (fCons (fVar 3) fNil)))) (fCons (fOwn 2 m_l_number (fCons (fVar 2) (fCons (fC (.int 2)) fNil))) fNil))))
noncomputable def b_law_1 : FS := (fSeq (fAsg (fOwn 1 m_l_seed (fCons (fVar 1) fNil)) (gN 2)) (fSeq (fAsg (fOwn 1 m_l_many (fCons (fVar 2) fNil)) (gN 3)) (fSeq (fAsg (fMake "SumTree" 2 m_SumTree___init__ (fCons (fVar 3) fNil)) (gN 4)) (fSeq (fFor (fRng1 (fCons (fC (.int 3)) fNil)) (gN 5) b_law_5) (fSeq (fAsg (fMethO "SumTree" "row_now" 1 m_SumTree_row_now (fVar 4) fNil) (gN 6)) (fSeq (fAsg (f2 semAdd (f2 semAdd (fVar 3) (fC (.int 2))) (fOwn 2 m_l_draw (fCons (fVar 2) (fCons (f2 semPow (fC (.int 10)) (fC (.int 6))) fNil)))) (gN 7)) (fSeq (fFor (fSeqI (fLst (fCons (fNeg (fC (.int 1))) (fCons (f2 semAdd (fVar 3) (fC (.int 1))) (fCons (fVar 7) (fCons (f2 semSub (fC (.int 0)) (fVar 7)) (fCons (f2 semSub (fNeg (fC (.int 1))) (fOwn 2 m_l_draw (fCons (fVar 2) (fCons (f2 semAdd (fVar 3) (fC (.int 1))) fNil)))) fNil))))))) (gN 8) b_law_3) (fSeq (fFor (fSeqI (fLst (fCons (fTup (fCons (fC (.int 0)) (fCons (fC (.int 0)) (fCons (fC (.int 5)) fNil)))) (fCons (fTup (fCons (fC (.int 0)) (fCons (fC (.int 0)) (fCons (fC (.int 0)) fNil)))) (fCons (fTup (fCons (fC (.int 2)) (fCons (fC (.int 0)) (fCons (fVar 3) fNil)))) (fCons (fTup (fCons (fC (.int 2)) (fCons (fC (.int 0)) (fCons (fC (.int 0)) fNil)))) (fCons (fTup (fCons (fC (.int 2)) (fCons (fC (.int 1)) (fCons (fC (.int 0)) fNil)))) (fCons (fTup (fCons (fC (.int 2)) (fCons (fVar 3) (fCons (fC (.int 0)) fNil)))) (fCons (fTup (fCons (fC (.int 3)) (fCons (fC (.int 0)) (fCons (fC (.int 0)) fNil)))) fNil))))))))) (MR.gTup 3 (MR.gCons (gN 10) (MR.gCons (gN 11) (MR.gCons (gN 12) MR.gNil)))) b_law_2) (fSeq (fIfS (fOr (fTest (f2 semNe (fMethO "SumTree" "sum_of_first" 2 m_SumTree_sum_of_first (fVar 4) (fCons (fC (.int 0)) fNil)) (fC (.int 0)))) (fTest (f2 semNe (fMethO "SumTree" "sum_of_first" 2 m_SumTree_sum_of_first (fVar 4) (fCons (fVar 3) fNil)) (fCall semSum (fCons (fVar 6) fNil))))) (fRet (fC (.bl false))) fNext) (fSeq (fIfS (fOr (fTest (f2 semNe (fMethO "SumTree" "sum_from_to" 3 m_SumTree_sum_from_to (fVar 4) (fCons (fC (.int 1)) (fCons (fVar 3) fNil))) (fCall semSum (fCons (fVar 6) fNil)))) (fOr (fTest (f2 semNe (fMethO "SumTree" "number_at" 2 m_SumTree_number_at (fVar 4) (fCons (fC (.int 1)) fNil)) (f2 semIx (fVar 6) (fC (.int 0))))) (fTest (f2 semNe (fMethO "SumTree" "number_at" 2 m_SumTree_number_at (fVar 4) (fCons (fVar 3) fNil)) (f2 semIx (fVar 6) (fNeg (fC (.int 1)))))))) (fRet (fC (.bl false))) fNext) (fIfS (fNot (fTru (fOwn 3 m_l_put_right (fCons (fVar 2) (fCons (fVar 4) (fCons (fVar 6) fNil)))))) (fRet (fC (.bl false))) fNext)))))))))))
noncomputable def b_law : FS := (fSeq (fFor (fSeqI (f2 semAdd (fSl semSl (fVar 0) fNoPart (fPart (fC (.int 1)))) (fLst (fCons (fOwn 1 m_l_folded (fCons (fVar 0) fNil)) fNil)))) (gN 1) b_law_1) (fRet (fIsX ["NoPlace", "NoAsk", "NoPoints", "NoCounts", "NoName"] "BelowError" (fMakeX "NoPlace" 2 m_NoPlace___init__ (fCons (fC (.str "ab")) fNil)))))
noncomputable def m_law : FN := fnU 13 1 b_law
theorem numT_len {n : Int} (h : fmtOk n = true) : (numT n).length ≤ 40 := by
  unfold fmtOk at h
  simp only [Bool.and_eq_true, decide_eq_true_eq] at h
  have e : (numT n).length = (toString n).length := by
    unfold numT
    rw [show (Str.ofString (toString n)).length = (Str.ofString (toString n)).cps.toList.length from by simp [Str.length], Str.ofString_eq_toList, List.toList_toArray, List.length_map, String.length_toList]
  rw [e]
  have hp : (10 : Nat) ^ 21 = 1000000000000000000000 := by decide
  have k : ∀ m : Nat, m ≤ 100000000000000000000 → (Nat.repr m).length ≤ 21 := fun m hm => (Nat.length_repr_le_iff (by decide)).mpr (by rw [hp]; omega)
  cases n with
  | ofNat m =>
    have := k m (by have := h.2; simp only [Int.ofNat_eq_natCast] at this; omega)
    show (Nat.repr m).length ≤ 40
    omega
  | negSucc m =>
    have := k (m + 1) (by have := h.1; omega)
    show ("-" ++ Nat.repr (m + 1)).length ≤ 40
    rw [String.length_append]
    have h1 : ("-" : String).length = 1 := rfl
    omega
theorem strApp (a b : Str) : (a ++ b).length = a.length + b.length := by
  show (a.cps ++ b.cps).size = a.cps.size + b.cps.size
  rw [Array.size_append]
theorem goJ_small {δ : UE} {L : UH} : ∀ (fs : List FE) (out : Str), (∀ f ∈ fs, ∃ x : Str, f δ L = some (.str x, L) ∧ x.length ≤ 1000) → out.length + 1000 * fs.length ≤ 16777216 → ∃ s, goJ out fs δ L = some (.str s, L)
  | [], out, _, _ => ⟨out, rfl⟩
  | f :: r, out, h, hl => by
    obtain ⟨x, e, hx⟩ := h f List.mem_cons_self
    rw [List.length_cons] at hl
    have hb : (out ++ x).length + 1000 * r.length ≤ 16777216 := by rw [strApp]; omega
    obtain ⟨s, hs⟩ := goJ_small r (out ++ x) (fun g hg => h g (List.mem_cons_of_mem _ hg)) hb
    refine ⟨s, ?_⟩
    unfold goJ
    simp only [e, Option.bind_some]
    rw [if_pos (small_of (by omega)), hs]
theorem joined_ok {δ : UE} {L : UH} (fs : List FE) (h : ∀ f ∈ fs, ∃ x : Str, f δ L = some (.str x, L) ∧ x.length ≤ 1000) (hl : fs.length ≤ 100) : ∃ s, fJoined fs δ L = some (.str s, L) := goJ_small fs Str.empty h (by show 0 + _ ≤ _; omega)
theorem fmt_int {δ : UE} {L : UH} {f : FE} {n : Int} (h : f δ L = some (.int n, L)) (hf : fmtOk n = true) : ∃ x : Str, fFmt f δ L = some (.str x, L) ∧ x.length ≤ 1000 := by
  refine ⟨numT n, ?_, Nat.le_trans (numT_len hf) (by decide)⟩
  unfold fFmt
  simp only [h, Option.bind_some]
  rw [if_pos hf]
theorem fC_str {δ : UE} {L : UH} (x : Str) (h : x.length ≤ 1000) : ∃ y : Str, fC (.str x) δ L = some (.str y, L) ∧ y.length ≤ 1000 := ⟨x, rfl, h⟩
theorem joined2 {δ : UE} {L : UH} {a b : FE} (ha : ∃ x : Str, a δ L = some (.str x, L) ∧ x.length ≤ 1000) (hb : ∃ x : Str, b δ L = some (.str x, L) ∧ x.length ≤ 1000) : ∃ s, fJoined [a, b] δ L = some (.str s, L) :=
  joined_ok _ (fun f hf => by
    rcases List.mem_cons.mp hf with rfl | hf
    · exact ha
    · rcases List.mem_cons.mp hf with rfl | hf
      · exact hb
      · cases hf) (by show 2 ≤ 100; decide)
theorem joined3 {δ : UE} {L : UH} {a b c : FE} (ha : ∃ x : Str, a δ L = some (.str x, L) ∧ x.length ≤ 1000) (hb : ∃ x : Str, b δ L = some (.str x, L) ∧ x.length ≤ 1000) (hc : ∃ x : Str, c δ L = some (.str x, L) ∧ x.length ≤ 1000) : ∃ s, fJoined [a, b, c] δ L = some (.str s, L) :=
  joined_ok _ (fun f hf => by
    rcases List.mem_cons.mp hf with rfl | hf
    · exact ha
    · rcases List.mem_cons.mp hf with rfl | hf
      · exact hb
      · rcases List.mem_cons.mp hf with rfl | hf
        · exact hc
        · cases hf) (by show 3 ≤ 100; decide)
theorem handon_ok {C : Str} {Cs : List Str} (hC : C ∈ Cs) (u : U) (M : UH) : fnU 2 2 (fDrop (fBInitC Cs (fCons (fVar 0) (fCons (fVar 1) fNil)))) [.ref M.length, u] (M ++ [.exc C true []]) = some (.non, M ++ [.exc C true []]) := by
  have h1 : (M ++ [HU.exc C true []])[M.length]? = some (.exc C true []) := by simp
  have h2 : (fBInitC Cs (fCons (fVar 0) (fCons (fVar 1) fNil))) [some (.ref M.length), some u] (M ++ [.exc C true []]) = some (.non, M ++ [.exc C true []]) := by
    unfold fBInitC
    simp only [fCons_eq, fNil_eq, fVar_eq, List.getElem?_cons_succ, List.getElem?_cons_zero, Option.join_some, Option.map_some, Option.bind_some, h1]
    rw [if_pos hC]
  unfold fnU
  simp only [List.length_cons, List.length_nil, if_true, List.map_cons, List.map_nil, Nat.sub_self, List.replicate_zero, List.append_nil]
  rw [fDrop_eq, h2]
  rfl
theorem makeX_ok {C : Str} {F : FN} {g : FA} {δ : UE} {L L1 : UH} {u : U} {fs : List (Str × U)} (hg : g δ L = some ([u], L1)) (hF : F [.ref L1.length, u] (L1 ++ [.exc C true []]) = some (.non, L1 ++ [.exc C true fs])) :
    fMakeX C 2 F g δ L = some (.ref L1.length, L1 ++ [.exc C true fs]) := by
  unfold fMakeX
  simp only [hg, Option.bind_some]
  rw [if_pos ⟨rfl, by simp⟩, hF]
  rfl
theorem raiseX_ok {C : Str} {Cs : List Str} {F : FN} {g : FA} {δ : UE} {L L1 : UH} {u : U} {fs : List (Str × U)} (hC : C ∈ Cs) (hg : g δ L = some ([u], L1)) (hF : F [.ref L1.length, u] (L1 ++ [.exc C true []]) = some (.non, L1 ++ [.exc C true fs])) :
    xRaise Cs (fMakeX C 2 F g) δ L = some (L1.length, δ, L1 ++ [.exc C false fs]) := by
  have h1 : (L1 ++ [HU.exc C true fs])[L1.length]? = some (.exc C true fs) := by simp
  unfold xRaise
  rw [makeX_ok hg hF]
  simp only [Option.bind_some, h1]
  rw [if_pos hC]
  simp
theorem fnX_ok {N m n : Nat} {x : XS} {us : List U} {L L' : UH} {δ' : UE} (hl : us.length = m) (h : x (us.map some ++ List.replicate (N - us.length) none) L = some (n, δ', L')) : fnX N m x us L = some (n, L') := by
  unfold fnX
  rw [if_pos hl, h]
  rfl
theorem fnX_no {N m : Nat} {x : XS} {us : List U} {L : UH} (hl : us.length = m) (h : x (us.map some ++ List.replicate (N - us.length) none) L = none) : fnX N m x us L = none := by
  unfold fnX
  rw [if_pos hl, h]
  rfl
theorem xIf_t {c : FT} {x y : XS} {δ : UE} {L L1 : UH} (h : c δ L = some (true, L1)) : xIf c x y δ L = x δ L1 := by unfold xIf; rw [h]; rfl
theorem xIf_f {c : FT} {x y : XS} {δ : UE} {L L1 : UH} (h : c δ L = some (false, L1)) : xIf c x y δ L = y δ L1 := by unfold xIf; rw [h]; rfl
theorem xSeq_hit {f : FS} {x y : XS} {δ : UE} {L : UH} {r : Nat × UE × UH} (h : x δ L = some r) : xSeq f x y δ L = some r := by unfold xSeq; rw [h]
theorem xSeq_on {f : FS} {x y : XS} {δ δ1 : UE} {L L1 : UH} (h : x δ L = none) (hf : f δ L = some (.nx δ1, L1)) : xSeq f x y δ L = y δ1 L1 := by unfold xSeq; rw [h, hf]
theorem xOf_hit {x : XE} {δ : UE} {L L' : UH} {n : Nat} (h : x δ L = some (n, L')) : xOf x δ L = some (n, δ, L') := by unfold xOf; rw [h]; rfl
theorem xOf_no {x : XE} {δ : UE} {L : UH} (h : x δ L = none) : xOf x δ L = none := by unfold xOf; rw [h]; rfl
theorem try_hit {b suite : FS} {x : XS} {Cs : List Str} {i n : Nat} {δ δ1 δ2 : UE} {L L1 L2 : UH} {C : Str} {fr : Bool} {fs : List (Str × U)} (h : x δ L = some (n, δ1, L1)) (hL : L1[n]? = some (.exc C fr fs)) (hC : C ∈ Cs)
    (hs : suite (δ1.set i (some (.ref n))) L1 = some (.nx δ2, L2)) : fTry b x Cs i suite δ L = some (.nx (δ2.set i none), L2) := by
  unfold fTry
  simp only [h, hL]
  rw [if_pos hC, hs]
  rfl
theorem excAt_ok2 {Cs : List Str} {L : UH} {n : Nat} {C : Str} {fr : Bool} {fs : List (Str × U)} (hL : L[n]? = some (.exc C fr fs)) (hC : C ∈ Cs) : excAt Cs (.ref n) L = some (n, C, fs) := by
  unfold excAt
  simp only [hL]
  rw [if_pos hC]
theorem isX_is {Cs : List Str} {D C : Str} {f : FE} {δ : UE} {L : UH} {n : Nat} {fr : Bool} {fs : List (Str × U)} (h : f δ L = some (.ref n, L)) (hL : L[n]? = some (.exc C fr fs)) (hC : C ∈ Cs) : fIsX Cs D f δ L = some (.bl (isX C D), L) := by
  unfold fIsX
  simp only [h, Option.bind_some, excAt_ok2 hL hC, Option.map_some]
theorem isXT_is {Cs Dn : List Str} {C : Str} {f : FE} {δ : UE} {L : UH} {n : Nat} {fr : Bool} {fs : List (Str × U)} (h : f δ L = some (.ref n, L)) (hL : L[n]? = some (.exc C fr fs)) (hC : C ∈ Cs) : fIsXT Cs Dn f δ L = some (.bl (Dn.any (isX C)), L) := by
  unfold fIsXT
  simp only [h, Option.bind_some, excAt_ok2 hL hC, Option.map_some]
noncomputable abbrev Cs5 : List Str := ["NoPlace", "NoAsk", "NoPoints", "NoCounts", "NoName"]
theorem np_in : ("NoPlace" : Str) ∈ Cs5 := by decide
theorem place_init (u : U) (M : UH) : m_NoPlace___init__ [.ref M.length, u] (M ++ [.exc "NoPlace" true []]) = some (.non, M ++ [.exc "NoPlace" true []]) := handon_ok np_in u M
theorem len1 : Str.length "there is no place " ≤ 1000 := by decide +kernel
theorem len2 : Str.length "there are no first " ≤ 1000 := by decide +kernel
theorem len3 : Str.length " numbers" ≤ 1000 := by decide +kernel
noncomputable def oneX (L : UH) : UH := L ++ [.exc "NoPlace" false []]
theorem oneX_at (L : UH) : (oneX L)[L.length]? = some (.exc "NoPlace" false []) := by simp [oneX]
theorem oneX_gw (L : UH) : Gw L (oneX L) := Gw.new L _
theorem need_x {L : UH} {t c n : Nat} {cs : List Int} {p : Int} (T : Tree L t c n cs) (h : p < 1 ∨ (n : Int) < p) (hf : fmtOk p = true) : x_SumTree_need_place [.ref t, .int p] L = some (L.length, oneX L) := by
  have e := fld_many T (var0 (.ref t) [some (.int p)] L)
  have ht : (fOr (fTest (f2 semLt (fVar 1) (fC (.int 1)))) (fTest (f2 semGt (fVar 1) (fFld "SumTree" "many" (fVar 0))))) [some (.ref t), some (.int p)] L = some (true, L) := by
    by_cases c1 : p < 1
    · simp [c1]
    · have c2 : (n : Int) < p := by omega
      simp [c1, e, c2]
  obtain ⟨s, hs⟩ := joined2 (δ := [some (.ref t), some (.int p)]) (L := L) (fC_str "there is no place " len1) (fmt_int (f := fVar 1) rfl hf)
  have hr := raiseX_ok (C := "NoPlace") (Cs := Cs5) (F := m_NoPlace___init__) (g := fCons (fJoined [(fC (.str "there is no place ")), (fFmt (fVar 1))]) fNil) (δ := [some (.ref t), some (.int p)]) (L := L) (L1 := L) (u := .str s) (fs := []) np_in (by rw [fCons_eq, hs]; rfl) (place_init _ _)
  refine fnX_ok rfl (δ' := [some (.ref t), some (.int p)]) ?_
  show xb_SumTree_need_place [some (.ref t), some (.int p)] L = _
  unfold xb_SumTree_need_place
  rw [xIf_t ht]
  exact hr
theorem need_no {L : UH} {t c n : Nat} {cs : List Int} {p : Int} (T : Tree L t c n cs) (h1 : 1 ≤ p) (h2 : p ≤ n) : x_SumTree_need_place [.ref t, .int p] L = none := by
  have e := fld_many T (var0 (.ref t) [some (.int p)] L)
  have ht : (fOr (fTest (f2 semLt (fVar 1) (fC (.int 1)))) (fTest (f2 semGt (fVar 1) (fFld "SumTree" "many" (fVar 0))))) [some (.ref t), some (.int p)] L = some (false, L) := by
    have c1 : ¬ p < 1 := by omega
    have c2 : ¬ (n : Int) < p := by omega
    simp [c1, e, c2]
  refine fnX_no rfl ?_
  show xb_SumTree_need_place [some (.ref t), some (.int p)] L = _
  unfold xb_SumTree_need_place
  rw [xIf_f ht]
  rfl
theorem methX_at {L M : UH} {t c n k : Nat} {cs : List Int} {mt : Str} {F : XN} {fo : FE} {g : FA} {δ : UE} {us : List U} {z : Option (Nat × UH)} (T : Tree L t c n cs) (h1 : (mt == "many") = false) (h2 : (mt == "cells") = false) (ho : fo δ L = some (.ref t, L)) (hg : g δ L = some (us, M)) (hk : us.length + 1 = k) (hF : F (.ref t :: us) M = z) : xMethO "SumTree" mt k F fo g δ L = z := by
  unfold xMethO
  simp only [ho, Option.bind_some, insAt_at T.ob, fl_no n c h1 h2, if_true, hg, hk, hF]
theorem first_x {L : UH} {t c n : Nat} {cs : List Int} {p : Int} (T : Tree L t c n cs) (h : p < 0 ∨ (n : Int) < p) (hf : fmtOk p = true) : x_SumTree_sum_of_first [.ref t, .int p] L = some (L.length, oneX L) := by
  have e := fld_many T (var0 (.ref t) [some (.int p), none, none] L)
  have ht : (fOr (fTest (f2 semLt (fVar 1) (fC (.int 0)))) (fTest (f2 semGt (fVar 1) (fFld "SumTree" "many" (fVar 0))))) [some (.ref t), some (.int p), none, none] L = some (true, L) := by
    by_cases c1 : p < 0
    · simp [c1]
    · have c2 : (n : Int) < p := by omega
      simp [c1, e, c2]
  obtain ⟨s, hs⟩ := joined3 (δ := [some (.ref t), some (.int p), none, none]) (L := L) (fC_str "there are no first " len2) (fmt_int (f := fVar 1) rfl hf) (fC_str " numbers" len3)
  have hr := raiseX_ok (C := "NoPlace") (Cs := Cs5) (F := m_NoPlace___init__) (g := fCons (fJoined [(fC (.str "there are no first ")), (fFmt (fVar 1)), (fC (.str " numbers"))]) fNil) (δ := [some (.ref t), some (.int p), none, none]) (L := L) (L1 := L) (u := .str s) (fs := []) np_in (by rw [fCons_eq, hs]; rfl) (place_init _ _)
  refine fnX_ok rfl (δ' := [some (.ref t), some (.int p), none, none]) ?_
  show xb_SumTree_sum_of_first [some (.ref t), some (.int p), none, none] L = _
  unfold xb_SumTree_sum_of_first
  refine xSeq_hit ?_
  rw [xIf_t ht]
  exact hr
theorem put_x {L : UH} {t c n : Nat} {cs : List Int} {p v : Int} (T : Tree L t c n cs) (h : p < 1 ∨ (n : Int) < p) (hf : fmtOk p = true) : x_SumTree_put_to [.ref t, .int p, .int v] L = some (L.length, oneX L) := by
  refine fnX_ok rfl (δ' := [some (.ref t), some (.int p), some (.int v), none]) ?_
  show xb_SumTree_put_to [some (.ref t), some (.int p), some (.int v), none] L = _
  unfold xb_SumTree_put_to
  exact xSeq_hit (xOf_hit (methX_at T nl1 nl2 rfl (us := [.int p]) (M := L) rfl rfl (need_x T h hf)))
theorem from_to_x {L : UH} {t c n : Nat} {cs : List Int} {p q : Int} (T : Tree L t c n cs) (h : (p < 1 ∨ (n : Int) < p) ∨ (1 ≤ p ∧ p ≤ n) ∧ (q < 1 ∨ (n : Int) < q)) (hf : fmtOk p = true) (hf2 : fmtOk q = true) : x_SumTree_sum_from_to [.ref t, .int p, .int q] L = some (L.length, oneX L) := by
  refine fnX_ok rfl (δ' := [some (.ref t), some (.int p), some (.int q)]) ?_
  show xb_SumTree_sum_from_to [some (.ref t), some (.int p), some (.int q)] L = _
  unfold xb_SumTree_sum_from_to
  rcases h with h | ⟨h1, h2⟩
  · exact xSeq_hit (xOf_hit (methX_at T nl1 nl2 rfl (us := [.int p]) (M := L) rfl rfl (need_x T h hf)))
  · have s1 : (fDrop (fMethO "SumTree" "need_place" 2 m_SumTree_need_place (fVar 0) (fCons (fVar 1) fNil))) [some (.ref t), some (.int p), some (.int q)] L = some (.nx [some (.ref t), some (.int p), some (.int q)], L) := by
      obtain ⟨p', rfl⟩ : ∃ m : Nat, p = m := ⟨p.toNat, by omega⟩
      have z : fMethO "SumTree" "need_place" 2 m_SumTree_need_place (fVar 0) (fCons (fVar 1) fNil) [some (.ref t), some (.int p'), some (.int q)] L = some (.non, L) := meth_at T nl1 nl2 rfl (us := [.int p']) (M := L) rfl rfl (need_ok T (by omega) (by omega))
      rw [fDrop_eq, z]; rfl
    have z0 : xMethO "SumTree" "need_place" 2 x_SumTree_need_place (fVar 0) (fCons (fVar 1) fNil) [some (.ref t), some (.int p), some (.int q)] L = none := methX_at T nl1 nl2 rfl (us := [.int p]) (M := L) rfl rfl (need_no T h1.1 h1.2)
    rw [xSeq_on (xOf_no z0) s1]
    exact xSeq_hit (xOf_hit (methX_at T nl1 nl2 rfl (us := [.int q]) (M := L) rfl rfl (need_x T h2 hf2)))
theorem at_x {L : UH} {t c n : Nat} {cs : List Int} {p : Int} (T : Tree L t c n cs) (h : p < 1 ∨ (n : Int) < p) (hf : fmtOk p = true) : x_SumTree_number_at [.ref t, .int p] L = some (L.length, oneX L) := by
  refine fnX_ok rfl (δ' := [some (.ref t), some (.int p)]) ?_
  show xb_SumTree_number_at [some (.ref t), some (.int p)] L = _
  unfold xb_SumTree_number_at
  exact xOf_hit (methX_at T nm3 nm4 rfl (us := [.int p, .int p]) (M := L) rfl rfl (from_to_x T (.inl h) hf hf))
noncomputable def Bad (n : Nat) (w p q : Int) : Prop := fmtOk p = true ∧ fmtOk q = true ∧ ((w = 0 ∧ (p < 1 ∨ (n : Int) < p)) ∨ (w = 1 ∧ (p < 0 ∨ (n : Int) < p)) ∨ (w = 2 ∧ ((p < 1 ∨ (n : Int) < p) ∨ (1 ≤ p ∧ p ≤ n) ∧ (q < 1 ∨ (n : Int) < q))) ∨ (w = 3 ∧ (p < 1 ∨ (n : Int) < p)))
theorem caught_ok {L : UH} {t c n : Nat} {cs : List Int} {w p q : Int} (T : Tree L t c n cs) (h : Bad n w p q) : m_l_caught [.ref t, .int w, .int p, .int q] L = some (.ref L.length, oneX L) := by
  have s1 : (fAsg (fC .non) (gN 4)) [some (.ref t), some (.int w), some (.int p), some (.int q), none, none] L = some (.nx [some (.ref t), some (.int w), some (.int p), some (.int q), some .non, none], L) := rfl
  have hx : b_l_caught_1x [some (.ref t), some (.int w), some (.int p), some (.int q), some .non, none] L = some (L.length, [some (.ref t), some (.int w), some (.int p), some (.int q), some .non, none], oneX L) := by
    obtain ⟨hp, hq, h⟩ := h
    have tst : ∀ k : Int, (fTest (f2 semEq (fVar 1) (fC (.int k)))) [some (.ref t), some (.int w), some (.int p), some (.int q), some .non, none] L = some (w == k, L) := fun k => by simp
    unfold b_l_caught_1x
    rcases h with ⟨rfl, h⟩ | ⟨rfl, h⟩ | ⟨rfl, h⟩ | ⟨rfl, h⟩
    · rw [xIf_t (tst 0)]
      exact xOf_hit (methX_at T nl3 nl4 rfl (us := [.int p, .int q]) (M := L) rfl rfl (put_x T h hp))
    · rw [xIf_f (tst 0), xIf_t (tst 1)]
      exact xOf_hit (methX_at T nm1 nm2 rfl (us := [.int p]) (M := L) rfl rfl (first_x T h hp))
    · rw [xIf_f (tst 0), xIf_f (tst 1), xIf_t (tst 2)]
      exact xOf_hit (methX_at T nm3 nm4 rfl (us := [.int p, .int q]) (M := L) rfl rfl (from_to_x T h hp hq))
    · rw [xIf_f (tst 0), xIf_f (tst 1), xIf_f (tst 2)]
      exact xOf_hit (methX_at T nm5 nm6 rfl (us := [.int p]) (M := L) rfl rfl (at_x T h hp))
  have s2 := try_hit (b := b_l_caught_1) (suite := b_l_caught_1h) (Cs := Cs5) (i := 5) (δ2 := [some (.ref t), some (.int w), some (.int p), some (.int q), some (.ref L.length), some (.ref L.length)]) (L2 := oneX L) hx (oneX_at L) np_in rfl
  unfold m_l_caught fnU b_l_caught
  simp only [List.length_cons, List.length_nil, if_true, List.map_cons, List.map_nil, List.replicate, List.cons_append, List.nil_append]
  rw [fSeq_nx s1, fSeq_nx s2]
  rfl
theorem alone_ok {L : UH} {k : Nat} {fr : Bool} {fs : List (Str × U)} (hL : L[k]? = some (.exc "NoPlace" fr fs)) : m_l_alone [.ref k] L = some (.bl true, L) := by
  have i1 : ∀ D, fIsX Cs5 D (fVar 0) [some (.ref k)] L = some (.bl (isX "NoPlace" D), L) := fun D => isX_is rfl hL np_in
  have i2 : fIsXT Cs5 ["NoAsk", "NoCounts", "NoName", "NoPoints"] (fVar 0) [some (.ref k)] L = some (.bl ((["NoAsk", "NoCounts", "NoName", "NoPoints"] : List Str).any (isX "NoPlace")), L) := isXT_is rfl hL np_in
  have a1 : isX "NoPlace" "NoPlace" = true := by decide
  have a2 : isX "NoPlace" "BelowError" = true := by decide
  have a3 : isX "NoPlace" "ValueError" = true := by decide
  have a4 : (["NoAsk", "NoCounts", "NoName", "NoPoints"] : List Str).any (isX "NoPlace") = false := by decide
  rw [a4] at i2
  have j1 := i1 "NoPlace"
  have j2 := i1 "BelowError"
  have j3 := i1 "ValueError"
  rw [a1] at j1
  rw [a2] at j2
  rw [a3] at j3
  unfold m_l_alone fnU b_l_alone
  simp only [List.length_cons, List.length_nil, if_true, List.map_cons, List.map_nil, Nat.sub_self, List.replicate_zero, List.append_nil]
  have s1 : (fIfS (fOr (fNot (fTru (fIsX Cs5 "NoPlace" (fVar 0)))) (fOr (fNot (fTru (fIsX Cs5 "BelowError" (fVar 0)))) (fNot (fTru (fIsX Cs5 "ValueError" (fVar 0)))))) (fRet (fC (.bl false))) fNext) [some (.ref k)] L = some (.nx [some (.ref k)], L) := by
    simp only [fIfS_eq, fOr_eq, fNot_eq, fTru_eq, j1, j2, j3, Option.bind_some, truU_bl, Option.map_some, Bool.not_true, Bool.false_eq_true, if_false, fNext_eq]
  rw [fSeq_nx s1, fRet_eq, fNotV_eq, i2]
  rfl
end Lw
set_option Elab.async false
set_option linter.all false
set_option maxRecDepth 100000
set_option maxHeartbeats 1000000
namespace Lw
open PySem L2 MR
theorem pre_cut (row : List Int) (a b : Nat) (h : a ≤ b) : ((row.drop a).take (b - a)).sum = pre row b - pre row a := by
  unfold pre
  have : row.take b = row.take a ++ (row.drop a).take (b - a) := by
    rw [← List.take_add]
    congr 1
    omega
  rw [this, List.sum_append]
  omega
theorem toI_ints (l : List Int) : mapO toI (l.map U.int) = some l := by
  induction l with
  | nil => rfl
  | cons a r ih => simp only [List.map_cons, mapO, toI, ih, Option.bind_some, Option.map_some]
theorem Gw.of {L L' : UH} (h : L.length ≤ L'.length) (e : ∀ i, i < L.length → L'[i]? = L[i]?) : Gw L L' := by
  refine ⟨L'.drop L.length, ?_⟩
  apply List.ext_getElem?
  intro i
  by_cases hi : i < L.length
  · rw [List.getElem?_append_left hi]; exact e i hi
  · rw [List.getElem?_append_right (by omega), List.getElem?_drop]
    congr 1
    omega
theorem nr1 : (("row_now" : Str) == "many") = false := by decide +kernel
theorem nr2 : (("row_now" : Str) == "cells") = false := by decide +kernel
theorem pl_ints (xs : List Int) : Pl 6 (.tup (xs.map U.int)) := by
  rw [pl_tup]
  intro u hu
  obtain ⟨a, _, rfl⟩ := List.mem_map.mp hu
  exact Pl.int _ _
theorem gw_ex {L0 L L' : UH} {d : Nat} (g : Gw L0 L) (x : Ex d L L') (h : L0.length ≤ d) : Gw L0 L' := by
  have g1 := g.le
  refine Gw.of (Nat.le_trans g1 x.le) fun i hi => ?_
  rw [x.at_ i (by omega) (by omega)]
  obtain ⟨y, rfl⟩ := g
  rw [List.getElem?_append_left hi]
theorem gw_put {L0 L : UH} {c : Nat} (g : Gw L0 L) (o : HU) (h : L0.length ≤ c) : Gw L0 (L.set c o) := by
  have g1 := g.le
  refine Gw.of (by simpa using g1) fun i hi => ?_
  rw [List.getElem?_set_ne (by omega)]
  obtain ⟨y, rfl⟩ := g
  rw [List.getElem?_append_left hi]
theorem sum_tup (l : List Int) (L : UH) : semSum [.tup (l.map U.int)] L = some (.int l.sum, L) := by
  simp only [semSum, toI_ints, Option.map_some]
theorem ne_self (xs : List Int) (L : UH) : semNe (.tup (xs.map U.int)) (.tup (xs.map U.int)) L = some (.bl false, L) := by
  rw [semNe_pl L (pl_ints xs) (pl_ints xs), eqB_self (pl_ints xs)]; rfl
theorem eq_tups (xs ys : List Int) (h : xs = ys) (L : UH) : semEq (.tup (xs.map U.int)) (.tup (ys.map U.int)) L = some (.bl true, L) := by
  rw [h, semEq_pl L (pl_ints ys) (pl_ints ys), eqB_self (pl_ints ys)]
theorem cutA (row : List Int) {a b : Nat} (hb : b ≤ row.length) (ha : a ≤ b) (L : UH) : semSlA (.tup (row.map U.int)) (some (a : Int)) (some (b : Int)) L = some (.tup (((row.drop a).take (b - a)).map U.int), L) := by
  have e : cutU (row.map U.int) (some (a : Int)) (some (b : Int)) = ((row.drop a).take (b - a)).map U.int := by
    unfold cutU
    rw [HT.sIx_nat, HT.sIx_nat, List.length_map, Nat.min_eq_left hb, Nat.min_eq_left (by omega), ← List.map_drop, ← List.map_take]
  unfold semSlA
  simp only
  by_cases h : HT.sIx (row.map U.int).length 0 (some (a : Int)) = 0 ∧ HT.sIx (row.map U.int).length (row.map U.int).length (some (b : Int)) = (row.map U.int).length
  · rw [if_pos h]
    have h1 := h.1
    have h2 := h.2
    rw [HT.sIx_nat, List.length_map] at h1 h2
    have a0 : a = 0 := by omega
    have b0 : b = row.length := by omega
    subst a0 b0
    simp
  · rw [if_neg h, e]
theorem headA (row : List Int) {b : Nat} (hb : b < row.length) (L : UH) : semSlA (.tup (row.map U.int)) none (some (b : Int)) L = some (.tup ((row.take b).map U.int), L) := by
  unfold semSlA
  simp only
  rw [if_neg (fun h => by
    have h2 := h.2
    rw [HT.sIx_nat, List.length_map] at h2
    omega)]
  unfold cutU
  rw [HT.sIx_none, HT.sIx_nat, List.length_map, Nat.min_eq_left (by omega), List.drop_zero, Nat.sub_zero, ← List.map_take]
theorem tailA (row : List Int) {a : Nat} (ha : a ≤ row.length) (h0 : 0 < a) (L : UH) : semSlA (.tup (row.map U.int)) (some (a : Int)) none L = some (.tup ((row.drop a).map U.int), L) := by
  unfold semSlA
  simp only
  rw [if_neg (fun h => by
    have h2 := h.1
    rw [HT.sIx_nat, List.length_map] at h2
    omega)]
  unfold cutU
  rw [HT.sIx_none, HT.sIx_nat, List.length_map, Nat.min_eq_left (by omega), ← List.map_drop, List.take_of_length_le (by simp)]
theorem addA_tup (xs ys : List Int) (hl : xs.length + ys.length ≤ 1000) (L : UH) : semAddA (.tup (xs.map U.int)) (.tup (ys.map U.int)) L = some (.tup ((xs ++ ys).map U.int), L) := by
  cases xs with
  | nil => rfl
  | cons a xs =>
    have hs : small (((a :: xs).map U.int).length + (ys.map U.int).length) = true := small_of (by rw [List.length_map, List.length_map]; omega)
    show semAdd (.tup ((a :: xs).map U.int)) (.tup (ys.map U.int)) L = _
    simp only [List.map_cons, semAdd]
    simp only [List.map_cons] at hs
    have hs2 : small (xs.length + 1 + ys.length) = true := small_of (by rw [List.length_cons] at hl; omega)
    simp [hs2]
theorem addA_int (i j : Int) (L : UH) : semAddA (.int i) (.int j) L = some (.int (i + j), L) := rfl
theorem at_intT {row : List Int} {k : Nat} (h : k < row.length) (L : UH) : semIx (.tup (row.map U.int)) (.int (k : Int)) L = some (.int (row.getD k 0), L) := by
  rw [semIx_tup, atI_of (by omega) (by simp; omega), List.getElem?_map, Int.toNat_natCast, List.getElem?_eq_getElem h]
  simp [List.getD_eq_getElem?_getD, h]
theorem set_is (row : List Int) {k : Nat} (h : k < row.length) (v : Int) : row.take k ++ [v] ++ row.drop (k + 1) = row.set k v := by
  rw [List.append_assoc, List.set_eq_take_append_cons_drop, if_pos h]
  rfl
theorem len_tup (row : List Int) (L : UH) : semLen [.tup (row.map U.int)] L = some (.int row.length, L) := by simp [semLen, lenU]
theorem put_right_ok {L0 L : UH} {d t c n : Nat} {B : Int} {row cs : List Int} (D : Seed L d B) (hB : B ≤ 10000000) (T : Tree L t c n cs) (F : Fen row cs n) (n1 : 1 ≤ n) (n2 : n ≤ 200) (td : t ≠ d) (cd : c ≠ d) (g0 : Gw L0 L) (o1 : L0.length ≤ d) (o3 : L0.length ≤ c) :
    ∃ L', m_l_put_right [.ref d, .ref t, .tup (row.map U.int)] L = some (.bl true, L') ∧ Gw L0 L' := by
  obtain ⟨r, L1, e1, a1, b1, D1, x1⟩ := draw_ok (many := (n : Int)) D (by omega) (by omega) (by omega)
  obtain ⟨v, M2, e2, a2, b2, D2, x2⟩ := number2_ok (way := 1) D1 (by omega) (.inr (.inl rfl))
  have T2 := (T.ex x1 td cd).ex x2 td cd
  obtain ⟨p, hp⟩ : ∃ p : Nat, (1 : Int) + r = p := ⟨(1 + r).toNat, by omega⟩
  have p1 : 1 ≤ p := by omega
  have p2 : p ≤ n := by omega
  have hput := put_ok (v := v) T2 n2 p1 p2
  have F3 := F.put v n2 p1 p2
  have T3 := T2.put (ds := putF (n + 1 - p) cs p v n) (by rw [putF_len])
  generalize hcs : putF (n + 1 - p) cs p v n = ds at *
  have gg3 : Gw L0 (M2.set c (.lst (ds.map U.int))) := gw_put (gw_ex (gw_ex g0 x1 o1) x2 o1) _ o3
  generalize hL3 : M2.set c (.lst (ds.map U.int)) = L3 at *
  have hpl : p - 1 < row.length := by rw [F.rl]; omega
  generalize hrow : row.set (p - 1) (row.getD (p - 1) 0 + v) = row2 at *
  have s1 : (fAsg (f2 semAddA (fC (.int 1)) (fOwn 2 m_l_draw (fCons (fVar 0) (fCons (fCall semLen (fCons (fVar 2) fNil)) fNil)))) (gN 3)) [some (.ref d), some (.ref t), some (.tup (row.map U.int)), none, none, none] L = some (.nx [some (.ref d), some (.ref t), some (.tup (row.map U.int)), some (.int p), none, none], L1) := by
    have hl : (fCall semLen (fCons (fVar 2) fNil)) [some (.ref d), some (.ref t), some (.tup (row.map U.int)), none, none, none] L = some (.int n, L) := by
      have := len_tup row L
      rw [F.rl] at this
      rw [fCall_eq]
      simp only [fCons_eq, fNil_eq, fVar_eq, List.getElem?_cons_succ, List.getElem?_cons_zero, Option.join_some, Option.map_some, Option.bind_some, this]
    have ho : (fOwn 2 m_l_draw (fCons (fVar 0) (fCons (fCall semLen (fCons (fVar 2) fNil)) fNil))) [some (.ref d), some (.ref t), some (.tup (row.map U.int)), none, none, none] L = some (.int r, L1) := by
      rw [fOwn_eq, fCons_eq, var0, Option.bind_some, fCons_eq, hl]
      simp only [fNil_eq, Option.map_some, Option.bind_some, List.length_cons, List.length_nil, if_true, e1]
    rw [fAsg_eq, f2_eq, fC_eq, Option.bind_some, ho, Option.bind_some, addA_int, hp]
    rfl
  have s2 : (fAsg (fOwn 2 m_l_number (fCons (fVar 0) (fCons (fC (.int 1)) fNil))) (gN 4)) [some (.ref d), some (.ref t), some (.tup (row.map U.int)), some (.int p), none, none] L1 = some (.nx [some (.ref d), some (.ref t), some (.tup (row.map U.int)), some (.int p), some (.int v), none], M2) := by
    simp [e2]
  have s3 : (fDrop (fMethO "SumTree" "put_to" 3 m_SumTree_put_to (fVar 1) (fCons (fVar 3) (fCons (fVar 4) fNil)))) [some (.ref d), some (.ref t), some (.tup (row.map U.int)), some (.int p), some (.int v), none] M2 = some (.nx [some (.ref d), some (.ref t), some (.tup (row.map U.int)), some (.int p), some (.int v), none], L3) := by
    have z : fMethO "SumTree" "put_to" 3 m_SumTree_put_to (fVar 1) (fCons (fVar 3) (fCons (fVar 4) fNil)) [some (.ref d), some (.ref t), some (.tup (row.map U.int)), some (.int p), some (.int v), none] M2 = some (.non, L3) := meth_at T2 nl3 nl4 rfl (us := [.int p, .int v]) (M := M2) rfl rfl hput
    rw [fDrop_eq, z]; rfl
  have pm : (p : Int) - 1 = ((p - 1 : Nat) : Int) := by omega
  have s4 : (fAsg (f2 semAddA (f2 semAddA (fSl semSlA (fVar 2) fNoPart (fPart (f2 semSub (fVar 3) (fC (.int 1))))) (fTup (fCons (f2 semAddA (f2 semIx (fVar 2) (f2 semSub (fVar 3) (fC (.int 1)))) (fVar 4)) fNil))) (fSl semSlA (fVar 2) (fPart (fVar 3)) fNoPart)) (gN 2)) [some (.ref d), some (.ref t), some (.tup (row.map U.int)), some (.int p), some (.int v), none] L3
      = some (.nx [some (.ref d), some (.ref t), some (.tup (row2.map U.int)), some (.int p), some (.int v), none], L3) := by
    have q1 : (fSl semSlA (fVar 2) fNoPart (fPart (f2 semSub (fVar 3) (fC (.int 1))))) [some (.ref d), some (.ref t), some (.tup (row.map U.int)), some (.int p), some (.int v), none] L3 = some (.tup ((row.take (p - 1)).map U.int), L3) := by
      rw [fSl_eq]
      simp only [fVar_eq, f2_eq, fC_eq, fPart_eq, fNoPart_eq, List.getElem?_cons_succ, List.getElem?_cons_zero, Option.join_some, Option.map_some, Option.bind_some, semSub_int, pm]
      exact headA row hpl L3
    have q2 : (fTup (fCons (f2 semAddA (f2 semIx (fVar 2) (f2 semSub (fVar 3) (fC (.int 1)))) (fVar 4)) fNil)) [some (.ref d), some (.ref t), some (.tup (row.map U.int)), some (.int p), some (.int v), none] L3 = some (.tup (([row.getD (p - 1) 0 + v]).map U.int), L3) := by
      have z : (f2 semIx (fVar 2) (f2 semSub (fVar 3) (fC (.int 1)))) [some (.ref d), some (.ref t), some (.tup (row.map U.int)), some (.int p), some (.int v), none] L3 = some (.int (row.getD (p - 1) 0), L3) := by
        simp only [f2_eq, fVar_eq, fC_eq, List.getElem?_cons_succ, List.getElem?_cons_zero, Option.join_some, Option.map_some, Option.bind_some, semSub_int, pm]
        exact at_intT hpl L3
      have sm : small [U.int (row.getD (p - 1) 0 + v)].length = true := small_of (by show 1 ≤ 16777216; decide)
      rw [fTup_eq, fCons_eq, f2_eq, z]
      simp only [Option.bind_some, fVar_eq, fNil_eq, List.getElem?_cons_succ, List.getElem?_cons_zero, Option.join_some, Option.map_some, addA_int]
      rw [if_pos sm]
      rfl
    have q3 : (fSl semSlA (fVar 2) (fPart (fVar 3)) fNoPart) [some (.ref d), some (.ref t), some (.tup (row.map U.int)), some (.int p), some (.int v), none] L3 = some (.tup ((row.drop p).map U.int), L3) := by
      rw [fSl_eq]
      simp only [fVar_eq, fPart_eq, fNoPart_eq, List.getElem?_cons_succ, List.getElem?_cons_zero, Option.join_some, Option.map_some, Option.bind_some]
      exact tailA row (by rw [F.rl]; omega) p1 L3
    have hrl := F.rl
    have l1 := addA_tup (row.take (p - 1)) [row.getD (p - 1) 0 + v] (by rw [List.length_take]; simp; omega) L3
    have l2 := addA_tup (row.take (p - 1) ++ [row.getD (p - 1) 0 + v]) (row.drop p) (by simp; omega) L3
    have hset : row.take (p - 1) ++ [row.getD (p - 1) 0 + v] ++ row.drop p = row2 := by
      have := set_is row hpl (row.getD (p - 1) 0 + v)
      rw [show p - 1 + 1 = p by omega] at this
      rw [this, hrow]
    rw [hset] at l2
    rw [fAsg_eq, f2_eq, f2_eq, q1, Option.bind_some, q2, Option.bind_some]
    dsimp only
    rw [l1, Option.bind_some, q3, Option.bind_some]
    dsimp only
    rw [l2]
    rfl
  have r2l : row2.length = n := F3.rl
  have hi : fRng2 (fCons (fC (.int 1)) (fCons (f2 semAddA (fCall semLen (fCons (fVar 2) fNil)) (fC (.int 1))) fNil)) [some (.ref d), some (.ref t), some (.tup (row2.map U.int)), some (.int p), some (.int v), none] L3 = some (.seq (rangeU 1 n), L3) := by
    have hg : (fCons (fC (.int 1)) (fCons (f2 semAddA (fCall semLen (fCons (fVar 2) fNil)) (fC (.int 1))) fNil)) [some (.ref d), some (.ref t), some (.tup (row2.map U.int)), some (.int p), some (.int v), none] L3 = some ([.int 1, .int ((n : Int) + 1)], L3) := by
      have := len_tup row2 L3
      rw [r2l] at this
      simp only [fCons_eq, fC_eq, f2_eq, fCall_eq, fNil_eq, fVar_eq, List.getElem?_cons_succ, List.getElem?_cons_zero, Option.join_some, Option.map_some, Option.bind_some, this, addA_int]
    rw [rng2_is hg (by decide) (by decide) (by omega) (by omega)]
    have : ((n : Int) + 1 - 1).toNat = n := by omega
    rw [this]
  obtain ⟨y, e5⟩ := comp_grow (ix := [none, some 2]) (fi := fRng2 (fCons (fC (.int 1)) (fCons (f2 semAddA (fCall semLen (fCons (fVar 2) fNil)) (fC (.int 1))) fNil))) (it := .seq (rangeU 1 n)) (g := gN 0) (tt := none) (fe := b_l_put_right_1e) (δ := [some (.ref d), some (.ref t), some (.tup (row2.map U.int)), some (.int p), some (.int v), none]) (L := L3) (L0 := L3)
    (List.range n) (fun (i : Nat) => U.int (1 + (i : Int))) (fun _ => true) (fun i => .int (cellv row2 (i + 1))) (fun δ => ∃ a, δ = [a, some (.tup (row2.map U.int))]) hi (by simp [IU.size, rangeU]) (by simp; omega) ⟨none, rfl⟩
    (fun k x => rfl)
    (fun i δ x hi ⟨y, hδ⟩ => by
      subst hδ
      have hin := List.mem_range.mp hi
      refine ⟨_, rfl, ⟨_, rfl⟩, [], by simp [testU], fun _ => ⟨[], ?_⟩⟩
      have hc : (1 : Int) + (i : Int) = ((i + 1 : Nat) : Int) := by omega
      have hlow := low_le (i := i + 1) (by omega) (by omega)
      have hand := and_low (i := i + 1) (by omega) (by omega)
      have hz : (0 : Int) - ((i + 1 : Nat) : Int) = -((i + 1 : Nat) : Int) := by omega
      have hd : ((i + 1 : Nat) : Int) - (low (i + 1) : Int) = ((i + 1 - low (i + 1) : Nat) : Int) := by omega
      have hb : ∀ M : UH, semBitAnd (.int ((i + 1 : Nat) : Int)) (.int (-((i + 1 : Nat) : Int))) M = some (.int (low (i + 1)), M) := fun M => by
        show some (U.int (Builtin.bitAnd ((i + 1 : Nat) : Int) (-((i + 1 : Nat) : Int))), M) = _
        rw [hand]
      have hcut := cutA row2 (a := i + 1 - low (i + 1)) (b := i + 1) (by omega) (by omega) (L3 ++ x)
      have hsum := sum_tup ((row2.drop (i + 1 - low (i + 1))).take (i + 1 - (i + 1 - low (i + 1)))) (L3 ++ x)
      rw [pre_cut row2 _ _ (by omega)] at hsum
      simp only [List.append_nil]
      rw [hc]
      unfold b_l_put_right_1e
      have zs : (fSl semSlA (fVar 1) (fPart (f2 semSub (fVar 0) (f2 semBitAnd (fVar 0) (f2 semSub (fC (.int 0)) (fVar 0))))) (fPart (fVar 0))) (List.set [y, some (.tup (row2.map U.int))] 0 (some (.int ((i + 1 : Nat) : Int)))) (L3 ++ x) = some (.tup (((row2.drop (i + 1 - low (i + 1))).take (i + 1 - (i + 1 - low (i + 1)))).map U.int), L3 ++ x) := by
        rw [fSl_eq]
        simp only [List.set_cons_zero, fVar_eq, f2_eq, fC_eq, fPart_eq, List.getElem?_cons_succ, List.getElem?_cons_zero, Option.join_some, Option.map_some, Option.bind_some, semSub_int, hz, hb, hd]
        exact hcut
      rw [fCall_eq, fCons_eq, zs]
      simp only [Option.bind_some, fNil_eq, Option.map_some]
      rw [hsum]
      rfl)
  have hf : List.filter (fun _ => true) (List.range n) = List.range n := List.filter_eq_self.mpr (fun _ _ => rfl)
  rw [hf] at e5
  have hcells : (List.range n).map (fun i => U.int (cellv row2 (i + 1))) = (cellsv row2).map U.int := by
    unfold cellsv
    rw [r2l, List.map_map]
    rfl
  rw [hcells] at e5
  generalize hL4 : L3 ++ y ++ [HU.lst ((cellsv row2).map U.int)] = L4 at e5
  have g4 : Gw L3 L4 := ⟨y ++ [HU.lst ((cellsv row2).map U.int)], by rw [← hL4, List.append_assoc]⟩
  have q4 : seqAt L4 (L3 ++ y).length = some ((cellsv row2).map U.int) := by rw [← hL4]; exact seqAt_lst (by simp)
  have s5 : (fAsg (fCall semTuple (fCons (fComp [none, some 2] (fRng2 (fCons (fC (.int 1)) (fCons (f2 semAddA (fCall semLen (fCons (fVar 2) fNil)) (fC (.int 1))) fNil))) (gN 0) none b_l_put_right_1e) fNil)) (gN 5)) [some (.ref d), some (.ref t), some (.tup (row2.map U.int)), some (.int p), some (.int v), none] L3
      = some (.nx [some (.ref d), some (.ref t), some (.tup (row2.map U.int)), some (.int p), some (.int v), some (.tup ((cellsv row2).map U.int))], L4) := by
    rw [fAsg_eq, fCall_eq, fCons_eq, e5]
    simp only [Option.bind_some, fNil_eq, Option.map_some, semTuple, q4]
    rfl
  have T4 := T3.gw g4
  obtain ⟨L5, e6, g6⟩ := row_now_ok T4 F3 n2
  obtain ⟨L6, e7, g7⟩ := cells_now_ok (T4.gw g6)
  rw [F3.tail] at e7
  refine ⟨L6, ?_, ((gg3.trans g4).trans g6).trans g7⟩
  have m6 : fMethO "SumTree" "row_now" 1 m_SumTree_row_now (fVar 1) fNil [some (.ref d), some (.ref t), some (.tup (row2.map U.int)), some (.int p), some (.int v), some (.tup ((cellsv row2).map U.int))] L4 = some (.tup (row2.map U.int), L5) := meth_at T4 nr1 nr2 rfl (us := []) (M := L4) rfl rfl e6
  have m7 : fMethO "SumTree" "cells_now" 1 m_SumTree_cells_now (fVar 1) fNil [some (.ref d), some (.ref t), some (.tup (row2.map U.int)), some (.int p), some (.int v), some (.tup ((cellsv row2).map U.int))] L5 = some (.tup ((cellsv row2).map U.int), L6) := meth_at (T4.gw g6) nl5 nl6 rfl (us := []) (M := L5) rfl rfl e7
  have z1 := eq_tups row2 row2 rfl L5
  have z2 := eq_tups (cellsv row2) (cellsv row2) rfl L6
  unfold m_l_put_right fnU b_l_put_right
  simp only [List.length_cons, List.length_nil, if_true, List.map_cons, List.map_nil, List.replicate, List.cons_append, List.nil_append]
  rw [fSeq_nx s1, fSeq_nx s2, fSeq_nx s3, fSeq_nx s4, fSeq_nx s5, fRet_eq, fAndV_eq, f2_eq, m6]
  simp only [Option.bind_some, fVar_eq, List.getElem?_cons_succ, List.getElem?_cons_zero, Option.join_some, Option.map_some]
  rw [z1]
  simp only [Option.bind_some, if_true, f2_eq, m7, fVar_eq, List.getElem?_cons_succ, List.getElem?_cons_zero, Option.join_some, Option.map_some]
  rw [z2]
  rfl
end Lw
set_option Elab.async false
set_option linter.all false
set_option maxRecDepth 100000
set_option maxHeartbeats 1000000
namespace Lw
open PySem L2 MR
structure S14 (L0 L : UH) (d t c n : Nat) (B : Int) (row cs : List Int) : Prop where
  sd : Seed L d B
  tr : Tree L t c n cs
  fe : Fen row cs n
  n1 : 1 ≤ n
  n2 : n ≤ 200
  gw : Gw L0 L
  o1 : L0.length ≤ d
  o2 : L0.length ≤ t
  o3 : L0.length ≤ c
  td : t ≠ d
  cd : c ≠ d
theorem S14.ex {L0 L L' : UH} {d t c n : Nat} {B B' : Int} {row cs : List Int} (S : S14 L0 L d t c n B row cs) (x : Ex d L L') (D : Seed L' d B') : S14 L0 L' d t c n B' row cs := ⟨D, S.tr.ex x S.td S.cd, S.fe, S.n1, S.n2, gw_ex S.gw x S.o1, S.o1, S.o2, S.o3, S.td, S.cd⟩
theorem S14.grow {L0 L L' : UH} {d t c n : Nat} {B : Int} {row cs : List Int} (S : S14 L0 L d t c n B row cs) (g : Gw L L') : S14 L0 L' d t c n B row cs := ⟨S.sd.gw g, S.tr.gw g, S.fe, S.n1, S.n2, S.gw.trans g, S.o1, S.o2, S.o3, S.td, S.cd⟩
theorem S14.mono {L0 L : UH} {d t c n : Nat} {B B' : Int} {row cs : List Int} (S : S14 L0 L d t c n B row cs) (h : B ≤ B') : S14 L0 L d t c n B' row cs := ⟨S.sd.mono h, S.tr, S.fe, S.n1, S.n2, S.gw, S.o1, S.o2, S.o3, S.td, S.cd⟩
theorem put5 {L0 L : UH} {d t c n : Nat} {B : Int} {row cs : List Int} (S : S14 L0 L d t c n B row cs) (hB : B ≤ 10000) (x0 x1 x5 x6 x7 x8 x9 x10 x11 x12 : Option U) :
    ∃ L' row' cs', b_law_5 [x0, x1, some (.ref d), some (.int n), some (.ref t), x5, x6, x7, x8, x9, x10, x11, x12] L = some (.nx [x0, x1, some (.ref d), some (.int n), some (.ref t), x5, x6, x7, x8, x9, x10, x11, x12], L') ∧ S14 L0 L' d t c n (B + 10) row' cs' := by
  have n1 := S.n1
  have n2 := S.n2
  obtain ⟨r, L1, e1, a1, b1, D1, x1'⟩ := draw_ok (many := (n : Int)) S.sd (by omega) (by omega) (by omega)
  obtain ⟨v, M2, e2, a2, b2, D2, x2'⟩ := number2_ok (way := 2) D1 (by omega) (.inr (.inr rfl))
  have S2 := ((S.ex x1' D1).ex x2' D2).mono (B' := B + 10) (by omega)
  obtain ⟨p, hp⟩ : ∃ p : Nat, (1 : Int) + r = p := ⟨(1 + r).toNat, by omega⟩
  have hput := put_ok (v := v) S2.tr n2 (show 1 ≤ p by omega) (show p ≤ n by omega)
  refine ⟨_, _, _, ?_, ⟨S2.sd.set S.cd _, S2.tr.put (by rw [putF_len]), S2.fe.put v n2 (show 1 ≤ p by omega) (show p ≤ n by omega), n1, n2, gw_put S2.gw _ S.o3, S.o1, S.o2, S.o3, S.td, S.cd⟩⟩
  have hg : (fCons (f2 semAdd (fC (.int 1)) (fOwn 2 m_l_draw (fCons (fVar 2) (fCons (fVar 3) fNil)))) (fCons (fOwn 2 m_l_number (fCons (fVar 2) (fCons (fC (.int 2)) fNil))) fNil)) [x0, x1, some (.ref d), some (.int n), some (.ref t), x5, x6, x7, x8, x9, x10, x11, x12] L = some ([.int p, .int v], M2) := by
    simp [e1, e2, hp]
  have z : fMethO "SumTree" "put_to" 3 m_SumTree_put_to (fVar 4) (fCons (f2 semAdd (fC (.int 1)) (fOwn 2 m_l_draw (fCons (fVar 2) (fCons (fVar 3) fNil)))) (fCons (fOwn 2 m_l_number (fCons (fVar 2) (fCons (fC (.int 2)) fNil))) fNil)) [x0, x1, some (.ref d), some (.int n), some (.ref t), x5, x6, x7, x8, x9, x10, x11, x12] L = some (.non, M2.set c (.lst ((putF (n + 1 - p) cs p v n).map U.int))) := by
    unfold fMethO
    simp only [fVar_eq, List.getElem?_cons_succ, List.getElem?_cons_zero, Option.join_some, Option.map_some, Option.bind_some, insAt_at S.tr.ob, fl_no n c nl3 nl4, if_true]
    rw [hg]
    simp only [Option.bind_some, List.length_cons, List.length_nil, if_true]
    exact hput
  unfold b_law_5
  rw [fDrop_eq, z]
  rfl
theorem turn4 {L0 L : UH} {d t c n : Nat} {B : Int} {row cs : List Int} {w p q : Int} (S : S14 L0 L d t c n B row cs) (h : Bad n w p q) (x0 x1 x2 x3 x5 x7 x8 x9 : Option U) :
    ∃ L', b_law_4 [x0, x1, x2, x3, some (.ref t), x5, some (.tup (row.map U.int)), x7, x8, x9, some (.int w), some (.int p), some (.int q)] L = some (.nx [x0, x1, x2, x3, some (.ref t), x5, some (.tup (row.map U.int)), x7, x8, x9, some (.int w), some (.int p), some (.int q)], L') ∧ Gw L L' := by
  have ec := caught_ok S.tr h
  have ea := alone_ok (L := oneX L) (oneX_at L)
  obtain ⟨L2, e2, g2⟩ := row_now_ok (S.tr.gw (oneX_gw L)) S.fe S.n2
  refine ⟨L2, ?_, (oneX_gw L).trans g2⟩
  generalize hδ : [x0, x1, x2, x3, some (U.ref t), x5, some (.tup (row.map U.int)), x7, x8, x9, some (.int w), some (.int p), some (.int q)] = δ
  have v4 : ∀ M, fVar 4 δ M = some (.ref t, M) := fun M => by subst hδ; rfl
  have v6 : ∀ M, fVar 6 δ M = some (.tup (row.map U.int), M) := fun M => by subst hδ; rfl
  have v10 : ∀ M, fVar 10 δ M = some (.int w, M) := fun M => by subst hδ; rfl
  have v11 : ∀ M, fVar 11 δ M = some (.int p, M) := fun M => by subst hδ; rfl
  have v12 : ∀ M, fVar 12 δ M = some (.int q, M) := fun M => by subst hδ; rfl
  have o1 : (fOwn 4 m_l_caught (fCons (fVar 4) (fCons (fVar 10) (fCons (fVar 11) (fCons (fVar 12) fNil))))) δ L = some (.ref L.length, oneX L) := by
    rw [fOwn_eq]
    simp only [fCons_eq, fNil_eq, v4, v10, v11, v12, Option.bind_some, Option.map_some, List.length_cons, List.length_nil, if_true, ec]
  have o2 : (fTru (fOwn 1 m_l_alone (fCons (fOwn 4 m_l_caught (fCons (fVar 4) (fCons (fVar 10) (fCons (fVar 11) (fCons (fVar 12) fNil))))) fNil))) δ L = some (true, oneX L) := by
    rw [fTru_eq, fOwn_eq, fCons_eq, o1]
    simp only [Option.bind_some, fNil_eq, Option.map_some, List.length_cons, List.length_nil, if_true, ea, truU_bl]
  have m2 : fMethO "SumTree" "row_now" 1 m_SumTree_row_now (fVar 4) fNil δ (oneX L) = some (.tup (row.map U.int), L2) := meth_at (S.tr.gw (oneX_gw L)) nr1 nr2 (v4 _) (us := []) (M := oneX L) rfl rfl e2
  have z := ne_self row L2
  unfold b_law_4
  rw [fIfS_eq, fOr_eq, fNot_eq, o2]
  simp only [Option.map_some, Option.bind_some, Bool.not_true, Bool.false_eq_true, if_false]
  rw [fTest_eq, f2_eq, m2, Option.bind_some, v6, Option.bind_some]
  dsimp only
  rw [z]
  rfl
theorem b24 : b_law_2 = b_law_4 := rfl
theorem rows_loop {L0 L M : UH} {d t c n j : Nat} {B : Int} {row cs : List Int} {fi : FI} {ws : List (Int × Int × Int)} (S : S14 L0 M d t c n B row cs) (x0 x1 x2 x3 x5 x7 x8 x9 x10 x11 x12 : Option U)
    (hi : fi [x0, x1, x2, x3, some (.ref t), x5, some (.tup (row.map U.int)), x7, x8, x9, x10, x11, x12] L = some (.ref j, M)) (hj : seqAt M j = some (ws.map fun w => U.tup [.int w.1, .int w.2.1, .int w.2.2])) (hb : ∀ w ∈ ws, Bad n w.1 w.2.1 w.2.2) :
    ∃ y10 y11 y12 L', fFor fi (MR.gTup 3 (MR.gCons (gN 10) (MR.gCons (gN 11) (MR.gCons (gN 12) MR.gNil)))) b_law_4 [x0, x1, x2, x3, some (.ref t), x5, some (.tup (row.map U.int)), x7, x8, x9, x10, x11, x12] L = some (.nx [x0, x1, x2, x3, some (.ref t), x5, some (.tup (row.map U.int)), x7, x8, x9, y10, y11, y12], L') ∧ Gw M L' := by
  obtain ⟨δ', L', e, ⟨y10, y11, y12, hδ⟩, g⟩ := for_ref (us := ws.map fun w => U.tup [.int w.1, .int w.2.1, .int w.2.2]) (n := j) (body := b_law_4) (g := MR.gTup 3 (MR.gCons (gN 10) (MR.gCons (gN 11) (MR.gCons (gN 12) MR.gNil)))) (fun _ δ' L' => (∃ y10 y11 y12, δ' = [x0, x1, x2, x3, some (.ref t), x5, some (.tup (row.map U.int)), x7, x8, x9, y10, y11, y12]) ∧ Gw M L') hi ⟨⟨_, _, _, rfl⟩, Gw.refl _⟩
    (fun k δ L ⟨_, g⟩ => g.seq hj)
    (fun k u δ N hu ⟨⟨y10, y11, y12, hδ⟩, g⟩ => by
      subst hδ
      rw [List.getElem?_map] at hu
      obtain ⟨w, hw, rfl⟩ := Option.map_eq_some_iff.mp hu
      obtain ⟨N', e, g'⟩ := turn4 (S.grow g) (hb w (List.mem_of_getElem? hw)) x0 x1 x2 x3 x5 x7 x8 x9
      exact ⟨_, _, rfl, _, N', .inl e, ⟨_, _, _, rfl⟩, g.trans g'⟩)
  subst hδ
  exact ⟨y10, y11, y12, L', e, g⟩
theorem fmt_small {p : Int} (h1 : -100000000 ≤ p) (h2 : p ≤ 100000000) : fmtOk p = true := by
  unfold fmtOk
  simp only [Bool.and_eq_true, decide_eq_true_eq]
  omega
theorem turn3 {L0 L : UH} {d t c n : Nat} {B : Int} {row cs : List Int} {p : Int} (S : S14 L0 L d t c n B row cs) (hp : p < 0 ∨ (n : Int) < p) (h1 : -100000000 ≤ p) (h2 : p ≤ 100000000) (x0 x1 x2 x5 x7 x9 x10 x11 x12 : Option U) :
    ∃ y9 y10 y11 y12 L', b_law_3 [x0, x1, x2, some (.int n), some (.ref t), x5, some (.tup (row.map U.int)), x7, some (.int p), x9, x10, x11, x12] L = some (.nx [x0, x1, x2, some (.int n), some (.ref t), x5, some (.tup (row.map U.int)), x7, some (.int p), y9, y10, y11, y12], L') ∧ Gw L L' := by
  have n1 := S.n1
  have n2 := S.n2
  generalize hT : (fun w : Int × Int × Int => U.tup [.int w.1, .int w.2.1, .int w.2.2]) = TU
  generalize hw1 : ([(0, p, 5), (0, p, 0), (0, p, -5), (1, p, 0), (2, p, 1), (2, 1, p)] : List (Int × Int × Int)) = W1
  generalize hw2 : ([(2, (n : Int), p), (2, p, (n : Int)), (2, p, p)] : List (Int × Int × Int)) = W2
  have l1 : W1.length = 6 := by subst hw1; rfl
  have l2 : W2.length = 3 := by subst hw2; rfl
  have s1 : ∀ x9, (fAsg (fLst (fCons (fTup (fCons (fC (.int 0)) (fCons (fVar 8) (fCons (fC (.int 5)) fNil)))) (fCons (fTup (fCons (fC (.int 0)) (fCons (fVar 8) (fCons (fC (.int 0)) fNil)))) (fCons (fTup (fCons (fC (.int 0)) (fCons (fVar 8) (fCons (fNeg (fC (.int 5))) fNil)))) (fCons (fTup (fCons (fC (.int 1)) (fCons (fVar 8) (fCons (fC (.int 0)) fNil)))) (fCons (fTup (fCons (fC (.int 2)) (fCons (fVar 8) (fCons (fC (.int 1)) fNil)))) (fCons (fTup (fCons (fC (.int 2)) (fCons (fC (.int 1)) (fCons (fVar 8) fNil)))) fNil))))))) (gN 9)) [x0, x1, x2, some (.int n), some (.ref t), x5, some (.tup (row.map U.int)), x7, some (.int p), x9, x10, x11, x12] L
      = some (.nx [x0, x1, x2, some (.int n), some (.ref t), x5, some (.tup (row.map U.int)), x7, some (.int p), some (.ref L.length), x10, x11, x12], L ++ [.lst (W1.map TU)]) := fun x9 => by
    subst hw1; subst hT
    simp [small_of]
  generalize hM1 : L ++ [HU.lst (W1.map TU)] = M1 at s1
  have q1 : lstAt M1 L.length = some (W1.map TU) := by rw [← hM1]; exact lstAt_lst (by simp)
  have c2 : (fLst (fCons (fTup (fCons (fC (.int 2)) (fCons (fVar 3) (fCons (fVar 8) fNil)))) (fCons (fTup (fCons (fC (.int 2)) (fCons (fVar 8) (fCons (fVar 3) fNil)))) (fCons (fTup (fCons (fC (.int 2)) (fCons (fVar 8) (fCons (fVar 8) fNil)))) fNil)))) [x0, x1, x2, some (.int n), some (.ref t), x5, some (.tup (row.map U.int)), x7, some (.int p), some (.ref L.length), x10, x11, x12] M1
      = some (.ref M1.length, M1 ++ [.lst (W2.map TU)]) := by
    subst hw2; subst hT
    simp [small_of]
  have q2 : lstAt (M1 ++ [HU.lst (W2.map TU)]) M1.length = some (W2.map TU) := lstAt_lst (by simp)
  have q1' : lstAt (M1 ++ [HU.lst (W2.map TU)]) L.length = some (W1.map TU) := by
    have : L.length < M1.length := by rw [← hM1]; simp
    unfold lstAt at q1 ⊢
    rw [List.getElem?_append_left this]; exact q1
  generalize hM2 : M1 ++ [HU.lst (W2.map TU)] = M2 at c2 q2 q1'
  have a2 : semAdd (.ref L.length) (.ref M1.length) M2 = some (.ref M2.length, M2 ++ [.lst ((W1 ++ W2).map TU)]) := by
    unfold semAdd
    simp only [q1', q2, Option.bind_some]
    rw [if_pos (small_of (by rw [List.length_map, List.length_map]; omega)), List.map_append]
  have s2 : (fAsg (f2 semAdd (fVar 9) (fLst (fCons (fTup (fCons (fC (.int 2)) (fCons (fVar 3) (fCons (fVar 8) fNil)))) (fCons (fTup (fCons (fC (.int 2)) (fCons (fVar 8) (fCons (fVar 3) fNil)))) (fCons (fTup (fCons (fC (.int 2)) (fCons (fVar 8) (fCons (fVar 8) fNil)))) fNil))))) (gN 9)) [x0, x1, x2, some (.int n), some (.ref t), x5, some (.tup (row.map U.int)), x7, some (.int p), some (.ref L.length), x10, x11, x12] M1
      = some (.nx [x0, x1, x2, some (.int n), some (.ref t), x5, some (.tup (row.map U.int)), x7, some (.int p), some (.ref M2.length), x10, x11, x12], M2 ++ [.lst ((W1 ++ W2).map TU)]) := by
    rw [fAsg_eq, f2_eq]
    simp only [fVar_eq, List.getElem?_cons_succ, List.getElem?_cons_zero, Option.join_some, Option.map_some, Option.bind_some]
    rw [c2]
    simp only [Option.bind_some]
    rw [a2]
    rfl
  generalize hM3 : M2 ++ [HU.lst ((W1 ++ W2).map TU)] = M3 at a2 s2
  have q3 : lstAt M3 M2.length = some ((W1 ++ W2).map TU) := by rw [← hM3]; exact lstAt_lst (by simp)
  have c4 : (fLst (fCons (fTup (fCons (fC (.int 3)) (fCons (fVar 8) (fCons (fC (.int 0)) fNil)))) fNil)) [x0, x1, x2, some (.int n), some (.ref t), x5, some (.tup (row.map U.int)), x7, some (.int p), some (.ref M2.length), x10, x11, x12] M3 = some (.ref M3.length, M3 ++ [.lst (([(3, p, 0)] : List (Int × Int × Int)).map TU)]) := by
    subst hT
    simp [small_of]
  have q4 : lstAt (M3 ++ [HU.lst (([(3, p, 0)] : List (Int × Int × Int)).map TU)]) M3.length = some (([(3, p, 0)] : List (Int × Int × Int)).map TU) := lstAt_lst (by simp)
  have q3' : lstAt (M3 ++ [HU.lst (([(3, p, 0)] : List (Int × Int × Int)).map TU)]) M2.length = some ((W1 ++ W2).map TU) := by
    have : M2.length < M3.length := by rw [← hM3]; simp
    unfold lstAt at q3 ⊢
    rw [List.getElem?_append_left this]; exact q3
  generalize hM4 : M3 ++ [HU.lst (([(3, p, 0)] : List (Int × Int × Int)).map TU)] = M4 at c4 q4 q3'
  have a4 : semAdd (.ref M2.length) (.ref M3.length) M4 = some (.ref M4.length, M4 ++ [.lst ((W1 ++ W2 ++ [(3, p, 0)]).map TU)]) := by
    unfold semAdd
    simp only [q3', q4, Option.bind_some]
    rw [if_pos (small_of (by rw [List.length_map, List.length_map, List.length_append]; simp; omega)), ← List.map_append]
  have sq : seqAt (M4 ++ [HU.lst ((W1 ++ W2 ++ [(3, p, 0)]).map TU)]) M4.length = some ((W1 ++ W2 ++ [(3, p, 0)]).map TU) := seqAt_lst (by simp)
  have g5 : Gw L (M4 ++ [HU.lst ((W1 ++ W2 ++ [(3, p, 0)]).map TU)]) := by
    rw [← hM4, ← hM3, ← hM2, ← hM1]
    exact ((((Gw.new L _).trans (Gw.new _ _)).trans (Gw.new _ _)).trans (Gw.new _ _)).trans (Gw.new _ _)
  generalize hM5 : M4 ++ [HU.lst ((W1 ++ W2 ++ [(3, p, 0)]).map TU)] = M5 at a4 sq g5
  have hi : (fSeqI (f2 semAdd (fVar 9) (fLst (fCons (fTup (fCons (fC (.int 3)) (fCons (fVar 8) (fCons (fC (.int 0)) fNil)))) fNil)))) [x0, x1, x2, some (.int n), some (.ref t), x5, some (.tup (row.map U.int)), x7, some (.int p), some (.ref M2.length), x10, x11, x12] M3 = some (.ref M4.length, M5) := by
    rw [fSeqI_eq, f2_eq]
    simp only [fVar_eq, List.getElem?_cons_succ, List.getElem?_cons_zero, Option.join_some, Option.map_some, Option.bind_some]
    rw [c4]
    simp only [Option.bind_some]
    rw [a4]
    simp only [Option.bind_some, iSeqU_ref sq, Option.map_some]
  have hbad : ∀ w ∈ W1 ++ W2 ++ [(3, p, 0)], Bad n w.1 w.2.1 w.2.2 := by
    subst hw1; subst hw2
    intro w hw
    have f0 := fmt_small h1 h2
    have f1 : ∀ k : Int, -100000000 ≤ k → k ≤ 100000000 → fmtOk k = true := fun k a b => fmt_small a b
    simp only [List.mem_append, List.mem_cons, List.not_mem_nil, or_false] at hw
    rcases hw with ((rfl | rfl | rfl | rfl | rfl | rfl) | (rfl | rfl | rfl)) | rfl
    all_goals (unfold Bad; dsimp only; refine ⟨f1 _ (by omega) (by omega), f1 _ (by omega) (by omega), ?_⟩; omega)
  rw [← hT] at sq
  obtain ⟨y10, y11, y12, L', e, g⟩ := rows_loop (S.grow g5) x0 x1 x2 (some (.int n)) x5 x7 (some (.int p)) (some (.ref M2.length)) x10 x11 x12 hi sq hbad
  refine ⟨some (.ref M2.length), y10, y11, y12, L', ?_, g5.trans g⟩
  unfold b_law_3
  rw [fSeq_nx (s1 x9), fSeq_nx s2]
  exact e
end Lw
set_option Elab.async false
set_option linter.all false
set_option maxRecDepth 100000
set_option maxHeartbeats 1000000
namespace Lw
open PySem L2 MR
theorem pre_all {row cs : List Int} {n : Nat} (F : Fen row cs n) : pre row n = row.sum := by
  unfold pre
  rw [List.take_of_length_le (by rw [F.rl]; omega)]
theorem in1 (cell : Int) (L : UH) (x0 x2 x3 x4 x5 x6 x7 x8 x9 x10 x11 x12 : Option U) :
    ∃ y2 y3 y4 y5 y6 y7 y8 y9 y10 y11 y12 L', b_law_1 [x0, some (.int cell), x2, x3, x4, x5, x6, x7, x8, x9, x10, x11, x12] L = some (.nx [x0, some (.int cell), y2, y3, y4, y5, y6, y7, y8, y9, y10, y11, y12], L') ∧ Gw L L' := by
  obtain ⟨L1, e1, D1, g1⟩ := seed_ok cell L
  generalize hd : L.length = d at e1 D1
  have h1 : (fAsg (fOwn 1 m_l_seed (fCons (fVar 1) fNil)) (gN 2)) [x0, some (.int cell), x2, x3, x4, x5, x6, x7, x8, x9, x10, x11, x12] L = some (.nx [x0, some (.int cell), some (.ref d), x3, x4, x5, x6, x7, x8, x9, x10, x11, x12], L1) := by simp [e1]
  obtain ⟨m, K2, e2, a2, b2, D2, y2⟩ := many_ok D1 (by omega)
  obtain ⟨n, rfl⟩ : ∃ n : Nat, m = n := ⟨m.toNat, by omega⟩
  have n1 : 1 ≤ n := by omega
  have n2 : n ≤ 200 := by omega
  have h2 : (fAsg (fOwn 1 m_l_many (fCons (fVar 2) fNil)) (gN 3)) [x0, some (.int cell), some (.ref d), x3, x4, x5, x6, x7, x8, x9, x10, x11, x12] L1 = some (.nx [x0, some (.int cell), some (.ref d), some (.int n), x4, x5, x6, x7, x8, x9, x10, x11, x12], K2) := by simp [e2]
  obtain ⟨L3, e3, T3, g3⟩ := init_ok n n2 K2
  have h3 : (fAsg (fMake "SumTree" 2 m_SumTree___init__ (fCons (fVar 3) fNil)) (gN 4)) [x0, some (.int cell), some (.ref d), some (.int n), x4, x5, x6, x7, x8, x9, x10, x11, x12] K2 = some (.nx [x0, some (.int cell), some (.ref d), some (.int n), some (.ref K2.length), x5, x6, x7, x8, x9, x10, x11, x12], L3) := by
    have hm : fMake "SumTree" 2 m_SumTree___init__ (fCons (fVar 3) fNil) [x0, some (.int cell), some (.ref d), some (.int n), x4, x5, x6, x7, x8, x9, x10, x11, x12] K2 = some (.ref K2.length, L3) := by
      unfold fMake
      simp only [fCons_eq, fNil_eq, fVar_eq, List.getElem?_cons_succ, List.getElem?_cons_zero, Option.join_some, Option.map_some, Option.bind_some, List.length_cons, List.length_nil, if_true, e3]
    rw [fAsg_eq, hm]
    rfl
  have dl := D2.lt
  have gK : Gw L K2 := gw_ex g1 y2 (by omega)
  have gl := gK.le
  have S3 : S14 L L3 d K2.length (K2.length + 2) n (0 + 4) (List.replicate n 0) (List.replicate (n + 1) 0) := ⟨D2.gw g3, T3, Fen.new n, n1, n2, gK.trans g3, by omega, by omega, by omega, by omega, by omega⟩
  generalize ht : K2.length = t at h3 S3
  generalize hc : t + 2 = c at S3
  obtain ⟨δ4, L4, e4, y5, row, cs, hδ4, S4⟩ := for_seq (us := rangeU 0 3) (L0 := L3) (L := L3) (δ := [x0, some (.int cell), some (.ref d), some (.int n), some (.ref t), x5, x6, x7, x8, x9, x10, x11, x12]) (body := b_law_5) (g := gN 5) (fi := fRng1 (fCons (fC (.int 3)) fNil))
    (fun k δ' L' => ∃ y5 row cs, δ' = [x0, some (.int cell), some (.ref d), some (.int n), some (.ref t), y5, x6, x7, x8, x9, x10, x11, x12] ∧ S14 L L' d t c n (4 + 10 * k) row cs ∧ k ≤ 3)
    (rng1_nat (n := 3) rfl (by omega)) ⟨x5, _, _, rfl, by simpa using S3, by omega⟩
    (fun k u δ M hu ⟨y5, row, cs, hδ, S, hk⟩ => by
      subst hδ
      obtain ⟨hk', rfl⟩ := rangeU_get hu
      obtain ⟨M', row', cs', e, S'⟩ := put5 S (by omega) x0 (some (.int cell)) (some (.int (0 + k))) x6 x7 x8 x9 x10 x11 x12
      refine ⟨_, M, rfl, _, M', .inl e, _, row', cs', rfl, ?_, by omega⟩
      have : (4 : Int) + 10 * ((k + 1 : Nat) : Int) = 4 + 10 * (k : Int) + 10 := by omega
      rw [this]; exact S')
  rw [rangeU_len] at S4
  obtain ⟨S4, _⟩ := S4
  subst hδ4
  obtain ⟨L5, e5, g5⟩ := row_now_ok S4.tr S4.fe n2
  have h5 : (fAsg (fMethO "SumTree" "row_now" 1 m_SumTree_row_now (fVar 4) fNil) (gN 6)) [x0, some (.int cell), some (.ref d), some (.int n), some (.ref t), y5, x6, x7, x8, x9, x10, x11, x12] L4 = some (.nx [x0, some (.int cell), some (.ref d), some (.int n), some (.ref t), y5, some (.tup (row.map U.int)), x7, x8, x9, x10, x11, x12], L5) := by
    have z : fMethO "SumTree" "row_now" 1 m_SumTree_row_now (fVar 4) fNil [x0, some (.int cell), some (.ref d), some (.int n), some (.ref t), y5, x6, x7, x8, x9, x10, x11, x12] L4 = some (.tup (row.map U.int), L5) := meth_at S4.tr nr1 nr2 rfl (us := []) (M := L4) rfl rfl e5
    rw [fAsg_eq, z]; rfl
  have S5 := S4.grow g5
  obtain ⟨r6, L6, e6, a6, b6, D6, y6⟩ := draw_ok (many := 1000000) S5.sd (by omega) (by decide) (by decide)
  have S6 := S5.ex y6 D6
  have p6 : powOk 10 6 = true := rfl
  obtain ⟨far, hfar⟩ : ∃ far : Int, (n : Int) + 2 + r6 = far := ⟨_, rfl⟩
  have h6 : (fAsg (f2 semAdd (f2 semAdd (fVar 3) (fC (.int 2))) (fOwn 2 m_l_draw (fCons (fVar 2) (fCons (f2 semPow (fC (.int 10)) (fC (.int 6))) fNil)))) (gN 7)) [x0, some (.int cell), some (.ref d), some (.int n), some (.ref t), y5, some (.tup (row.map U.int)), x7, x8, x9, x10, x11, x12] L5 = some (.nx [x0, some (.int cell), some (.ref d), some (.int n), some (.ref t), y5, some (.tup (row.map U.int)), some (.int far), x8, x9, x10, x11, x12], L6) := by
    simp [p6, e6, hfar]
  obtain ⟨r7, L7, e7, a7, b7, D7, y7⟩ := draw_ok (many := (n : Int) + 1) S6.sd (by omega) (by omega) (by omega)
  have S7 := S6.ex y7 D7
  generalize hbs : ([-1, (n : Int) + 1, far, 0 - far, -1 - r7] : List Int) = bs
  have c8 : (fLst (fCons (fNeg (fC (.int 1))) (fCons (f2 semAdd (fVar 3) (fC (.int 1))) (fCons (fVar 7) (fCons (f2 semSub (fC (.int 0)) (fVar 7)) (fCons (f2 semSub (fNeg (fC (.int 1))) (fOwn 2 m_l_draw (fCons (fVar 2) (fCons (f2 semAdd (fVar 3) (fC (.int 1))) fNil)))) fNil)))))) [x0, some (.int cell), some (.ref d), some (.int n), some (.ref t), y5, some (.tup (row.map U.int)), some (.int far), x8, x9, x10, x11, x12] L6 = some (.ref L7.length, L7 ++ [.lst (bs.map U.int)]) := by
    subst hbs
    simp [e7, small_of]
  have sq8 : seqAt (L7 ++ [HU.lst (bs.map U.int)]) L7.length = some (bs.map U.int) := seqAt_lst (by simp)
  have S8 := S7.grow (Gw.new L7 [HU.lst (bs.map U.int)])
  generalize hM8 : L7 ++ [HU.lst (bs.map U.int)] = M8 at c8 sq8 S8
  have i8 : (fSeqI (fLst (fCons (fNeg (fC (.int 1))) (fCons (f2 semAdd (fVar 3) (fC (.int 1))) (fCons (fVar 7) (fCons (f2 semSub (fC (.int 0)) (fVar 7)) (fCons (f2 semSub (fNeg (fC (.int 1))) (fOwn 2 m_l_draw (fCons (fVar 2) (fCons (f2 semAdd (fVar 3) (fC (.int 1))) fNil)))) fNil))))))) [x0, some (.int cell), some (.ref d), some (.int n), some (.ref t), y5, some (.tup (row.map U.int)), some (.int far), x8, x9, x10, x11, x12] L6 = some (.ref L7.length, M8) := by
    rw [fSeqI_eq, c8, Option.bind_some, iSeqU_ref sq8]
    rfl
  have hbad : ∀ p ∈ bs, (p < 0 ∨ (n : Int) < p) ∧ -100000000 ≤ p ∧ p ≤ 100000000 := by
    subst hbs
    intro p hp
    simp only [List.mem_cons, List.not_mem_nil, or_false] at hp
    rcases hp with rfl | rfl | rfl | rfl | rfl <;> omega
  obtain ⟨δ9, L9, e9, ⟨y8, y9, y10, y11, y12, hδ9⟩, g9⟩ := for_ref (us := bs.map U.int) (n := L7.length) (body := b_law_3) (g := gN 8) (fun _ δ' L' => (∃ y8 y9 y10 y11 y12, δ' = [x0, some (.int cell), some (.ref d), some (.int n), some (.ref t), y5, some (.tup (row.map U.int)), some (.int far), y8, y9, y10, y11, y12]) ∧ Gw M8 L') i8 ⟨⟨_, _, _, _, _, rfl⟩, Gw.refl _⟩
    (fun k δ L ⟨_, g⟩ => g.seq sq8)
    (fun k u δ N hu ⟨⟨y8, y9, y10, y11, y12, hδ⟩, g⟩ => by
      subst hδ
      rw [List.getElem?_map] at hu
      obtain ⟨p, hp, rfl⟩ := Option.map_eq_some_iff.mp hu
      obtain ⟨b1, b2, b3⟩ := hbad p (List.mem_of_getElem? hp)
      obtain ⟨z9, z10, z11, z12, N', e, g'⟩ := turn3 (S8.grow g) b1 b2 b3 x0 (some (.int cell)) (some (.ref d)) y5 (some (.int far)) y9 y10 y11 y12
      exact ⟨_, _, rfl, _, N', .inl e, ⟨_, _, _, _, _, rfl⟩, g.trans g'⟩)
  subst hδ9
  have S9 := S8.grow g9
  generalize hws : ([(0, 0, 5), (0, 0, 0), (2, 0, (n : Int)), (2, 0, 0), (2, 1, 0), (2, (n : Int), 0), (3, 0, 0)] : List (Int × Int × Int)) = ws
  have c10 : (fLst (fCons (fTup (fCons (fC (.int 0)) (fCons (fC (.int 0)) (fCons (fC (.int 5)) fNil)))) (fCons (fTup (fCons (fC (.int 0)) (fCons (fC (.int 0)) (fCons (fC (.int 0)) fNil)))) (fCons (fTup (fCons (fC (.int 2)) (fCons (fC (.int 0)) (fCons (fVar 3) fNil)))) (fCons (fTup (fCons (fC (.int 2)) (fCons (fC (.int 0)) (fCons (fC (.int 0)) fNil)))) (fCons (fTup (fCons (fC (.int 2)) (fCons (fC (.int 1)) (fCons (fC (.int 0)) fNil)))) (fCons (fTup (fCons (fC (.int 2)) (fCons (fVar 3) (fCons (fC (.int 0)) fNil)))) (fCons (fTup (fCons (fC (.int 3)) (fCons (fC (.int 0)) (fCons (fC (.int 0)) fNil)))) fNil)))))))) [x0, some (.int cell), some (.ref d), some (.int n), some (.ref t), y5, some (.tup (row.map U.int)), some (.int far), y8, y9, y10, y11, y12] L9
      = some (.ref L9.length, L9 ++ [.lst (ws.map fun w => U.tup [.int w.1, .int w.2.1, .int w.2.2])]) := by
    subst hws
    simp [small_of]
  have sq10 : seqAt (L9 ++ [HU.lst (ws.map fun w => U.tup [.int w.1, .int w.2.1, .int w.2.2])]) L9.length = some (ws.map fun w => U.tup [.int w.1, .int w.2.1, .int w.2.2]) := seqAt_lst (by simp)
  have S10 := S9.grow (Gw.new L9 [HU.lst (ws.map fun w => U.tup [.int w.1, .int w.2.1, .int w.2.2])])
  generalize hM10 : L9 ++ [HU.lst (ws.map fun w => U.tup [.int w.1, .int w.2.1, .int w.2.2])] = M10 at c10 sq10 S10
  have hbad2 : ∀ w ∈ ws, Bad n w.1 w.2.1 w.2.2 := by
    subst hws
    intro w hw
    have f1 : ∀ k : Int, -100000000 ≤ k → k ≤ 100000000 → fmtOk k = true := fun k a b => fmt_small a b
    simp only [List.mem_cons, List.not_mem_nil, or_false] at hw
    rcases hw with rfl | rfl | rfl | rfl | rfl | rfl | rfl
    all_goals (unfold Bad; dsimp only; refine ⟨f1 _ (by omega) (by omega), f1 _ (by omega) (by omega), ?_⟩; omega)
  obtain ⟨z10, z11, z12, L11, e11, g11⟩ := rows_loop (L := L9) (fi := fSeqI (fLst (fCons (fTup (fCons (fC (.int 0)) (fCons (fC (.int 0)) (fCons (fC (.int 5)) fNil)))) (fCons (fTup (fCons (fC (.int 0)) (fCons (fC (.int 0)) (fCons (fC (.int 0)) fNil)))) (fCons (fTup (fCons (fC (.int 2)) (fCons (fC (.int 0)) (fCons (fVar 3) fNil)))) (fCons (fTup (fCons (fC (.int 2)) (fCons (fC (.int 0)) (fCons (fC (.int 0)) fNil)))) (fCons (fTup (fCons (fC (.int 2)) (fCons (fC (.int 1)) (fCons (fC (.int 0)) fNil)))) (fCons (fTup (fCons (fC (.int 2)) (fCons (fVar 3) (fCons (fC (.int 0)) fNil)))) (fCons (fTup (fCons (fC (.int 3)) (fCons (fC (.int 0)) (fCons (fC (.int 0)) fNil)))) fNil))))))))) S10 x0 (some (.int cell)) (some (.ref d)) (some (.int n)) y5 (some (.int far)) y8 y9 y10 y11 y12
    (by rw [fSeqI_eq, c10, Option.bind_some, iSeqU_ref sq10]; rfl) sq10 hbad2
  have S11 := S10.grow g11
  generalize hδ : [x0, some (U.int cell), some (.ref d), some (.int n), some (.ref t), y5, some (.tup (row.map U.int)), some (.int far), y8, y9, z10, z11, z12] = δ at e11
  have v2 : ∀ M, fVar 2 δ M = some (.ref d, M) := fun M => by subst hδ; rfl
  have v3 : ∀ M, fVar 3 δ M = some (.int n, M) := fun M => by subst hδ; rfl
  have v4 : ∀ M, fVar 4 δ M = some (.ref t, M) := fun M => by subst hδ; rfl
  have v6 : ∀ M, fVar 6 δ M = some (.tup (row.map U.int), M) := fun M => by subst hδ; rfl
  have rl := S11.fe.rl
  have hsum : (fCall semSum (fCons (fVar 6) fNil)) δ L11 = some (.int row.sum, L11) := by
    rw [fCall_eq, fCons_eq, v6]
    simp only [Option.bind_some, fNil_eq, Option.map_some, sum_tup]
  have m0 : fMethO "SumTree" "sum_of_first" 2 m_SumTree_sum_of_first (fVar 4) (fCons (fC (.int 0)) fNil) δ L11 = some (.int 0, L11) := by
    have := sum_ok (m := 0) S11.tr S11.fe n2 (by omega)
    rw [pre_zero0] at this
    exact meth_at S11.tr nm1 nm2 (v4 _) (us := [.int 0]) (M := L11) rfl rfl this
  have m1 : fMethO "SumTree" "sum_of_first" 2 m_SumTree_sum_of_first (fVar 4) (fCons (fVar 3) fNil) δ L11 = some (.int row.sum, L11) := by
    have := sum_ok (m := n) S11.tr S11.fe n2 (by omega)
    rw [pre_all S11.fe] at this
    exact meth_at S11.tr nm1 nm2 (v4 _) (us := [.int n]) (M := L11) (by rw [fCons_eq, v3]; rfl) rfl this
  have s12 : (fIfS (fOr (fTest (f2 semNe (fMethO "SumTree" "sum_of_first" 2 m_SumTree_sum_of_first (fVar 4) (fCons (fC (.int 0)) fNil)) (fC (.int 0)))) (fTest (f2 semNe (fMethO "SumTree" "sum_of_first" 2 m_SumTree_sum_of_first (fVar 4) (fCons (fVar 3) fNil)) (fCall semSum (fCons (fVar 6) fNil))))) (fRet (fC (.bl false))) fNext) δ L11 = some (.nx δ, L11) := by
    have t1 : (fTest (f2 semNe (fMethO "SumTree" "sum_of_first" 2 m_SumTree_sum_of_first (fVar 4) (fCons (fC (.int 0)) fNil)) (fC (.int 0)))) δ L11 = some (false, L11) := by rw [fTest_eq, f2_eq, m0]; simp
    have t2 : (fTest (f2 semNe (fMethO "SumTree" "sum_of_first" 2 m_SumTree_sum_of_first (fVar 4) (fCons (fVar 3) fNil)) (fCall semSum (fCons (fVar 6) fNil)))) δ L11 = some (false, L11) := by rw [fTest_eq, f2_eq, m1, Option.bind_some, hsum]; simp
    rw [fIfS_eq, fOr_eq, t1, Option.bind_some]
    simp only [Bool.false_eq_true, if_false]
    rw [t2]
    rfl
  have m2 : fMethO "SumTree" "sum_from_to" 3 m_SumTree_sum_from_to (fVar 4) (fCons (fC (.int 1)) (fCons (fVar 3) fNil)) δ L11 = some (.int row.sum, L11) := by
    have := from_to_ok (a := 1) (b := n) S11.tr S11.fe n2 (by omega) (by omega) n1 (by omega)
    rw [if_neg (by omega), pre_all S11.fe, show 1 - 1 = 0 from rfl, pre_zero0, Int.sub_zero] at this
    exact meth_at S11.tr nm3 nm4 (v4 _) (us := [.int 1, .int n]) (M := L11) (by rw [fCons_eq, fC_eq, Option.bind_some, fCons_eq, v3]; rfl) rfl this
  have m3 : fMethO "SumTree" "number_at" 2 m_SumTree_number_at (fVar 4) (fCons (fC (.int 1)) fNil) δ L11 = some (.int (row.getD 0 0), L11) := by
    have := at_ok (a := 1) S11.tr S11.fe n2 (by omega) (by omega)
    exact meth_at S11.tr nm5 nm6 (v4 _) (us := [.int 1]) (M := L11) rfl rfl this
  have m4 : fMethO "SumTree" "number_at" 2 m_SumTree_number_at (fVar 4) (fCons (fVar 3) fNil) δ L11 = some (.int (row.getD (n - 1) 0), L11) := by
    have := at_ok (a := n) S11.tr S11.fe n2 (by omega) (by omega)
    exact meth_at S11.tr nm5 nm6 (v4 _) (us := [.int n]) (M := L11) (by rw [fCons_eq, v3]; rfl) rfl this
  have r0 : (f2 semIx (fVar 6) (fC (.int 0))) δ L11 = some (.int (row.getD 0 0), L11) := by
    rw [f2_eq, v6, Option.bind_some, fC_eq, Option.bind_some]
    exact at_intT (k := 0) (by omega) L11
  have r1 : (f2 semIx (fVar 6) (fNeg (fC (.int 1)))) δ L11 = some (.int (row.getD (n - 1) 0), L11) := by
    have hix : L2.atI (row.map U.int) (-1) = some (.int (row.getD (n - 1) 0)) := by
      have hlt : n - 1 < row.length := by omega
      unfold L2.atI ixN
      rw [if_neg (by omega), List.length_map, if_pos (by omega), rl, Option.bind_some, List.getElem?_map, show ((-1 : Int) + (n : Int)).toNat = n - 1 by omega, List.getElem?_eq_getElem hlt]
      simp [List.getD_eq_getElem?_getD, hlt]
    rw [f2_eq, v6, Option.bind_some]
    simp only [fNeg_eq, fC_eq, Option.bind_some, semIx_tup]
    rw [hix]
    rfl
  have s13 : (fIfS (fOr (fTest (f2 semNe (fMethO "SumTree" "sum_from_to" 3 m_SumTree_sum_from_to (fVar 4) (fCons (fC (.int 1)) (fCons (fVar 3) fNil))) (fCall semSum (fCons (fVar 6) fNil)))) (fOr (fTest (f2 semNe (fMethO "SumTree" "number_at" 2 m_SumTree_number_at (fVar 4) (fCons (fC (.int 1)) fNil)) (f2 semIx (fVar 6) (fC (.int 0))))) (fTest (f2 semNe (fMethO "SumTree" "number_at" 2 m_SumTree_number_at (fVar 4) (fCons (fVar 3) fNil)) (f2 semIx (fVar 6) (fNeg (fC (.int 1)))))))) (fRet (fC (.bl false))) fNext) δ L11 = some (.nx δ, L11) := by
    have t1 : (fTest (f2 semNe (fMethO "SumTree" "sum_from_to" 3 m_SumTree_sum_from_to (fVar 4) (fCons (fC (.int 1)) (fCons (fVar 3) fNil))) (fCall semSum (fCons (fVar 6) fNil)))) δ L11 = some (false, L11) := by rw [fTest_eq, f2_eq, m2, Option.bind_some, hsum]; simp
    have t2 : (fTest (f2 semNe (fMethO "SumTree" "number_at" 2 m_SumTree_number_at (fVar 4) (fCons (fC (.int 1)) fNil)) (f2 semIx (fVar 6) (fC (.int 0))))) δ L11 = some (false, L11) := by rw [fTest_eq, f2_eq, m3, Option.bind_some, r0]; simp
    have t3 : (fTest (f2 semNe (fMethO "SumTree" "number_at" 2 m_SumTree_number_at (fVar 4) (fCons (fVar 3) fNil)) (f2 semIx (fVar 6) (fNeg (fC (.int 1)))))) δ L11 = some (false, L11) := by rw [fTest_eq, f2_eq, m4, Option.bind_some, r1]; simp
    rw [fIfS_eq, fOr_eq, t1, Option.bind_some]
    simp only [Bool.false_eq_true, if_false]
    rw [fOr_eq, t2, Option.bind_some]
    simp only [Bool.false_eq_true, if_false]
    rw [t3]
    rfl
  obtain ⟨L12, e12, g12⟩ := put_right_ok S11.sd (by omega) S11.tr S11.fe n1 n2 S11.td S11.cd S11.gw S11.o1 S11.o3
  have s14 : (fIfS (fNot (fTru (fOwn 3 m_l_put_right (fCons (fVar 2) (fCons (fVar 4) (fCons (fVar 6) fNil)))))) (fRet (fC (.bl false))) fNext) δ L11 = some (.nx δ, L12) := by
    have z : (fOwn 3 m_l_put_right (fCons (fVar 2) (fCons (fVar 4) (fCons (fVar 6) fNil)))) δ L11 = some (.bl true, L12) := by
      rw [fOwn_eq]
      simp only [fCons_eq, fNil_eq, v2, v4, v6, Option.bind_some, Option.map_some, List.length_cons, List.length_nil, if_true]
      exact e12
    rw [fIfS_eq, fNot_eq, fTru_eq, z]
    rfl
  refine ⟨some (.ref d), some (.int n), some (.ref t), y5, some (.tup (row.map U.int)), some (.int far), y8, y9, z10, z11, z12, L12, ?_, g12⟩
  rw [hδ]
  unfold b_law_1
  rw [fSeq_nx h1, fSeq_nx h2, fSeq_nx h3, fSeq_nx e4, fSeq_nx h5, fSeq_nx h6, fSeq_nx e9, b24, fSeq_nx e11, fSeq_nx s12, fSeq_nx s13]
  exact s14
theorem law_true (ns : List Int) (hl : ns.length ≤ 63) : ∃ L', m_law [.ref 0] [.ro (ns.map U.int)] = some (.bl true, L') := by
  let L1 : UH := [.ro (ns.map U.int)]
  have hs : seqAt L1 0 = some (ns.map U.int) := rfl
  have hcut : cutU (ns.map U.int) none (some 1) = (ns.take 1).map U.int := by
    unfold cutU
    rw [HT.sIx_none, show (some (1 : Int)) = some ((1 : Nat) : Int) from rfl, HT.sIx_nat, List.drop_zero, Nat.sub_zero, List.length_map]
    by_cases h : 1 ≤ ns.length
    · rw [Nat.min_eq_left h, ← List.map_take]
    · rw [Nat.min_eq_right (by omega), ← List.map_take, List.take_of_length_le (Nat.le_refl _), List.take_of_length_le (by omega)]
  have seqApp : ∀ {L x : UH} {n : Nat} {us : List U}, seqAt L n = some us → seqAt (L ++ x) n = some us := fun {L x n us} h => (Gw.new L x).seq h
  obtain ⟨r, e1⟩ := folded_ok (L := L1 ++ [.lst ((ns.take 1).map U.int)]) (n := 0) ns (seqApp hs)
  let M2 : UH := L1 ++ [.lst ((ns.take 1).map U.int)] ++ [.lst [.int r]]
  have k1 : lstAt M2 1 = some ((ns.take 1).map U.int) := lstAt_lst rfl
  have k2 : lstAt M2 2 = some [.int r] := lstAt_lst rfl
  let M3 : UH := M2 ++ [.lst ((ns.take 1 ++ [r]).map U.int)]
  have hadd : semAdd (.ref 1) (.ref 2) M2 = some (.ref 3, M3) := by
    unfold semAdd
    simp only [k1, k2, Option.bind_some]
    rw [if_pos (small_of (by
      have : ((ns.take 1).map U.int).length ≤ 1 := by rw [List.length_map, List.length_take]; omega
      have : ([U.int r] : List U).length = 1 := rfl
      omega))]
    simp [M3, M2, L1]
  have h3 : seqAt M3 3 = some ((ns.take 1 ++ [r]).map U.int) := seqAt_lst rfl
  have hi : (fSeqI (f2 semAdd (fSl semSl (fVar 0) fNoPart (fPart (fC (.int 1)))) (fLst (fCons (fOwn 1 m_l_folded (fCons (fVar 0) fNil)) fNil)))) [some (.ref 0), none, none, none, none, none, none, none, none, none, none, none, none] L1 = some (.ref 3, M3) := by
    have ha : (fSl semSl (fVar 0) fNoPart (fPart (fC (.int 1)))) [some (.ref 0), none, none, none, none, none, none, none, none, none, none, none, none] L1 = some (.ref 1, L1 ++ [.lst ((ns.take 1).map U.int)]) := by
      simp [semSl, hs, hcut]
      rfl
    have hb : (fLst (fCons (fOwn 1 m_l_folded (fCons (fVar 0) fNil)) fNil)) [some (.ref 0), none, none, none, none, none, none, none, none, none, none, none, none] (L1 ++ [.lst ((ns.take 1).map U.int)]) = some (.ref 2, M2) := by
      have sm1 : ∀ x : U, small [x].length = true := fun _ => small_of (by show 1 ≤ 16777216; decide)
      have hq : (fOwn 1 m_l_folded (fCons (fVar 0) fNil)) [some (.ref 0), none, none, none, none, none, none, none, none, none, none, none, none] (L1 ++ [.lst ((ns.take 1).map U.int)]) = some (.int r, L1 ++ [.lst ((ns.take 1).map U.int)]) := by simp [-List.map_take, e1]
      rw [fLst_eq, fCons_eq, hq]
      simp only [Option.bind_some, fNil_eq, Option.map_some]
      rw [if_pos (sm1 _)]
      rfl
    rw [fSeqI_eq, f2_eq, ha, Option.bind_some, hb, Option.bind_some, hadd, Option.bind_some, iSeqU_ref h3]
    rfl
  obtain ⟨δ5, L5, e5, P5⟩ := for_ref (us := (ns.take 1 ++ [r]).map U.int) (n := 3) (body := b_law_1) (g := gN 1) (fun _ δ' L' => (∃ y1 y2 y3 y4 y5 y6 y7 y8 y9 y10 y11 y12, δ' = [some (.ref 0), y1, y2, y3, y4, y5, y6, y7, y8, y9, y10, y11, y12]) ∧ Gw M3 L') hi ⟨⟨_, _, _, _, _, _, _, _, _, _, _, _, rfl⟩, Gw.refl _⟩
    (fun k δ L ⟨_, g⟩ => g.seq h3)
    (fun k u δ M hu ⟨⟨y1, y2, y3, y4, y5, y6, y7, y8, y9, y10, y11, y12, hδ⟩, g⟩ => by
      subst hδ
      rw [List.getElem?_map] at hu
      obtain ⟨c, _, rfl⟩ := Option.map_eq_some_iff.mp hu
      obtain ⟨z2, z3, z4, z5, z6, z7, z8, z9, z10, z11, z12, M', e, gM⟩ := in1 c M (some (.ref 0)) y2 y3 y4 y5 y6 y7 y8 y9 y10 y11 y12
      exact ⟨_, _, rfl, _, M', .inl e, ⟨_, _, _, _, _, _, _, _, _, _, _, _, rfl⟩, g.trans gM⟩)
  obtain ⟨⟨y1, y2, y3, y4, y5, y6, y7, y8, y9, y10, y11, y12, hδ⟩, _⟩ := P5
  have hmk := makeX_ok (C := "NoPlace") (F := m_NoPlace___init__) (g := fCons (fC (.str "ab")) fNil) (δ := δ5) (L := L5) (L1 := L5) (u := .str "ab") (fs := []) rfl (place_init _ _)
  have hix : fIsX Cs5 "BelowError" (fMakeX "NoPlace" 2 m_NoPlace___init__ (fCons (fC (.str "ab")) fNil)) δ5 L5 = some (.bl true, L5 ++ [.exc "NoPlace" true []]) := by
    unfold fIsX
    rw [hmk]
    simp only [Option.bind_some]
    rw [excAt_ok2 (C := "NoPlace") (fr := true) (fs := []) (by simp) np_in]
    rfl
  refine ⟨L5 ++ [.exc "NoPlace" true []], ?_⟩
  unfold m_law fnU b_law
  simp only [List.length_cons, List.length_nil, if_true, List.map_cons, List.map_nil, List.replicate, List.cons_append, List.nil_append]
  rw [fSeq_nx e5, fRet_eq, hix]
  rfl
end Lw
namespace Lw
open PySem L2 MR
set_option maxHeartbeats 4000000
noncomputable def top (i : Nat) : Stmt := PySem.Challenge.pw_belowpoints_k14_places_refused.main.body.getD i (.Pass ⟨0, 0, 0, 0⟩)
noncomputable abbrev s_NoPlace___init__ : Stmt := inClass (top 3) 0
theorem sc_NoPlace___init__ : FnScope ["self", "text"] ["self", "text"] (defScope s_NoPlace___init__) := ⟨rfl, rfl, rfl, by decide +kernel, rfl, by decide +kernel, by decide +kernel⟩
noncomputable abbrev s_SumTree___init__ : Stmt := inClass (top 9) 0
theorem sc_SumTree___init__ : FnScope ["self", "many"] ["self", "many"] (defScope s_SumTree___init__) := ⟨rfl, rfl, rfl, by decide +kernel, rfl, by decide +kernel, by decide +kernel⟩
noncomputable abbrev s_SumTree_need_place : Stmt := inClass (top 9) 8
theorem sc_SumTree_need_place : FnScope ["self", "place"] ["self", "place"] (defScope s_SumTree_need_place) := ⟨rfl, rfl, rfl, by decide +kernel, rfl, by decide +kernel, by decide +kernel⟩
noncomputable abbrev s_lowest_bit : Stmt := top 10
theorem sc_lowest_bit : FnScope ["number"] ["number"] (defScope s_lowest_bit) := ⟨rfl, rfl, rfl, by decide +kernel, rfl, by decide +kernel, by decide +kernel⟩
noncomputable abbrev s_SumTree_sum_of_first : Stmt := inClass (top 9) 2
theorem sc_SumTree_sum_of_first : FnScope ["self", "many", "told", "cell"] ["self", "many"] (defScope s_SumTree_sum_of_first) := ⟨rfl, rfl, rfl, by decide +kernel, rfl, by decide +kernel, by decide +kernel⟩
noncomputable abbrev s_SumTree_sum_from_to : Stmt := inClass (top 9) 3
theorem sc_SumTree_sum_from_to : FnScope ["self", "first", "last"] ["self", "first", "last"] (defScope s_SumTree_sum_from_to) := ⟨rfl, rfl, rfl, by decide +kernel, rfl, by decide +kernel, by decide +kernel⟩
noncomputable abbrev s_SumTree_number_at : Stmt := inClass (top 9) 4
theorem sc_SumTree_number_at : FnScope ["self", "place"] ["self", "place"] (defScope s_SumTree_number_at) := ⟨rfl, rfl, rfl, by decide +kernel, rfl, by decide +kernel, by decide +kernel⟩
noncomputable abbrev s_SumTree_put_to : Stmt := inClass (top 9) 1
theorem sc_SumTree_put_to : FnScope ["self", "place", "number", "cell"] ["self", "place", "number"] (defScope s_SumTree_put_to) := ⟨rfl, rfl, rfl, by decide +kernel, rfl, by decide +kernel, by decide +kernel⟩
noncomputable abbrev s_SumTree_row_now : Stmt := inClass (top 9) 5
theorem sc_SumTree_row_now : FnScope ["self"] ["self"] (defScope s_SumTree_row_now) := ⟨rfl, rfl, rfl, by decide +kernel, rfl, by decide +kernel, by decide +kernel⟩
noncomputable abbrev s_l_alone : Stmt := top 17
theorem sc_l_alone : FnScope ["caught"] ["caught"] (defScope s_l_alone) := ⟨rfl, rfl, rfl, by decide +kernel, rfl, by decide +kernel, by decide +kernel⟩
noncomputable abbrev s_l_caught : Stmt := top 18
theorem sc_l_caught : FnScope ["tree", "way", "one", "other", "caught", "e"] ["tree", "way", "one", "other"] (defScope s_l_caught) := ⟨rfl, rfl, rfl, by decide +kernel, rfl, by decide +kernel, by decide +kernel⟩
noncomputable abbrev s_l_draw : Stmt := top 14
theorem sc_l_draw : FnScope ["seed", "most", "found", "number"] ["seed", "most"] (defScope s_l_draw) := ⟨rfl, rfl, rfl, by decide +kernel, rfl, by decide +kernel, by decide +kernel⟩
noncomputable abbrev s_l_folded : Stmt := top 12
theorem sc_l_folded : FnScope ["script", "found", "cell"] ["script"] (defScope s_l_folded) := ⟨rfl, rfl, rfl, by decide +kernel, rfl, by decide +kernel, by decide +kernel⟩
noncomputable abbrev s_l_many : Stmt := top 16
theorem sc_l_many : FnScope ["seed", "way"] ["seed"] (defScope s_l_many) := ⟨rfl, rfl, rfl, by decide +kernel, rfl, by decide +kernel, by decide +kernel⟩
noncomputable abbrev s_l_number : Stmt := top 15
theorem sc_l_number : FnScope ["seed", "way", "great"] ["seed", "way"] (defScope s_l_number) := ⟨rfl, rfl, rfl, by decide +kernel, rfl, by decide +kernel, by decide +kernel⟩
noncomputable abbrev s_SumTree_cells_now : Stmt := inClass (top 9) 6
theorem sc_SumTree_cells_now : FnScope ["self"] ["self"] (defScope s_SumTree_cells_now) := ⟨rfl, rfl, rfl, by decide +kernel, rfl, by decide +kernel, by decide +kernel⟩
noncomputable abbrev s_l_put_right : Stmt := top 19
theorem sc_l_put_right : FnScope ["seed", "tree", "row", "place", "number", "cells"] ["seed", "tree", "row"] (defScope s_l_put_right) := ⟨rfl, rfl, rfl, by decide +kernel, rfl, by decide +kernel, by decide +kernel⟩
noncomputable abbrev s_l_seed : Stmt := top 13
theorem sc_l_seed : FnScope ["cell", "number"] ["cell"] (defScope s_l_seed) := ⟨rfl, rfl, rfl, by decide +kernel, rfl, by decide +kernel, by decide +kernel⟩
noncomputable abbrev s_law : Stmt := top 20
theorem sc_law : FnScope ["script", "cell", "seed", "many", "tree", "turn", "row", "far", "bad", "rows", "way", "one", "other"] ["script"] (defScope s_law) := ⟨rfl, rfl, rfl, by decide +kernel, rfl, by decide +kernel, by decide +kernel⟩
set_option genInjectivity false
set_option genSizeOf false
set_option genSizeOfSpec false
structure Defs (K : PySem.W.Frag) (mg : Str → Option Value) where
  A_SumTree : Addr
  T_SumTree : ClsF K "SumTree" A_SumTree
  A_BelowError : Addr
  A_NoAsk : Addr
  A_NoCounts : Addr
  A_NoName : Addr
  A_NoPlace : Addr
  A_NoPoints : Addr
  f_NoPlace___init__ : Addr
  d_NoPlace___init__ : FuncData
  F_NoPlace___init__ : Fun K "__init__" "NoPlace.__init__" s_NoPlace___init__ f_NoPlace___init__ d_NoPlace___init__
  b_NoPlace___init__ : Binds K d_NoPlace___init__ ["self", "text"] []
  f_SumTree___init__ : Addr
  d_SumTree___init__ : FuncData
  F_SumTree___init__ : Fun K "__init__" "SumTree.__init__" s_SumTree___init__ f_SumTree___init__ d_SumTree___init__
  b_SumTree___init__ : Binds K d_SumTree___init__ ["self", "many"] []
  f_SumTree_need_place : Addr
  d_SumTree_need_place : FuncData
  F_SumTree_need_place : Fun K "need_place" "SumTree.need_place" s_SumTree_need_place f_SumTree_need_place d_SumTree_need_place
  b_SumTree_need_place : Binds K d_SumTree_need_place ["self", "place"] []
  me_SumTree_need_place : Meth K A_SumTree "need_place" f_SumTree_need_place
  f_lowest_bit : Addr
  d_lowest_bit : FuncData
  F_lowest_bit : Fun K "lowest_bit" "lowest_bit" s_lowest_bit f_lowest_bit d_lowest_bit
  b_lowest_bit : Binds K d_lowest_bit ["number"] []
  g_lowest_bit : mg "lowest_bit" = some (.ref f_lowest_bit)
  f_SumTree_sum_of_first : Addr
  d_SumTree_sum_of_first : FuncData
  F_SumTree_sum_of_first : Fun K "sum_of_first" "SumTree.sum_of_first" s_SumTree_sum_of_first f_SumTree_sum_of_first d_SumTree_sum_of_first
  b_SumTree_sum_of_first : Binds K d_SumTree_sum_of_first ["self", "many"] []
  me_SumTree_sum_of_first : Meth K A_SumTree "sum_of_first" f_SumTree_sum_of_first
  f_SumTree_sum_from_to : Addr
  d_SumTree_sum_from_to : FuncData
  F_SumTree_sum_from_to : Fun K "sum_from_to" "SumTree.sum_from_to" s_SumTree_sum_from_to f_SumTree_sum_from_to d_SumTree_sum_from_to
  b_SumTree_sum_from_to : Binds K d_SumTree_sum_from_to ["self", "first", "last"] []
  me_SumTree_sum_from_to : Meth K A_SumTree "sum_from_to" f_SumTree_sum_from_to
  f_SumTree_number_at : Addr
  d_SumTree_number_at : FuncData
  F_SumTree_number_at : Fun K "number_at" "SumTree.number_at" s_SumTree_number_at f_SumTree_number_at d_SumTree_number_at
  b_SumTree_number_at : Binds K d_SumTree_number_at ["self", "place"] []
  me_SumTree_number_at : Meth K A_SumTree "number_at" f_SumTree_number_at
  f_SumTree_put_to : Addr
  d_SumTree_put_to : FuncData
  F_SumTree_put_to : Fun K "put_to" "SumTree.put_to" s_SumTree_put_to f_SumTree_put_to d_SumTree_put_to
  b_SumTree_put_to : Binds K d_SumTree_put_to ["self", "place", "number"] []
  me_SumTree_put_to : Meth K A_SumTree "put_to" f_SumTree_put_to
  f_SumTree_row_now : Addr
  d_SumTree_row_now : FuncData
  F_SumTree_row_now : Fun K "row_now" "SumTree.row_now" s_SumTree_row_now f_SumTree_row_now d_SumTree_row_now
  b_SumTree_row_now : Binds K d_SumTree_row_now ["self"] []
  me_SumTree_row_now : Meth K A_SumTree "row_now" f_SumTree_row_now
  f_l_alone : Addr
  d_l_alone : FuncData
  F_l_alone : Fun K "_law_alone" "_law_alone" s_l_alone f_l_alone d_l_alone
  b_l_alone : Binds K d_l_alone ["caught"] []
  g_l_alone : mg "_law_alone" = some (.ref f_l_alone)
  f_l_caught : Addr
  d_l_caught : FuncData
  F_l_caught : Fun K "_law_caught" "_law_caught" s_l_caught f_l_caught d_l_caught
  b_l_caught : Binds K d_l_caught ["tree", "way", "one", "other"] []
  g_l_caught : mg "_law_caught" = some (.ref f_l_caught)
  f_l_draw : Addr
  d_l_draw : FuncData
  F_l_draw : Fun K "_law_draw" "_law_draw" s_l_draw f_l_draw d_l_draw
  b_l_draw : Binds K d_l_draw ["seed", "most"] []
  g_l_draw : mg "_law_draw" = some (.ref f_l_draw)
  f_l_folded : Addr
  d_l_folded : FuncData
  F_l_folded : Fun K "_law_folded" "_law_folded" s_l_folded f_l_folded d_l_folded
  b_l_folded : Binds K d_l_folded ["script"] []
  g_l_folded : mg "_law_folded" = some (.ref f_l_folded)
  f_l_many : Addr
  d_l_many : FuncData
  F_l_many : Fun K "_law_many" "_law_many" s_l_many f_l_many d_l_many
  b_l_many : Binds K d_l_many ["seed"] []
  g_l_many : mg "_law_many" = some (.ref f_l_many)
  f_l_number : Addr
  d_l_number : FuncData
  F_l_number : Fun K "_law_number" "_law_number" s_l_number f_l_number d_l_number
  b_l_number : Binds K d_l_number ["seed", "way"] []
  g_l_number : mg "_law_number" = some (.ref f_l_number)
  f_SumTree_cells_now : Addr
  d_SumTree_cells_now : FuncData
  F_SumTree_cells_now : Fun K "cells_now" "SumTree.cells_now" s_SumTree_cells_now f_SumTree_cells_now d_SumTree_cells_now
  b_SumTree_cells_now : Binds K d_SumTree_cells_now ["self"] []
  me_SumTree_cells_now : Meth K A_SumTree "cells_now" f_SumTree_cells_now
  f_l_put_right : Addr
  d_l_put_right : FuncData
  F_l_put_right : Fun K "_law_put_right" "_law_put_right" s_l_put_right f_l_put_right d_l_put_right
  b_l_put_right : Binds K d_l_put_right ["seed", "tree", "row"] []
  g_l_put_right : mg "_law_put_right" = some (.ref f_l_put_right)
  f_l_seed : Addr
  d_l_seed : FuncData
  F_l_seed : Fun K "_law_seed" "_law_seed" s_l_seed f_l_seed d_l_seed
  b_l_seed : Binds K d_l_seed ["cell"] []
  g_l_seed : mg "_law_seed" = some (.ref f_l_seed)
  f_law : Addr
  d_law : FuncData
  F_law : Fun K "law" "law" s_law f_law d_law
  b_law : Binds K d_law ["script"] []
  g_law : mg "law" = some (.ref f_law)
  mk_SumTree : Mk K A_SumTree f_SumTree___init__
  gc_SumTree : mg "SumTree" = some (.ref A_SumTree)
  xn_BelowError : PySem.W.nsIn K mainGlobals "BelowError" = some (some (.ref A_BelowError))
  gc_BelowError : mg "BelowError" = some (.ref A_BelowError)
  xn_NoAsk : PySem.W.nsIn K mainGlobals "NoAsk" = some (some (.ref A_NoAsk))
  gc_NoAsk : mg "NoAsk" = some (.ref A_NoAsk)
  xn_NoCounts : PySem.W.nsIn K mainGlobals "NoCounts" = some (some (.ref A_NoCounts))
  gc_NoCounts : mg "NoCounts" = some (.ref A_NoCounts)
  xn_NoName : PySem.W.nsIn K mainGlobals "NoName" = some (some (.ref A_NoName))
  gc_NoName : mg "NoName" = some (.ref A_NoName)
  xn_NoPlace : PySem.W.nsIn K mainGlobals "NoPlace" = some (some (.ref A_NoPlace))
  gc_NoPlace : mg "NoPlace" = some (.ref A_NoPlace)
  xn_NoPoints : PySem.W.nsIn K mainGlobals "NoPoints" = some (some (.ref A_NoPoints))
  gc_NoPoints : mg "NoPoints" = some (.ref A_NoPoints)
  xm_NoPlace : MkX K A_NoPlace f_NoPlace___init__
  bi_BelowError : BInit K A_BelowError
  xt : xTab K ["NoPlace", "NoAsk", "NoPoints", "NoCounts", "NoName"] ["BelowError", "NoPlace", "NoAsk", "NoPoints", "NoCounts", "NoName", "ValueError"] = true
  xv : PySem.W.nsIn K mainGlobals "ValueError" = some none
  nf_SumTree_cells : NoAttr K A_SumTree "cells"
  nf_SumTree_many : NoAttr K A_SumTree "many"
  n_ValueError : mg "ValueError" = none
  n_int : mg "int" = none
  n_isinstance : mg "isinstance" = none
  n_len : mg "len" = none
  n_max : mg "max" = none
  n_min : mg "min" = none
  n_range : mg "range" = none
  n_sum : mg "sum" = none
  n_tuple : mg "tuple" = none
section
variable {P : Program} {w : World} {K : PySem.W.Frag} {mg : Str → Option Value} {base : Heap}
theorem ok_NoPlace___init__ (C : Defs K mg) : FnOk P w K mg base CX0 1 C.f_NoPlace___init__ C.d_NoPlace___init__ ["self", "text"] (spF K 2 m_NoPlace___init__) := by
  refine Fun.okF (N := ["self", "text"]) C.F_NoPlace___init__ sc_NoPlace___init__ (fun cdv A outer s H E hr => ?_)
  have hu := hr.units
  exact (psf_one (psf_expr (pf_binit (AllX.of C.xt) C.bi_BelowError (by rfl) C.gc_BelowError (paf_cons (pf_v 0) (paf_cons (pf_v 1) paf_nil)))))
theorem ok_SumTree___init__ (C : Defs K mg) : FnOk P w K mg base CX0 1 C.f_SumTree___init__ C.d_SumTree___init__ ["self", "many"] (spF K 2 m_SumTree___init__) := by
  refine Fun.okF (N := ["self", "many"]) C.F_SumTree___init__ sc_SumTree___init__ (fun cdv A outer s H E hr => ?_)
  have hu := hr.units
  refine psf_cons ?s0 ?t0
  case s0 => exact (psf_fld C.T_SumTree C.nf_SumTree_many (pf_v 0) (pf_v 1))
  exact (psf_one (psf_fld C.T_SumTree C.nf_SumTree_cells (pf_v 0) (pf_op op_mulA sem_mul (pf_lst (paf_cons pf_int paf_nil)) (pf_op op_addA sem_add (pf_v 1) pf_int))))
theorem ok_SumTree_need_place (C : Defs K mg) : FnOk P w K mg base CX0 1 C.f_SumTree_need_place C.d_SumTree_need_place ["self", "place"] (spF K 2 m_SumTree_need_place) := by
  refine Fun.okF (N := ["self", "place"]) C.F_SumTree_need_place sc_SumTree_need_place (fun cdv A outer s H E hr => ?_)
  have hu := hr.units
  exact (psf_one (psf_if (PWF.pt (pwf_or (ptf_cmp op_lt sem_lt (pf_v 1) pf_int (nomark _)) (pwf_or1 (ptf_cmp op_gt sem_gt (pf_v 1) (pf_fld C.T_SumTree C.nf_SumTree_many (pf_v 0)) (nomark _))))) (psf_one psf_never) psf_nil))
theorem okx_SumTree_need_place (C : Defs K mg) : FnX P w K mg base 3 C.f_SumTree_need_place C.d_SumTree_need_place ["self", "place"] x_SumTree_need_place := by
  refine Fun.okX (N := ["self", "place"]) C.F_SumTree_need_place sc_SumTree_need_place (fun cdv A outer s H E hr => ?_)
  have hu := hr.units
  exact (xss_one (xs_if (PWF.pt (pwf_or (ptf_cmp op_lt sem_lt (pf_v 1) pf_int (nomark _)) (pwf_or1 (ptf_cmp op_gt sem_gt (pf_v 1) (pf_fld C.T_SumTree C.nf_SumTree_many (pf_v 0)) (nomark _))))) (xss_one (xs_raise (AllX.of C.xt) (pf_makeX C.xn_NoPlace C.xm_NoPlace (ok_NoPlace___init__ C) (hr.mono (by decide)) (by rfl) C.gc_NoPlace C.b_NoPlace___init__ (paf_cons (pf_joined (.cons pf_str (.cons (pf_fmt (pf_v 1)) .nil))) paf_nil)))) xss_no))
theorem ok_lowest_bit (C : Defs K mg) : FnOk P w K mg base CX0 1 C.f_lowest_bit C.d_lowest_bit ["number"] (spF K 1 m_lowest_bit) := by
  refine Fun.okF (N := ["number"]) C.F_lowest_bit sc_lowest_bit (fun cdv A outer s H E hr => ?_)
  have hu := hr.units
  exact (psf_one (psf_ret (pf_op op_and sem_bitAnd (pf_v 0) (pf_neg (pf_v 0)))))
theorem ok_SumTree_sum_of_first (C : Defs K mg) : FnOk P w K mg base CX0 2 C.f_SumTree_sum_of_first C.d_SumTree_sum_of_first ["self", "many"] (spF K 2 m_SumTree_sum_of_first) := by
  refine Fun.okF (N := ["self", "many", "told", "cell"]) C.F_SumTree_sum_of_first sc_SumTree_sum_of_first (fun cdv A outer s H E hr => ?_)
  have hu := hr.units
  refine psf_cons ?s0 ?t0
  case s0 => exact (psf_if (PWF.pt (pwf_or (ptf_cmp op_lt sem_lt (pf_v 1) pf_int (nomark _)) (pwf_or1 (ptf_cmp op_gt sem_gt (pf_v 1) (pf_fld C.T_SumTree C.nf_SumTree_many (pf_v 0)) (nomark _))))) (psf_one psf_never) psf_nil)
  refine psf_cons ?s1 ?t1
  case s1 => exact (psf_set (i := 2) (by exact sc_SumTree_sum_of_first.nd) pf_int)
  refine psf_cons ?s2 ?t2
  case s2 => exact (psf_set (i := 3) (by exact sc_SumTree_sum_of_first.nd) (pf_v 1))
  refine psf_cons ?s3 ?t3
  case s3 => exact (psf_while 100000 PassesOwn.never (ptf_cmp op_gt sem_gt (pf_v 3) pf_int (nomark _)) (psf_cons (psf_set (i := 2) (by exact sc_SumTree_sum_of_first.nd) (pf_op op_addA sem_add (pf_v 2) (pf_ix ix_seq sem_ix (pf_fld C.T_SumTree C.nf_SumTree_cells (pf_v 0)) (pf_v 3) (fun _ _ => rfl)))) (psf_one (psf_set (i := 3) (by exact sc_SumTree_sum_of_first.nd) (pf_op op_sub sem_sub (pf_v 3) (pf_call (ok_lowest_bit C) (hr.mono (by decide)) (by rfl) C.g_lowest_bit C.F_lowest_bit.kp C.b_lowest_bit (paf_cons (pf_v 3) paf_nil)))))))
  exact (psf_one (psf_ret (pf_v 2)))
theorem okx_SumTree_sum_of_first (C : Defs K mg) : FnX P w K mg base 3 C.f_SumTree_sum_of_first C.d_SumTree_sum_of_first ["self", "many"] x_SumTree_sum_of_first := by
  refine Fun.okX (N := ["self", "many", "told", "cell"]) C.F_SumTree_sum_of_first sc_SumTree_sum_of_first (fun cdv A outer s H E hr => ?_)
  have hu := hr.units
  exact (xss_first (xs_if (PWF.pt (pwf_or (ptf_cmp op_lt sem_lt (pf_v 1) pf_int (nomark _)) (pwf_or1 (ptf_cmp op_gt sem_gt (pf_v 1) (pf_fld C.T_SumTree C.nf_SumTree_many (pf_v 0)) (nomark _))))) (xss_one (xs_raise (AllX.of C.xt) (pf_makeX C.xn_NoPlace C.xm_NoPlace (ok_NoPlace___init__ C) (hr.mono (by decide)) (by rfl) C.gc_NoPlace C.b_NoPlace___init__ (paf_cons (pf_joined (.cons pf_str (.cons (pf_fmt (pf_v 1)) (.cons pf_str .nil)))) paf_nil)))) xss_no))
theorem ok_SumTree_sum_from_to (C : Defs K mg) : FnOk P w K mg base CX0 3 C.f_SumTree_sum_from_to C.d_SumTree_sum_from_to ["self", "first", "last"] (spF K 3 m_SumTree_sum_from_to) := by
  refine Fun.okF (N := ["self", "first", "last"]) C.F_SumTree_sum_from_to sc_SumTree_sum_from_to (fun cdv A outer s H E hr => ?_)
  have hu := hr.units
  refine psf_cons ?s0 ?t0
  case s0 => exact (psf_expr (pf_meth C.T_SumTree C.me_SumTree_need_place (ok_SumTree_need_place C) (hr.mono (by decide)) C.b_SumTree_need_place (pf_v 0) (paf_cons (pf_v 1) paf_nil)))
  refine psf_cons ?s1 ?t1
  case s1 => exact (psf_expr (pf_meth C.T_SumTree C.me_SumTree_need_place (ok_SumTree_need_place C) (hr.mono (by decide)) C.b_SumTree_need_place (pf_v 0) (paf_cons (pf_v 2) paf_nil)))
  refine psf_cons ?s2 ?t2
  case s2 => exact (psf_if (ptf_cmp op_lt sem_lt (pf_v 2) (pf_v 1) (nomark _)) (psf_one (psf_ret pf_int)) psf_nil)
  exact (psf_one (psf_ret (pf_op op_sub sem_sub (pf_meth C.T_SumTree C.me_SumTree_sum_of_first (ok_SumTree_sum_of_first C) (hr.mono (by decide)) C.b_SumTree_sum_of_first (pf_v 0) (paf_cons (pf_v 2) paf_nil)) (pf_meth C.T_SumTree C.me_SumTree_sum_of_first (ok_SumTree_sum_of_first C) (hr.mono (by decide)) C.b_SumTree_sum_of_first (pf_v 0) (paf_cons (pf_op op_sub sem_sub (pf_v 1) pf_int) paf_nil)))))
theorem okx_SumTree_sum_from_to (C : Defs K mg) : FnX P w K mg base 4 C.f_SumTree_sum_from_to C.d_SumTree_sum_from_to ["self", "first", "last"] x_SumTree_sum_from_to := by
  refine Fun.okX (N := ["self", "first", "last"]) C.F_SumTree_sum_from_to sc_SumTree_sum_from_to (fun cdv A outer s H E hr => ?_)
  have hu := hr.units
  exact (xss_cons (psf_expr (pf_meth C.T_SumTree C.me_SumTree_need_place (ok_SumTree_need_place C) (hr.mono (by decide)) C.b_SumTree_need_place (pf_v 0) (paf_cons (pf_v 1) paf_nil))) (xs_expr (xe_meth C.T_SumTree C.me_SumTree_need_place (okx_SumTree_need_place C) (hr.mono (by decide)) C.b_SumTree_need_place (pf_v 0) (paf_cons (pf_v 1) paf_nil))) (xss_first (xs_expr (xe_meth C.T_SumTree C.me_SumTree_need_place (okx_SumTree_need_place C) (hr.mono (by decide)) C.b_SumTree_need_place (pf_v 0) (paf_cons (pf_v 2) paf_nil)))))
theorem ok_SumTree_number_at (C : Defs K mg) : FnOk P w K mg base CX0 4 C.f_SumTree_number_at C.d_SumTree_number_at ["self", "place"] (spF K 2 m_SumTree_number_at) := by
  refine Fun.okF (N := ["self", "place"]) C.F_SumTree_number_at sc_SumTree_number_at (fun cdv A outer s H E hr => ?_)
  have hu := hr.units
  exact (psf_one (psf_ret (pf_meth C.T_SumTree C.me_SumTree_sum_from_to (ok_SumTree_sum_from_to C) (hr.mono (by decide)) C.b_SumTree_sum_from_to (pf_v 0) (paf_cons (pf_v 1) (paf_cons (pf_v 1) paf_nil)))))
theorem okx_SumTree_number_at (C : Defs K mg) : FnX P w K mg base 5 C.f_SumTree_number_at C.d_SumTree_number_at ["self", "place"] x_SumTree_number_at := by
  refine Fun.okX (N := ["self", "place"]) C.F_SumTree_number_at sc_SumTree_number_at (fun cdv A outer s H E hr => ?_)
  have hu := hr.units
  exact (xss_one (xs_ret (xe_meth C.T_SumTree C.me_SumTree_sum_from_to (okx_SumTree_sum_from_to C) (hr.mono (by decide)) C.b_SumTree_sum_from_to (pf_v 0) (paf_cons (pf_v 1) (paf_cons (pf_v 1) paf_nil)))))
theorem ok_SumTree_put_to (C : Defs K mg) : FnOk P w K mg base CX0 2 C.f_SumTree_put_to C.d_SumTree_put_to ["self", "place", "number"] (spF K 3 m_SumTree_put_to) := by
  refine Fun.okF (N := ["self", "place", "number", "cell"]) C.F_SumTree_put_to sc_SumTree_put_to (fun cdv A outer s H E hr => ?_)
  have hu := hr.units
  refine psf_cons ?s0 ?t0
  case s0 => exact (psf_expr (pf_meth C.T_SumTree C.me_SumTree_need_place (ok_SumTree_need_place C) (hr.mono (by decide)) C.b_SumTree_need_place (pf_v 0) (paf_cons (pf_v 1) paf_nil)))
  refine psf_cons ?s1 ?t1
  case s1 => exact (psf_set (i := 3) (by exact sc_SumTree_put_to.nd) (pf_v 1))
  exact (psf_one (psf_while 100000 PassesOwn.never (ptf_cmp op_le sem_le (pf_v 3) (pf_fld C.T_SumTree C.nf_SumTree_many (pf_v 0)) (nomark _)) (psf_cons (psf_asg (pf_op op_addA sem_add (pf_ix ix_seq sem_ix (pf_fld C.T_SumTree C.nf_SumTree_cells (pf_v 0)) (pf_v 3) (fun _ _ => rfl)) (pf_v 2)) (pgf_sub (pf_fld C.T_SumTree C.nf_SumTree_cells (pf_v 0)) (pf_v 3))) (psf_one (psf_set (i := 3) (by exact sc_SumTree_put_to.nd) (pf_op op_addA sem_add (pf_v 3) (pf_call (ok_lowest_bit C) (hr.mono (by decide)) (by rfl) C.g_lowest_bit C.F_lowest_bit.kp C.b_lowest_bit (paf_cons (pf_v 3) paf_nil))))))))
theorem okx_SumTree_put_to (C : Defs K mg) : FnX P w K mg base 4 C.f_SumTree_put_to C.d_SumTree_put_to ["self", "place", "number"] x_SumTree_put_to := by
  refine Fun.okX (N := ["self", "place", "number", "cell"]) C.F_SumTree_put_to sc_SumTree_put_to (fun cdv A outer s H E hr => ?_)
  have hu := hr.units
  exact (xss_first (xs_expr (xe_meth C.T_SumTree C.me_SumTree_need_place (okx_SumTree_need_place C) (hr.mono (by decide)) C.b_SumTree_need_place (pf_v 0) (paf_cons (pf_v 1) paf_nil))))
theorem ok_SumTree_row_now (C : Defs K mg) : FnOk P w K mg base CX0 5 C.f_SumTree_row_now C.d_SumTree_row_now ["self"] (spF K 1 m_SumTree_row_now) := by
  refine Fun.okF (N := ["self"]) C.F_SumTree_row_now sc_SumTree_row_now (fun cdv A outer s H E hr => ?_)
  have hu := hr.units
  exact (psf_one (psf_ret (pf_callTy call_tuple_of sem_tuple (by rfl) C.n_tuple (by decide +kernel) (paf_cons (pf_comp (N' := ["place", "self"]) (ix := [none, some 0]) ⟨rfl, rfl, rfl, rfl, rfl, rfl⟩ rfl (pif_range2 (by rfl) C.n_range (paf_cons pf_int (paf_cons (pf_op op_addA sem_add (pf_fld C.T_SumTree C.nf_SumTree_many (pf_v 0)) pf_int) paf_nil))) (fun _ _ _ _ _ _ => (pgf_name (i := 0) (show List.Nodup (α := Str) ["place", "self"] by decide +kernel))) (fun _ _ _ _ _ _ => (pf_meth C.T_SumTree C.me_SumTree_number_at (ok_SumTree_number_at C) (hr.mono (by decide)) C.b_SumTree_number_at (pf_v 1) (paf_cons (pf_v 0) paf_nil)))) paf_nil))))
theorem ok_l_alone (C : Defs K mg) : FnOk P w K mg base CX0 1 C.f_l_alone C.d_l_alone ["caught"] (spF K 1 m_l_alone) := by
  refine Fun.okF (N := ["caught"]) C.F_l_alone sc_l_alone (fun cdv A outer s H E hr => ?_)
  have hu := hr.units
  refine psf_cons ?s0 ?t0
  case s0 => exact (psf_if (PWF.pt (pwf_or (ptf_not (ptf_tru (pf_isx C.xt (by decide) C.xn_NoPlace (pf_v 0) (by rfl) C.n_isinstance (by rfl) C.gc_NoPlace))) (pwf_or (ptf_not (ptf_tru (pf_isx C.xt (by decide) C.xn_BelowError (pf_v 0) (by rfl) C.n_isinstance (by rfl) C.gc_BelowError))) (pwf_or1 (ptf_not (ptf_tru (pf_isxV C.xt (by decide) C.xv (pf_v 0) (by rfl) C.n_isinstance (by rfl) C.n_ValueError))))))) (psf_one (psf_ret pf_bl)) psf_nil)
  exact (psf_one (psf_ret (pf_not (pf_isxt C.xt (by decide) (.cons C.xn_NoAsk (by rfl) C.gc_NoAsk (.cons C.xn_NoCounts (by rfl) C.gc_NoCounts (.cons C.xn_NoName (by rfl) C.gc_NoName (.cons C.xn_NoPoints (by rfl) C.gc_NoPoints .nil)))) (pf_v 0) (by rfl) C.n_isinstance))))
theorem ok_l_caught (C : Defs K mg) : FnOk P w K mg base CX0 6 C.f_l_caught C.d_l_caught ["tree", "way", "one", "other"] (spF K 4 m_l_caught) := by
  refine Fun.okF (N := ["tree", "way", "one", "other", "caught", "e"]) C.F_l_caught sc_l_caught (fun cdv A outer s H E hr => ?_)
  have hu := hr.units
  refine psf_cons ?s0 ?t0
  case s0 => exact (psf_set (i := 4) (by exact sc_l_caught.nd) pf_non)
  refine psf_cons ?s1 ?t1
  case s1 => exact (psf_try (i := 5) (AllM.sub C.xt (by decide) (by decide) C.xn_BelowError (by decide)) (by exact sc_l_caught.nd) (psf_one (psf_if (ptf_cmp (op_eqU hu) sem_eq (pf_v 1) pf_int (nomark _)) (psf_one (psf_expr (pf_meth C.T_SumTree C.me_SumTree_put_to (ok_SumTree_put_to C) (hr.mono (by decide)) C.b_SumTree_put_to (pf_v 0) (paf_cons (pf_v 2) (paf_cons (pf_v 3) paf_nil))))) (psf_one (psf_if (ptf_cmp (op_eqU hu) sem_eq (pf_v 1) pf_int (nomark _)) (psf_one (psf_expr (pf_meth C.T_SumTree C.me_SumTree_sum_of_first (ok_SumTree_sum_of_first C) (hr.mono (by decide)) C.b_SumTree_sum_of_first (pf_v 0) (paf_cons (pf_v 2) paf_nil)))) (psf_one (psf_if (ptf_cmp (op_eqU hu) sem_eq (pf_v 1) pf_int (nomark _)) (psf_one (psf_expr (pf_meth C.T_SumTree C.me_SumTree_sum_from_to (ok_SumTree_sum_from_to C) (hr.mono (by decide)) C.b_SumTree_sum_from_to (pf_v 0) (paf_cons (pf_v 2) (paf_cons (pf_v 3) paf_nil))))) (psf_one (psf_expr (pf_meth C.T_SumTree C.me_SumTree_number_at (ok_SumTree_number_at C) (hr.mono (by decide)) C.b_SumTree_number_at (pf_v 0) (paf_cons (pf_v 2) paf_nil)))))))))) (xss_one (xs_if (ptf_cmp (op_eqU hu) sem_eq (pf_v 1) pf_int (nomark _)) (xss_one (xs_expr (xe_meth C.T_SumTree C.me_SumTree_put_to (okx_SumTree_put_to C) (hr.mono (by decide)) C.b_SumTree_put_to (pf_v 0) (paf_cons (pf_v 2) (paf_cons (pf_v 3) paf_nil))))) (xss_one (xs_if (ptf_cmp (op_eqU hu) sem_eq (pf_v 1) pf_int (nomark _)) (xss_one (xs_expr (xe_meth C.T_SumTree C.me_SumTree_sum_of_first (okx_SumTree_sum_of_first C) (hr.mono (by decide)) C.b_SumTree_sum_of_first (pf_v 0) (paf_cons (pf_v 2) paf_nil)))) (xss_one (xs_if (ptf_cmp (op_eqU hu) sem_eq (pf_v 1) pf_int (nomark _)) (xss_one (xs_expr (xe_meth C.T_SumTree C.me_SumTree_sum_from_to (okx_SumTree_sum_from_to C) (hr.mono (by decide)) C.b_SumTree_sum_from_to (pf_v 0) (paf_cons (pf_v 2) (paf_cons (pf_v 3) paf_nil))))) (xss_one (xs_expr (xe_meth C.T_SumTree C.me_SumTree_number_at (okx_SumTree_number_at C) (hr.mono (by decide)) C.b_SumTree_number_at (pf_v 0) (paf_cons (pf_v 2) paf_nil)))))))))) (fun _ => (psf_one (psf_set (i := 4) (by exact sc_l_caught.nd) (pf_v 5)))) (by rfl) C.gc_BelowError)
  exact (psf_one (psf_ret (pf_v 4)))
theorem ok_l_draw (C : Defs K mg) : FnOk P w K mg base CX0 1 C.f_l_draw C.d_l_draw ["seed", "most"] (spF K 2 m_l_draw) := by
  refine Fun.okF (N := ["seed", "most", "found", "number"]) C.F_l_draw sc_l_draw (fun cdv A outer s H E hr => ?_)
  have hu := hr.units
  refine psf_cons ?s0 ?t0
  case s0 => exact (psf_asg (pf_op op_addA sem_add (pf_ix ix_seq sem_ix (pf_v 0) pf_int (fun _ _ => rfl)) pf_int) (pgf_sub (pf_v 0) pf_int))
  refine psf_cons ?s1 ?t1
  case s1 => exact (psf_if (PWF.pt (pwf_and (ptf_cmp (op_eqU hu) sem_eq (pf_ix ix_seq sem_ix (pf_v 0) pf_int (fun _ _ => rfl)) pf_int (nomark _)) (pwf_and1 (ptf_cmp op_gt sem_gt (pf_ix ix_seq sem_ix (pf_v 0) pf_int (fun _ _ => rfl)) pf_int (nomark _))))) (psf_cons (psf_set (i := 2) (by exact sc_l_draw.nd) (pf_op op_mod sem_mod (pf_ix ix_seq sem_ix (pf_v 0) pf_int (fun _ _ => rfl)) (pf_v 1))) (psf_cons (psf_asg (pf_op op_fdivW sem_div (pf_ix ix_seq sem_ix (pf_v 0) pf_int (fun _ _ => rfl)) (pf_v 1)) (pgf_sub (pf_v 0) pf_int)) (psf_one (psf_ret (pf_v 2))))) psf_nil)
  refine psf_cons ?s2 ?t2
  case s2 => exact (psf_set (i := 3) (by exact sc_l_draw.nd) (pf_op op_mod sem_mod (pf_op op_mulA sem_mul (pf_op op_addA sem_add (pf_op op_addA sem_add (pf_ix ix_seq sem_ix (pf_v 0) pf_int (fun _ _ => rfl)) (pf_op op_mulA sem_mul pf_int (pf_ix ix_seq sem_ix (pf_v 0) pf_int (fun _ _ => rfl)))) pf_int) pf_int) pf_int))
  refine psf_cons ?s3 ?t3
  case s3 => exact (psf_set (i := 3) (by exact sc_l_draw.nd) (pf_op op_mod sem_mod (pf_op op_mulA sem_mul (pf_op op_mod sem_mod (pf_op op_mulA sem_mul (pf_v 3) (pf_v 3)) pf_int) pf_int) pf_int))
  exact (psf_one (psf_ret (pf_op op_mod sem_mod (pf_op op_fdivW sem_div (pf_v 3) pf_int) (pf_v 1))))
theorem ok_l_folded (C : Defs K mg) : FnOk P w K mg base CX0 1 C.f_l_folded C.d_l_folded ["script"] (spF K 1 m_l_folded) := by
  refine Fun.okF (N := ["script", "found", "cell"]) C.F_l_folded sc_l_folded (fun cdv A outer s H E hr => ?_)
  have hu := hr.units
  refine psf_cons ?s0 ?t0
  case s0 => exact (psf_set (i := 1) (by exact sc_l_folded.nd) (pf_callB call_len sem_len (by rfl) C.n_len PySem.boot_len (paf_cons (pf_v 0) paf_nil)))
  refine psf_cons ?s1 ?t1
  case s1 => exact (psf_for PassesOwn.never rfl (pif_seq (pf_v 0)) (pgf_name (i := 2) (by exact sc_l_folded.nd)) (psf_one (psf_set (i := 1) (by exact sc_l_folded.nd) (pf_op op_mod sem_mod (pf_op op_addA sem_add (pf_op op_mulA sem_mul (pf_v 1) pf_int) (pf_op op_mod sem_mod (pf_v 2) pf_int)) pf_int))))
  exact (psf_one (psf_ret (pf_v 1)))
theorem ok_l_many (C : Defs K mg) : FnOk P w K mg base CX0 2 C.f_l_many C.d_l_many ["seed"] (spF K 1 m_l_many) := by
  refine Fun.okF (N := ["seed", "way"]) C.F_l_many sc_l_many (fun cdv A outer s H E hr => ?_)
  have hu := hr.units
  refine psf_cons ?s0 ?t0
  case s0 => exact (psf_set (i := 1) (by exact sc_l_many.nd) (pf_call (ok_l_draw C) (hr.mono (by decide)) (by rfl) C.g_l_draw C.F_l_draw.kp C.b_l_draw (paf_cons (pf_v 0) (paf_cons pf_int paf_nil))))
  refine psf_cons ?s1 ?t1
  case s1 => exact (psf_if (ptf_cmp (op_eqU hu) sem_eq (pf_v 1) pf_int (nomark _)) (psf_one (psf_ret (pf_op op_addA sem_add pf_int (pf_call (ok_l_draw C) (hr.mono (by decide)) (by rfl) C.g_l_draw C.F_l_draw.kp C.b_l_draw (paf_cons (pf_v 0) (paf_cons pf_int paf_nil)))))) psf_nil)
  refine psf_cons ?s2 ?t2
  case s2 => exact (psf_if (ptf_cmp (op_eqU hu) sem_eq (pf_v 1) pf_int (nomark _)) (psf_one (psf_ret (pf_callB (call_maxA rfl) sem_max (by rfl) C.n_max PyProof.Rows.boot_max (paf_cons pf_int (paf_cons (pf_callB (call_minA rfl) sem_min (by rfl) C.n_min PyProof.Rows.boot_min (paf_cons pf_int (paf_cons (pf_op op_addA sem_add (pf_op op_sub sem_sub (pf_op op_shl sem_shl pf_int (pf_call (ok_l_draw C) (hr.mono (by decide)) (by rfl) C.g_l_draw C.F_l_draw.kp C.b_l_draw (paf_cons (pf_v 0) (paf_cons pf_int paf_nil)))) pf_int) (pf_call (ok_l_draw C) (hr.mono (by decide)) (by rfl) C.g_l_draw C.F_l_draw.kp C.b_l_draw (paf_cons (pf_v 0) (paf_cons pf_int paf_nil)))) paf_nil))) paf_nil))))) psf_nil)
  exact (psf_one (psf_ret (pf_ix ix_seq sem_ix (pf_lst (paf_cons (pf_op op_addA sem_add pf_int (pf_call (ok_l_draw C) (hr.mono (by decide)) (by rfl) C.g_l_draw C.F_l_draw.kp C.b_l_draw (paf_cons (pf_v 0) (paf_cons pf_int paf_nil)))) (paf_cons pf_int paf_nil))) (pf_callTy call_int1 sem_int (by rfl) C.n_int (by decide +kernel) (paf_cons (pf_and (pf_cmp (op_eqU hu) sem_eq (pf_v 1) pf_int (nomark _)) (pf_one (pf_cmp (op_eqU hu) sem_eq (pf_call (ok_l_draw C) (hr.mono (by decide)) (by rfl) C.g_l_draw C.F_l_draw.kp C.b_l_draw (paf_cons (pf_v 0) (paf_cons pf_int paf_nil))) pf_int (nomark _)))) paf_nil)) (fun _ _ => rfl))))
theorem ok_l_number (C : Defs K mg) : FnOk P w K mg base CX0 2 C.f_l_number C.d_l_number ["seed", "way"] (spF K 2 m_l_number) := by
  refine Fun.okF (N := ["seed", "way", "great"]) C.F_l_number sc_l_number (fun cdv A outer s H E hr => ?_)
  have hu := hr.units
  refine psf_cons ?s0 ?t0
  case s0 => exact (psf_if (ptf_cmp (op_eqU hu) sem_eq (pf_v 1) pf_int (nomark _)) (psf_one (psf_ret (pf_op op_sub sem_sub (pf_call (ok_l_draw C) (hr.mono (by decide)) (by rfl) C.g_l_draw C.F_l_draw.kp C.b_l_draw (paf_cons (pf_v 0) (paf_cons pf_int paf_nil))) pf_int))) psf_nil)
  refine psf_cons ?s1 ?t1
  case s1 => exact (psf_if (ptf_cmp (op_eqU hu) sem_eq (pf_v 1) pf_int (nomark _)) (psf_one (psf_ret (pf_op op_sub sem_sub (pf_call (ok_l_draw C) (hr.mono (by decide)) (by rfl) C.g_l_draw C.F_l_draw.kp C.b_l_draw (paf_cons (pf_v 0) (paf_cons pf_int paf_nil))) pf_int))) psf_nil)
  refine psf_cons ?s2 ?t2
  case s2 => exact (psf_set (i := 2) (by exact sc_l_number.nd) (pf_ix ix_seq sem_ix (pf_lst (paf_cons (pf_op op_addA sem_add (pf_op op_mulA sem_mul (pf_call (ok_l_draw C) (hr.mono (by decide)) (by rfl) C.g_l_draw C.F_l_draw.kp C.b_l_draw (paf_cons (pf_v 0) (paf_cons (pf_op op_pow sem_pow pf_int pf_int) paf_nil))) (pf_op op_pow sem_pow pf_int pf_int)) (pf_call (ok_l_draw C) (hr.mono (by decide)) (by rfl) C.g_l_draw C.F_l_draw.kp C.b_l_draw (paf_cons (pf_v 0) (paf_cons (pf_op op_pow sem_pow pf_int pf_int) paf_nil)))) (paf_cons (pf_op op_sub sem_sub (pf_op op_pow sem_pow pf_int pf_int) pf_int) paf_nil))) (pf_callTy call_int1 sem_int (by rfl) C.n_int (by decide +kernel) (paf_cons (pf_cmp (op_eqU hu) sem_eq (pf_call (ok_l_draw C) (hr.mono (by decide)) (by rfl) C.g_l_draw C.F_l_draw.kp C.b_l_draw (paf_cons (pf_v 0) (paf_cons pf_int paf_nil))) pf_int (nomark _)) paf_nil)) (fun _ _ => rfl)))
  exact (psf_one (psf_ret (pf_op op_mulA sem_mul (pf_ix ix_seq sem_ix (pf_lst (paf_cons pf_int (paf_cons (pf_neg pf_int) paf_nil))) (pf_call (ok_l_draw C) (hr.mono (by decide)) (by rfl) C.g_l_draw C.F_l_draw.kp C.b_l_draw (paf_cons (pf_v 0) (paf_cons pf_int paf_nil))) (fun _ _ => rfl)) (pf_v 2))))
theorem ok_SumTree_cells_now (C : Defs K mg) : FnOk P w K mg base CX0 1 C.f_SumTree_cells_now C.d_SumTree_cells_now ["self"] (spF K 1 m_SumTree_cells_now) := by
  refine Fun.okF (N := ["self"]) C.F_SumTree_cells_now sc_SumTree_cells_now (fun cdv A outer s H E hr => ?_)
  have hu := hr.units
  exact (psf_one (psf_ret (pf_callTy call_tuple_of sem_tuple (by rfl) C.n_tuple (by decide +kernel) (paf_cons (pf_slice sl_all sem_sl (pf_fld C.T_SumTree C.nf_SumTree_cells (pf_v 0)) (pof_some pf_int) pof_none) paf_nil))))
theorem ok_l_put_right (C : Defs K mg) : FnOk P w K mg base CX0 6 C.f_l_put_right C.d_l_put_right ["seed", "tree", "row"] (spF K 3 m_l_put_right) := by
  refine Fun.okF (N := ["seed", "tree", "row", "place", "number", "cells"]) C.F_l_put_right sc_l_put_right (fun cdv A outer s H E hr => ?_)
  have hu := hr.units
  refine psf_cons ?s0 ?t0
  case s0 => exact (psf_set (i := 3) (by exact sc_l_put_right.nd) (pf_op op_addE sem_addA pf_int (pf_call (ok_l_draw C) (hr.mono (by decide)) (by rfl) C.g_l_draw C.F_l_draw.kp C.b_l_draw (paf_cons (pf_v 0) (paf_cons (pf_callB call_len sem_len (by rfl) C.n_len PySem.boot_len (paf_cons (pf_v 2) paf_nil)) paf_nil)))))
  refine psf_cons ?s1 ?t1
  case s1 => exact (psf_set (i := 4) (by exact sc_l_put_right.nd) (pf_call (ok_l_number C) (hr.mono (by decide)) (by rfl) C.g_l_number C.F_l_number.kp C.b_l_number (paf_cons (pf_v 0) (paf_cons pf_int paf_nil))))
  refine psf_cons ?s2 ?t2
  case s2 => exact (psf_expr (pf_meth C.T_SumTree C.me_SumTree_put_to (ok_SumTree_put_to C) (hr.mono (by decide)) C.b_SumTree_put_to (pf_v 1) (paf_cons (pf_v 3) (paf_cons (pf_v 4) paf_nil))))
  refine psf_cons ?s3 ?t3
  case s3 => exact (psf_set (i := 2) (by exact sc_l_put_right.nd) (pf_op op_addE sem_addA (pf_op op_addE sem_addA (pf_slice sl_allA sem_slA (pf_v 2) pof_none (pof_some (pf_op op_sub sem_sub (pf_v 3) pf_int))) (pf_tup (paf_cons (pf_op op_addE sem_addA (pf_ix ix_seq sem_ix (pf_v 2) (pf_op op_sub sem_sub (pf_v 3) pf_int) (fun _ _ => rfl)) (pf_v 4)) paf_nil))) (pf_slice sl_allA sem_slA (pf_v 2) (pof_some (pf_v 3)) pof_none)))
  refine psf_cons ?s4 ?t4
  case s4 => exact (psf_set (i := 5) (by exact sc_l_put_right.nd) (pf_callTy call_tuple_of sem_tuple (by rfl) C.n_tuple (by decide +kernel) (paf_cons (pf_comp (N' := ["k", "row"]) (ix := [none, some 2]) ⟨rfl, rfl, rfl, rfl, rfl, rfl⟩ rfl (pif_range2 (by rfl) C.n_range (paf_cons pf_int (paf_cons (pf_op op_addE sem_addA (pf_callB call_len sem_len (by rfl) C.n_len PySem.boot_len (paf_cons (pf_v 2) paf_nil)) pf_int) paf_nil))) (fun _ _ _ _ _ _ => (pgf_name (i := 0) (show List.Nodup (α := Str) ["k", "row"] by decide +kernel))) (fun _ _ _ _ _ _ => (pf_callB (call_sumA rfl) sem_sum (by rfl) C.n_sum PyProof.Rows.boot_sum (paf_cons (pf_slice sl_allA sem_slA (pf_v 1) (pof_some (pf_op op_sub sem_sub (pf_v 0) (pf_op op_and sem_bitAnd (pf_v 0) (pf_op op_sub sem_sub pf_int (pf_v 0))))) (pof_some (pf_v 0))) paf_nil)))) paf_nil)))
  exact (psf_one (psf_ret (pf_and (pf_cmp (op_eqU hu) sem_eq (pf_meth0 C.T_SumTree C.me_SumTree_row_now (ok_SumTree_row_now C) (hr.mono (by decide)) C.b_SumTree_row_now (pf_v 1)) (pf_v 2) (nomark _)) (pf_one (pf_cmp (op_eqU hu) sem_eq (pf_meth0 C.T_SumTree C.me_SumTree_cells_now (ok_SumTree_cells_now C) (hr.mono (by decide)) C.b_SumTree_cells_now (pf_v 1)) (pf_v 5) (nomark _))))))
theorem ok_l_seed (C : Defs K mg) : FnOk P w K mg base CX0 1 C.f_l_seed C.d_l_seed ["cell"] (spF K 1 m_l_seed) := by
  refine Fun.okF (N := ["cell", "number"]) C.F_l_seed sc_l_seed (fun cdv A outer s H E hr => ?_)
  have hu := hr.units
  refine psf_cons ?s0 ?t0
  case s0 => exact (psf_set (i := 1) (by exact sc_l_seed.nd) (pf_callB (call_maxA rfl) sem_max (by rfl) C.n_max PyProof.Rows.boot_max (paf_cons (pf_v 0) (paf_cons (pf_op op_sub sem_sub pf_int (pf_v 0)) paf_nil))))
  exact (psf_one (psf_ret (pf_lst (paf_cons (pf_v 1) (paf_cons (pf_callTy call_int1 sem_int (by rfl) C.n_int (by decide +kernel) (paf_cons (pf_cmp op_ge sem_ge (pf_v 1) (pf_op op_pow sem_pow pf_int pf_int) (nomark _)) paf_nil)) (paf_cons pf_int (paf_cons (pf_op op_mod sem_mod (pf_v 0) pf_int) paf_nil)))))))
theorem ok_law (C : Defs K mg) : FnOk P w K mg base CX0 7 C.f_law C.d_law ["script"] (spF K 1 m_law) := by
  refine Fun.okF (N := ["script", "cell", "seed", "many", "tree", "turn", "row", "far", "bad", "rows", "way", "one", "other"]) C.F_law sc_law (fun cdv A outer s H E hr => ?_)
  have hu := hr.units
  refine psf_cons ?s0 ?t0
  case s0 => exact (psf_for PassesOwn.never rfl (pif_seq (pf_op op_addA sem_add (pf_slice sl_all sem_sl (pf_v 0) pof_none (pof_some pf_int)) (pf_lst (paf_cons (pf_call (ok_l_folded C) (hr.mono (by decide)) (by rfl) C.g_l_folded C.F_l_folded.kp C.b_l_folded (paf_cons (pf_v 0) paf_nil)) paf_nil)))) (pgf_name (i := 1) (by exact sc_law.nd)) (psf_cons (psf_set (i := 2) (by exact sc_law.nd) (pf_call (ok_l_seed C) (hr.mono (by decide)) (by rfl) C.g_l_seed C.F_l_seed.kp C.b_l_seed (paf_cons (pf_v 1) paf_nil))) (psf_cons (psf_set (i := 3) (by exact sc_law.nd) (pf_call (ok_l_many C) (hr.mono (by decide)) (by rfl) C.g_l_many C.F_l_many.kp C.b_l_many (paf_cons (pf_v 2) paf_nil))) (psf_cons (psf_set (i := 4) (by exact sc_law.nd) (pf_make C.T_SumTree.ns C.mk_SumTree (ok_SumTree___init__ C) (hr.mono (by decide)) (by rfl) C.gc_SumTree C.b_SumTree___init__ (paf_cons (pf_v 3) paf_nil))) (psf_cons (psf_for PassesOwn.never rfl (pif_range1 (by rfl) C.n_range (paf_cons pf_int paf_nil)) (pgf_name (i := 5) (by exact sc_law.nd)) (psf_one (psf_expr (pf_meth C.T_SumTree C.me_SumTree_put_to (ok_SumTree_put_to C) (hr.mono (by decide)) C.b_SumTree_put_to (pf_v 4) (paf_cons (pf_op op_addA sem_add pf_int (pf_call (ok_l_draw C) (hr.mono (by decide)) (by rfl) C.g_l_draw C.F_l_draw.kp C.b_l_draw (paf_cons (pf_v 2) (paf_cons (pf_v 3) paf_nil)))) (paf_cons (pf_call (ok_l_number C) (hr.mono (by decide)) (by rfl) C.g_l_number C.F_l_number.kp C.b_l_number (paf_cons (pf_v 2) (paf_cons pf_int paf_nil))) paf_nil)))))) (psf_cons (psf_set (i := 6) (by exact sc_law.nd) (pf_meth0 C.T_SumTree C.me_SumTree_row_now (ok_SumTree_row_now C) (hr.mono (by decide)) C.b_SumTree_row_now (pf_v 4))) (psf_cons (psf_set (i := 7) (by exact sc_law.nd) (pf_op op_addA sem_add (pf_op op_addA sem_add (pf_v 3) pf_int) (pf_call (ok_l_draw C) (hr.mono (by decide)) (by rfl) C.g_l_draw C.F_l_draw.kp C.b_l_draw (paf_cons (pf_v 2) (paf_cons (pf_op op_pow sem_pow pf_int pf_int) paf_nil))))) (psf_cons (psf_for PassesOwn.never rfl (pif_seq (pf_lst (by refine paf_cons (pf_neg pf_int) ?_; refine paf_cons (pf_op op_addA sem_add (pf_v 3) pf_int) ?_; refine paf_cons (pf_v 7) ?_; refine paf_cons (pf_op op_sub sem_sub pf_int (pf_v 7)) ?_; refine paf_cons (pf_op op_sub sem_sub (pf_neg pf_int) (pf_call (ok_l_draw C) (hr.mono (by decide)) (by rfl) C.g_l_draw C.F_l_draw.kp C.b_l_draw (paf_cons (pf_v 2) (paf_cons (pf_op op_addA sem_add (pf_v 3) pf_int) paf_nil)))) ?_; exact paf_nil))) (pgf_name (i := 8) (by exact sc_law.nd)) (psf_cons (psf_set (i := 9) (by exact sc_law.nd) (pf_lst (by refine paf_cons (pf_tup (paf_cons pf_int (paf_cons (pf_v 8) (paf_cons pf_int paf_nil)))) ?_; refine paf_cons (pf_tup (paf_cons pf_int (paf_cons (pf_v 8) (paf_cons pf_int paf_nil)))) ?_; refine paf_cons (pf_tup (paf_cons pf_int (paf_cons (pf_v 8) (paf_cons (pf_neg pf_int) paf_nil)))) ?_; refine paf_cons (pf_tup (paf_cons pf_int (paf_cons (pf_v 8) (paf_cons pf_int paf_nil)))) ?_; refine paf_cons (pf_tup (paf_cons pf_int (paf_cons (pf_v 8) (paf_cons pf_int paf_nil)))) ?_; refine paf_cons (pf_tup (paf_cons pf_int (paf_cons pf_int (paf_cons (pf_v 8) paf_nil)))) ?_; exact paf_nil))) (psf_cons (psf_set (i := 9) (by exact sc_law.nd) (pf_op op_addA sem_add (pf_v 9) (pf_lst (paf_cons (pf_tup (paf_cons pf_int (paf_cons (pf_v 3) (paf_cons (pf_v 8) paf_nil)))) (paf_cons (pf_tup (paf_cons pf_int (paf_cons (pf_v 8) (paf_cons (pf_v 3) paf_nil)))) (paf_cons (pf_tup (paf_cons pf_int (paf_cons (pf_v 8) (paf_cons (pf_v 8) paf_nil)))) paf_nil)))))) (psf_one (psf_for PassesOwn.never rfl (pif_seq (pf_op op_addA sem_add (pf_v 9) (pf_lst (paf_cons (pf_tup (paf_cons pf_int (paf_cons (pf_v 8) (paf_cons pf_int paf_nil)))) paf_nil)))) (pgf_tup rfl (pgsf_cons (pgf_name (i := 10) (by exact sc_law.nd)) (pgsf_cons (pgf_name (i := 11) (by exact sc_law.nd)) (pgsf_cons (pgf_name (i := 12) (by exact sc_law.nd)) pgsf_nil)))) (psf_one (psf_if (PWF.pt (pwf_or (ptf_not (ptf_tru (pf_call (ok_l_alone C) (hr.mono (by decide)) (by rfl) C.g_l_alone C.F_l_alone.kp C.b_l_alone (paf_cons (pf_call (ok_l_caught C) (hr.mono (by decide)) (by rfl) C.g_l_caught C.F_l_caught.kp C.b_l_caught (paf_cons (pf_v 4) (paf_cons (pf_v 10) (paf_cons (pf_v 11) (paf_cons (pf_v 12) paf_nil))))) paf_nil)))) (pwf_or1 (ptf_cmp (op_neU hu) sem_ne (pf_meth0 C.T_SumTree C.me_SumTree_row_now (ok_SumTree_row_now C) (hr.mono (by decide)) C.b_SumTree_row_now (pf_v 4)) (pf_v 6) (nomark _))))) (psf_one (psf_ret pf_bl)) psf_nil))))))) (psf_cons (psf_for PassesOwn.never rfl (pif_seq (pf_lst (by refine paf_cons (pf_tup (paf_cons pf_int (paf_cons pf_int (paf_cons pf_int paf_nil)))) ?_; refine paf_cons (pf_tup (paf_cons pf_int (paf_cons pf_int (paf_cons pf_int paf_nil)))) ?_; refine paf_cons (pf_tup (paf_cons pf_int (paf_cons pf_int (paf_cons (pf_v 3) paf_nil)))) ?_; refine paf_cons (pf_tup (paf_cons pf_int (paf_cons pf_int (paf_cons pf_int paf_nil)))) ?_; refine paf_cons (pf_tup (paf_cons pf_int (paf_cons pf_int (paf_cons pf_int paf_nil)))) ?_; refine paf_cons (pf_tup (paf_cons pf_int (paf_cons (pf_v 3) (paf_cons pf_int paf_nil)))) ?_; refine paf_cons (pf_tup (paf_cons pf_int (paf_cons pf_int (paf_cons pf_int paf_nil)))) ?_; exact paf_nil))) (pgf_tup rfl (pgsf_cons (pgf_name (i := 10) (by exact sc_law.nd)) (pgsf_cons (pgf_name (i := 11) (by exact sc_law.nd)) (pgsf_cons (pgf_name (i := 12) (by exact sc_law.nd)) pgsf_nil)))) (psf_one (psf_if (PWF.pt (pwf_or (ptf_not (ptf_tru (pf_call (ok_l_alone C) (hr.mono (by decide)) (by rfl) C.g_l_alone C.F_l_alone.kp C.b_l_alone (paf_cons (pf_call (ok_l_caught C) (hr.mono (by decide)) (by rfl) C.g_l_caught C.F_l_caught.kp C.b_l_caught (paf_cons (pf_v 4) (paf_cons (pf_v 10) (paf_cons (pf_v 11) (paf_cons (pf_v 12) paf_nil))))) paf_nil)))) (pwf_or1 (ptf_cmp (op_neU hu) sem_ne (pf_meth0 C.T_SumTree C.me_SumTree_row_now (ok_SumTree_row_now C) (hr.mono (by decide)) C.b_SumTree_row_now (pf_v 4)) (pf_v 6) (nomark _))))) (psf_one (psf_ret pf_bl)) psf_nil))) (psf_cons (psf_if (PWF.pt (pwf_or (ptf_cmp (op_neU hu) sem_ne (pf_meth C.T_SumTree C.me_SumTree_sum_of_first (ok_SumTree_sum_of_first C) (hr.mono (by decide)) C.b_SumTree_sum_of_first (pf_v 4) (paf_cons pf_int paf_nil)) pf_int (nomark _)) (pwf_or1 (ptf_cmp (op_neU hu) sem_ne (pf_meth C.T_SumTree C.me_SumTree_sum_of_first (ok_SumTree_sum_of_first C) (hr.mono (by decide)) C.b_SumTree_sum_of_first (pf_v 4) (paf_cons (pf_v 3) paf_nil)) (pf_callB (call_sumA rfl) sem_sum (by rfl) C.n_sum PyProof.Rows.boot_sum (paf_cons (pf_v 6) paf_nil)) (nomark _))))) (psf_one (psf_ret pf_bl)) psf_nil) (psf_cons (psf_if (PWF.pt (pwf_or (ptf_cmp (op_neU hu) sem_ne (pf_meth C.T_SumTree C.me_SumTree_sum_from_to (ok_SumTree_sum_from_to C) (hr.mono (by decide)) C.b_SumTree_sum_from_to (pf_v 4) (paf_cons pf_int (paf_cons (pf_v 3) paf_nil))) (pf_callB (call_sumA rfl) sem_sum (by rfl) C.n_sum PyProof.Rows.boot_sum (paf_cons (pf_v 6) paf_nil)) (nomark _)) (pwf_or (ptf_cmp (op_neU hu) sem_ne (pf_meth C.T_SumTree C.me_SumTree_number_at (ok_SumTree_number_at C) (hr.mono (by decide)) C.b_SumTree_number_at (pf_v 4) (paf_cons pf_int paf_nil)) (pf_ix ix_seq sem_ix (pf_v 6) pf_int (fun _ _ => rfl)) (nomark _)) (pwf_or1 (ptf_cmp (op_neU hu) sem_ne (pf_meth C.T_SumTree C.me_SumTree_number_at (ok_SumTree_number_at C) (hr.mono (by decide)) C.b_SumTree_number_at (pf_v 4) (paf_cons (pf_v 3) paf_nil)) (pf_ix ix_seq sem_ix (pf_v 6) (pf_neg pf_int) (fun _ _ => rfl)) (nomark _)))))) (psf_one (psf_ret pf_bl)) psf_nil) (psf_one (psf_if (ptf_not (ptf_tru (pf_call (ok_l_put_right C) (hr.mono (by decide)) (by rfl) C.g_l_put_right C.F_l_put_right.kp C.b_l_put_right (paf_cons (pf_v 2) (paf_cons (pf_v 4) (paf_cons (pf_v 6) paf_nil)))))) (psf_one (psf_ret pf_bl)) psf_nil)))))))))))))
  exact (psf_one (psf_ret (pf_isx C.xt (by decide) C.xn_BelowError (pf_makeX C.xn_NoPlace C.xm_NoPlace (ok_NoPlace___init__ C) (hr.mono (by decide)) (by rfl) C.gc_NoPlace C.b_NoPlace___init__ (paf_cons pf_str paf_nil)) (by rfl) C.n_isinstance (by rfl) C.gc_BelowError)))
end
theorem all_mk {l : PySem.W.OpenLaw} {w : World} {K : PySem.W.Frag} {h : Heap} {mg : Str → Option Value} {fa : Addr} (X : K.In h) (G : h.Ns mainGlobals mg) (hfa : mg "law" = some (.ref fa))
    {od0 an0 : Option Addr} {sl0 : Array (Option Value)} {oc0 kV0 dc0 pm0 cd0 ct0 : Value} {f0 : Addr} {od1 an1 : Option Addr} {sl1 : Array (Option Value)} {oc1 kV1 dc1 pm1 cd1 ct1 : Value} {f1 : Addr} {od2 an2 : Option Addr} {sl2 : Array (Option Value)} {oc2 kV2 dc2 pm2 cd2 ct2 : Value} {f2 : Addr} {od3 an3 : Option Addr} {sl3 : Array (Option Value)} {oc3 kV3 dc3 pm3 cd3 ct3 : Value} {f3 : Addr} {od4 an4 : Option Addr} {sl4 : Array (Option Value)} {oc4 kV4 dc4 pm4 cd4 ct4 : Value} {f4 : Addr} {od5 an5 : Option Addr} {sl5 : Array (Option Value)} {oc5 kV5 dc5 pm5 cd5 ct5 : Value} {f5 : Addr} {od6 an6 : Option Addr} {sl6 : Array (Option Value)} {oc6 kV6 dc6 pm6 cd6 ct6 : Value} {f6 : Addr} {od7 an7 : Option Addr} {sl7 : Array (Option Value)} {oc7 kV7 dc7 pm7 cd7 ct7 : Value} {f7 : Addr} {od8 an8 : Option Addr} {sl8 : Array (Option Value)} {oc8 kV8 dc8 pm8 cd8 ct8 : Value} {f8 : Addr} {od9 an9 : Option Addr} {sl9 : Array (Option Value)} {oc9 kV9 dc9 pm9 cd9 ct9 : Value} {f9 : Addr} {od10 an10 : Option Addr} {sl10 : Array (Option Value)} {oc10 kV10 dc10 pm10 cd10 ct10 : Value} {f10 : Addr} {od11 an11 : Option Addr} {sl11 : Array (Option Value)} {oc11 kV11 dc11 pm11 cd11 ct11 : Value} {f11 : Addr} {od12 an12 : Option Addr} {sl12 : Array (Option Value)} {oc12 kV12 dc12 pm12 cd12 ct12 : Value} {f12 : Addr} {od13 an13 : Option Addr} {sl13 : Array (Option Value)} {oc13 kV13 dc13 pm13 cd13 ct13 : Value} {f13 : Addr} {od14 an14 : Option Addr} {sl14 : Array (Option Value)} {oc14 kV14 dc14 pm14 cd14 ct14 : Value} {f14 : Addr} {od15 an15 : Option Addr} {sl15 : Array (Option Value)} {oc15 kV15 dc15 pm15 cd15 ct15 : Value} {f15 : Addr} {od16 an16 : Option Addr} {sl16 : Array (Option Value)} {oc16 kV16 dc16 pm16 cd16 ct16 : Value} {f16 : Addr} {od17 an17 : Option Addr} {sl17 : Array (Option Value)} {oc17 kV17 dc17 pm17 cd17 ct17 : Value} {f17 : Addr} {od18 an18 : Option Addr} {sl18 : Array (Option Value)} {oc18 kV18 dc18 pm18 cd18 ct18 : Value} {f18 : Addr}
    {A_SumTree : Addr} (aC_SumTree : PySem.W.nsIn K mainGlobals "SumTree" = some (some (.ref A_SumTree))) (pg_SumTree : PySem.W.plainGet K A_SumTree Str.empty = true) (hd_SumTree : PySem.W.hasDictIn K A_SumTree = true) (po_SumTree : PySem.W.plainOver K A_SumTree = true) (sa_SumTree : PySem.W.findIn K (.ref A_SumTree) "__setattr__" = some (some (.builtin "object.__setattr__")))
    {A_BelowError : Addr} (xn_BelowError : PySem.W.nsIn K mainGlobals "BelowError" = some (some (.ref A_BelowError)))
    {A_NoAsk : Addr} (xn_NoAsk : PySem.W.nsIn K mainGlobals "NoAsk" = some (some (.ref A_NoAsk)))
    {A_NoCounts : Addr} (xn_NoCounts : PySem.W.nsIn K mainGlobals "NoCounts" = some (some (.ref A_NoCounts)))
    {A_NoName : Addr} (xn_NoName : PySem.W.nsIn K mainGlobals "NoName" = some (some (.ref A_NoName)))
    {A_NoPlace : Addr} (xn_NoPlace : PySem.W.nsIn K mainGlobals "NoPlace" = some (some (.ref A_NoPlace)))
    {A_NoPoints : Addr} (xn_NoPoints : PySem.W.nsIn K mainGlobals "NoPoints" = some (some (.ref A_NoPoints)))
    (ex_NoPlace : excI K A_NoPlace = true) (kc_NoPlace : PySem.W.keepIn K (.ref A_NoPlace) = true)
    (bs_BelowError : PySem.W.specialIn K (.ref A_BelowError) "__getattribute__" = some (some (.builtin "type.__getattribute__"))) (br_BelowError : PySem.W.readsIn K A_BelowError (.type "type") = true) (bf_BelowError : bInit K A_BelowError = true)
    (xt : xTab K ["NoPlace", "NoAsk", "NoPoints", "NoCounts", "NoName"] ["BelowError", "NoPlace", "NoAsk", "NoPoints", "NoCounts", "NoName", "ValueError"] = true)
    (xv : PySem.W.nsIn K mainGlobals "ValueError" = some none)
    (mk_SumTree : PySem.W.makesIn K A_SumTree = true) (kc_SumTree : PySem.W.keepIn K (.ref A_SumTree) = true)
    (nf_SumTree_cells : PySem.W.findIn K (.ref A_SumTree) "cells" = some none)
    (nf_SumTree_many : PySem.W.findIn K (.ref A_SumTree) "many" = some none)
    (a0 : PySem.W.findIn K (.ref A_NoPlace) "__init__" = some (some (.ref f0))) (i0 : PySem.W.isFn K (.ref f0) = true) (l0 : K.lookup f0 = some ⟨oc0, od0, .func (PySem.W.fnOf "__init__" "NoPlace.__init__" (defArgs s_NoPlace___init__) (defBody s_NoPlace___init__) (defScope s_NoPlace___init__) .none kV0 dc0 pm0 an0 cd0 ct0), sl0⟩) (c0 : PySem.W.codeIn K cd0 "NoPlace.__init__" = true) (k0 : PySem.W.keepIn K (.ref f0) = true)
    (a1 : PySem.W.findIn K (.ref A_SumTree) "__init__" = some (some (.ref f1))) (i1 : PySem.W.isFn K (.ref f1) = true) (l1 : K.lookup f1 = some ⟨oc1, od1, .func (PySem.W.fnOf "__init__" "SumTree.__init__" (defArgs s_SumTree___init__) (defBody s_SumTree___init__) (defScope s_SumTree___init__) .none kV1 dc1 pm1 an1 cd1 ct1), sl1⟩) (c1 : PySem.W.codeIn K cd1 "SumTree.__init__" = true) (k1 : PySem.W.keepIn K (.ref f1) = true)
    (a2 : PySem.W.findIn K (.ref A_SumTree) "need_place" = some (some (.ref f2))) (i2 : PySem.W.isFn K (.ref f2) = true) (l2 : K.lookup f2 = some ⟨oc2, od2, .func (PySem.W.fnOf "need_place" "SumTree.need_place" (defArgs s_SumTree_need_place) (defBody s_SumTree_need_place) (defScope s_SumTree_need_place) .none kV2 dc2 pm2 an2 cd2 ct2), sl2⟩) (c2 : PySem.W.codeIn K cd2 "SumTree.need_place" = true) (k2 : PySem.W.keepIn K (.ref f2) = true)
    (a3 : PySem.W.nsIn K mainGlobals "lowest_bit" = some (some (.ref f3))) (l3 : K.lookup f3 = some ⟨oc3, od3, .func (PySem.W.fnOf "lowest_bit" "lowest_bit" (defArgs s_lowest_bit) (defBody s_lowest_bit) (defScope s_lowest_bit) .none kV3 dc3 pm3 an3 cd3 ct3), sl3⟩) (c3 : PySem.W.codeIn K cd3 "lowest_bit" = true) (k3 : PySem.W.keepIn K (.ref f3) = true)
    (a4 : PySem.W.findIn K (.ref A_SumTree) "sum_of_first" = some (some (.ref f4))) (i4 : PySem.W.isFn K (.ref f4) = true) (l4 : K.lookup f4 = some ⟨oc4, od4, .func (PySem.W.fnOf "sum_of_first" "SumTree.sum_of_first" (defArgs s_SumTree_sum_of_first) (defBody s_SumTree_sum_of_first) (defScope s_SumTree_sum_of_first) .none kV4 dc4 pm4 an4 cd4 ct4), sl4⟩) (c4 : PySem.W.codeIn K cd4 "SumTree.sum_of_first" = true) (k4 : PySem.W.keepIn K (.ref f4) = true)
    (a5 : PySem.W.findIn K (.ref A_SumTree) "sum_from_to" = some (some (.ref f5))) (i5 : PySem.W.isFn K (.ref f5) = true) (l5 : K.lookup f5 = some ⟨oc5, od5, .func (PySem.W.fnOf "sum_from_to" "SumTree.sum_from_to" (defArgs s_SumTree_sum_from_to) (defBody s_SumTree_sum_from_to) (defScope s_SumTree_sum_from_to) .none kV5 dc5 pm5 an5 cd5 ct5), sl5⟩) (c5 : PySem.W.codeIn K cd5 "SumTree.sum_from_to" = true) (k5 : PySem.W.keepIn K (.ref f5) = true)
    (a6 : PySem.W.findIn K (.ref A_SumTree) "number_at" = some (some (.ref f6))) (i6 : PySem.W.isFn K (.ref f6) = true) (l6 : K.lookup f6 = some ⟨oc6, od6, .func (PySem.W.fnOf "number_at" "SumTree.number_at" (defArgs s_SumTree_number_at) (defBody s_SumTree_number_at) (defScope s_SumTree_number_at) .none kV6 dc6 pm6 an6 cd6 ct6), sl6⟩) (c6 : PySem.W.codeIn K cd6 "SumTree.number_at" = true) (k6 : PySem.W.keepIn K (.ref f6) = true)
    (a7 : PySem.W.findIn K (.ref A_SumTree) "put_to" = some (some (.ref f7))) (i7 : PySem.W.isFn K (.ref f7) = true) (l7 : K.lookup f7 = some ⟨oc7, od7, .func (PySem.W.fnOf "put_to" "SumTree.put_to" (defArgs s_SumTree_put_to) (defBody s_SumTree_put_to) (defScope s_SumTree_put_to) .none kV7 dc7 pm7 an7 cd7 ct7), sl7⟩) (c7 : PySem.W.codeIn K cd7 "SumTree.put_to" = true) (k7 : PySem.W.keepIn K (.ref f7) = true)
    (a8 : PySem.W.findIn K (.ref A_SumTree) "row_now" = some (some (.ref f8))) (i8 : PySem.W.isFn K (.ref f8) = true) (l8 : K.lookup f8 = some ⟨oc8, od8, .func (PySem.W.fnOf "row_now" "SumTree.row_now" (defArgs s_SumTree_row_now) (defBody s_SumTree_row_now) (defScope s_SumTree_row_now) .none kV8 dc8 pm8 an8 cd8 ct8), sl8⟩) (c8 : PySem.W.codeIn K cd8 "SumTree.row_now" = true) (k8 : PySem.W.keepIn K (.ref f8) = true)
    (a9 : PySem.W.nsIn K mainGlobals "_law_alone" = some (some (.ref f9))) (l9 : K.lookup f9 = some ⟨oc9, od9, .func (PySem.W.fnOf "_law_alone" "_law_alone" (defArgs s_l_alone) (defBody s_l_alone) (defScope s_l_alone) .none kV9 dc9 pm9 an9 cd9 ct9), sl9⟩) (c9 : PySem.W.codeIn K cd9 "_law_alone" = true) (k9 : PySem.W.keepIn K (.ref f9) = true)
    (a10 : PySem.W.nsIn K mainGlobals "_law_caught" = some (some (.ref f10))) (l10 : K.lookup f10 = some ⟨oc10, od10, .func (PySem.W.fnOf "_law_caught" "_law_caught" (defArgs s_l_caught) (defBody s_l_caught) (defScope s_l_caught) .none kV10 dc10 pm10 an10 cd10 ct10), sl10⟩) (c10 : PySem.W.codeIn K cd10 "_law_caught" = true) (k10 : PySem.W.keepIn K (.ref f10) = true)
    (a11 : PySem.W.nsIn K mainGlobals "_law_draw" = some (some (.ref f11))) (l11 : K.lookup f11 = some ⟨oc11, od11, .func (PySem.W.fnOf "_law_draw" "_law_draw" (defArgs s_l_draw) (defBody s_l_draw) (defScope s_l_draw) .none kV11 dc11 pm11 an11 cd11 ct11), sl11⟩) (c11 : PySem.W.codeIn K cd11 "_law_draw" = true) (k11 : PySem.W.keepIn K (.ref f11) = true)
    (a12 : PySem.W.nsIn K mainGlobals "_law_folded" = some (some (.ref f12))) (l12 : K.lookup f12 = some ⟨oc12, od12, .func (PySem.W.fnOf "_law_folded" "_law_folded" (defArgs s_l_folded) (defBody s_l_folded) (defScope s_l_folded) .none kV12 dc12 pm12 an12 cd12 ct12), sl12⟩) (c12 : PySem.W.codeIn K cd12 "_law_folded" = true) (k12 : PySem.W.keepIn K (.ref f12) = true)
    (a13 : PySem.W.nsIn K mainGlobals "_law_many" = some (some (.ref f13))) (l13 : K.lookup f13 = some ⟨oc13, od13, .func (PySem.W.fnOf "_law_many" "_law_many" (defArgs s_l_many) (defBody s_l_many) (defScope s_l_many) .none kV13 dc13 pm13 an13 cd13 ct13), sl13⟩) (c13 : PySem.W.codeIn K cd13 "_law_many" = true) (k13 : PySem.W.keepIn K (.ref f13) = true)
    (a14 : PySem.W.nsIn K mainGlobals "_law_number" = some (some (.ref f14))) (l14 : K.lookup f14 = some ⟨oc14, od14, .func (PySem.W.fnOf "_law_number" "_law_number" (defArgs s_l_number) (defBody s_l_number) (defScope s_l_number) .none kV14 dc14 pm14 an14 cd14 ct14), sl14⟩) (c14 : PySem.W.codeIn K cd14 "_law_number" = true) (k14 : PySem.W.keepIn K (.ref f14) = true)
    (a15 : PySem.W.findIn K (.ref A_SumTree) "cells_now" = some (some (.ref f15))) (i15 : PySem.W.isFn K (.ref f15) = true) (l15 : K.lookup f15 = some ⟨oc15, od15, .func (PySem.W.fnOf "cells_now" "SumTree.cells_now" (defArgs s_SumTree_cells_now) (defBody s_SumTree_cells_now) (defScope s_SumTree_cells_now) .none kV15 dc15 pm15 an15 cd15 ct15), sl15⟩) (c15 : PySem.W.codeIn K cd15 "SumTree.cells_now" = true) (k15 : PySem.W.keepIn K (.ref f15) = true)
    (a16 : PySem.W.nsIn K mainGlobals "_law_put_right" = some (some (.ref f16))) (l16 : K.lookup f16 = some ⟨oc16, od16, .func (PySem.W.fnOf "_law_put_right" "_law_put_right" (defArgs s_l_put_right) (defBody s_l_put_right) (defScope s_l_put_right) .none kV16 dc16 pm16 an16 cd16 ct16), sl16⟩) (c16 : PySem.W.codeIn K cd16 "_law_put_right" = true) (k16 : PySem.W.keepIn K (.ref f16) = true)
    (a17 : PySem.W.nsIn K mainGlobals "_law_seed" = some (some (.ref f17))) (l17 : K.lookup f17 = some ⟨oc17, od17, .func (PySem.W.fnOf "_law_seed" "_law_seed" (defArgs s_l_seed) (defBody s_l_seed) (defScope s_l_seed) .none kV17 dc17 pm17 an17 cd17 ct17), sl17⟩) (c17 : PySem.W.codeIn K cd17 "_law_seed" = true) (k17 : PySem.W.keepIn K (.ref f17) = true)
    (a18 : PySem.W.nsIn K mainGlobals "law" = some (some (.ref f18))) (l18 : K.lookup f18 = some ⟨oc18, od18, .func (PySem.W.fnOf "law" "law" (defArgs s_law) (defBody s_law) (defScope s_law) .none kV18 dc18 pm18 an18 cd18 ct18), sl18⟩) (c18 : PySem.W.codeIn K cd18 "law" = true) (k18 : PySem.W.keepIn K (.ref f18) = true)
    (z_ValueError : PySem.W.nsIn K mainGlobals "ValueError" = some none)
    (z_int : PySem.W.nsIn K mainGlobals "int" = some none)
    (z_isinstance : PySem.W.nsIn K mainGlobals "isinstance" = some none)
    (z_len : PySem.W.nsIn K mainGlobals "len" = some none)
    (z_max : PySem.W.nsIn K mainGlobals "max" = some none)
    (z_min : PySem.W.nsIn K mainGlobals "min" = some none)
    (z_range : PySem.W.nsIn K mainGlobals "range" = some none)
    (z_sum : PySem.W.nsIn K mainGlobals "sum" = some none)
    (z_tuple : PySem.W.nsIn K mainGlobals "tuple" = some none) :
    ∃ fd : FuncData, (∀ (s : Shared) (v : Value), BindsTo s fd ⟨[v], []⟩ [("script", v)]) ∧ ∀ base : Heap, K.In base → base.Ns mainGlobals mg → FnOk l.prog w K mg base CX0 7 fa fd ["script"] (spF K 1 m_law) := by
  have e := hfa.symm.trans (PySem.W.mg_of X G a18)
  cases e
  have F0 := fun_mk (st := s_NoPlace___init__) l0 c0 k0
  have b0 := F0.binds (ps := ["self", "text"]) fun _ _ _ _ _ _ => all2 (fun _ _ => rfl)
  have F1 := fun_mk (st := s_SumTree___init__) l1 c1 k1
  have b1 := F1.binds (ps := ["self", "many"]) fun _ _ _ _ _ _ => all2 (fun _ _ => rfl)
  have F2 := fun_mk (st := s_SumTree_need_place) l2 c2 k2
  have b2 := F2.binds (ps := ["self", "place"]) fun _ _ _ _ _ _ => all2 (fun _ _ => rfl)
  have F3 := fun_mk (st := s_lowest_bit) l3 c3 k3
  have b3 := F3.binds (ps := ["number"]) fun _ _ _ _ _ _ => all1 (fun _ => rfl)
  have F4 := fun_mk (st := s_SumTree_sum_of_first) l4 c4 k4
  have b4 := F4.binds (ps := ["self", "many"]) fun _ _ _ _ _ _ => all2 (fun _ _ => rfl)
  have F5 := fun_mk (st := s_SumTree_sum_from_to) l5 c5 k5
  have b5 := F5.binds (ps := ["self", "first", "last"]) fun _ _ _ _ _ _ => all3 (fun _ _ _ => rfl)
  have F6 := fun_mk (st := s_SumTree_number_at) l6 c6 k6
  have b6 := F6.binds (ps := ["self", "place"]) fun _ _ _ _ _ _ => all2 (fun _ _ => rfl)
  have F7 := fun_mk (st := s_SumTree_put_to) l7 c7 k7
  have b7 := F7.binds (ps := ["self", "place", "number"]) fun _ _ _ _ _ _ => all3 (fun _ _ _ => rfl)
  have F8 := fun_mk (st := s_SumTree_row_now) l8 c8 k8
  have b8 := F8.binds (ps := ["self"]) fun _ _ _ _ _ _ => all1 (fun _ => rfl)
  have F9 := fun_mk (st := s_l_alone) l9 c9 k9
  have b9 := F9.binds (ps := ["caught"]) fun _ _ _ _ _ _ => all1 (fun _ => rfl)
  have F10 := fun_mk (st := s_l_caught) l10 c10 k10
  have b10 := F10.binds (ps := ["tree", "way", "one", "other"]) fun _ _ _ _ _ _ => all4 (fun _ _ _ _ => rfl)
  have F11 := fun_mk (st := s_l_draw) l11 c11 k11
  have b11 := F11.binds (ps := ["seed", "most"]) fun _ _ _ _ _ _ => all2 (fun _ _ => rfl)
  have F12 := fun_mk (st := s_l_folded) l12 c12 k12
  have b12 := F12.binds (ps := ["script"]) fun _ _ _ _ _ _ => all1 (fun _ => rfl)
  have F13 := fun_mk (st := s_l_many) l13 c13 k13
  have b13 := F13.binds (ps := ["seed"]) fun _ _ _ _ _ _ => all1 (fun _ => rfl)
  have F14 := fun_mk (st := s_l_number) l14 c14 k14
  have b14 := F14.binds (ps := ["seed", "way"]) fun _ _ _ _ _ _ => all2 (fun _ _ => rfl)
  have F15 := fun_mk (st := s_SumTree_cells_now) l15 c15 k15
  have b15 := F15.binds (ps := ["self"]) fun _ _ _ _ _ _ => all1 (fun _ => rfl)
  have F16 := fun_mk (st := s_l_put_right) l16 c16 k16
  have b16 := F16.binds (ps := ["seed", "tree", "row"]) fun _ _ _ _ _ _ => all3 (fun _ _ _ => rfl)
  have F17 := fun_mk (st := s_l_seed) l17 c17 k17
  have b17 := F17.binds (ps := ["cell"]) fun _ _ _ _ _ _ => all1 (fun _ => rfl)
  have F18 := fun_mk (st := s_law) l18 c18 k18
  have b18 := F18.binds (ps := ["script"]) fun _ _ _ _ _ _ => all1 (fun _ => rfl)
  let C : Defs K mg := { f_NoPlace___init__ := _, d_NoPlace___init__ := _, F_NoPlace___init__ := F0, b_NoPlace___init__ := b0, xm_NoPlace := ⟨ex_NoPlace, a0, i0, kc_NoPlace⟩, f_SumTree___init__ := _, d_SumTree___init__ := _, F_SumTree___init__ := F1, b_SumTree___init__ := b1, mk_SumTree := ⟨mk_SumTree, a1, i1, kc_SumTree⟩, gc_SumTree := PySem.W.mg_of X G aC_SumTree, f_SumTree_need_place := _, d_SumTree_need_place := _, F_SumTree_need_place := F2, b_SumTree_need_place := b2, me_SumTree_need_place := ⟨a2, i2, k2⟩, f_lowest_bit := _, d_lowest_bit := _, F_lowest_bit := F3, b_lowest_bit := b3, g_lowest_bit := PySem.W.mg_of X G a3, f_SumTree_sum_of_first := _, d_SumTree_sum_of_first := _, F_SumTree_sum_of_first := F4, b_SumTree_sum_of_first := b4, me_SumTree_sum_of_first := ⟨a4, i4, k4⟩, f_SumTree_sum_from_to := _, d_SumTree_sum_from_to := _, F_SumTree_sum_from_to := F5, b_SumTree_sum_from_to := b5, me_SumTree_sum_from_to := ⟨a5, i5, k5⟩, f_SumTree_number_at := _, d_SumTree_number_at := _, F_SumTree_number_at := F6, b_SumTree_number_at := b6, me_SumTree_number_at := ⟨a6, i6, k6⟩, f_SumTree_put_to := _, d_SumTree_put_to := _, F_SumTree_put_to := F7, b_SumTree_put_to := b7, me_SumTree_put_to := ⟨a7, i7, k7⟩, f_SumTree_row_now := _, d_SumTree_row_now := _, F_SumTree_row_now := F8, b_SumTree_row_now := b8, me_SumTree_row_now := ⟨a8, i8, k8⟩, f_l_alone := _, d_l_alone := _, F_l_alone := F9, b_l_alone := b9, g_l_alone := PySem.W.mg_of X G a9, f_l_caught := _, d_l_caught := _, F_l_caught := F10, b_l_caught := b10, g_l_caught := PySem.W.mg_of X G a10, f_l_draw := _, d_l_draw := _, F_l_draw := F11, b_l_draw := b11, g_l_draw := PySem.W.mg_of X G a11, f_l_folded := _, d_l_folded := _, F_l_folded := F12, b_l_folded := b12, g_l_folded := PySem.W.mg_of X G a12, f_l_many := _, d_l_many := _, F_l_many := F13, b_l_many := b13, g_l_many := PySem.W.mg_of X G a13, f_l_number := _, d_l_number := _, F_l_number := F14, b_l_number := b14, g_l_number := PySem.W.mg_of X G a14, f_SumTree_cells_now := _, d_SumTree_cells_now := _, F_SumTree_cells_now := F15, b_SumTree_cells_now := b15, me_SumTree_cells_now := ⟨a15, i15, k15⟩, f_l_put_right := _, d_l_put_right := _, F_l_put_right := F16, b_l_put_right := b16, g_l_put_right := PySem.W.mg_of X G a16, f_l_seed := _, d_l_seed := _, F_l_seed := F17, b_l_seed := b17, g_l_seed := PySem.W.mg_of X G a17, f_law := _, d_law := _, F_law := F18, b_law := b18, g_law := PySem.W.mg_of X G a18, A_SumTree := _, T_SumTree := ⟨aC_SumTree, ⟨pg_SumTree, hd_SumTree, po_SumTree, sa_SumTree⟩⟩, A_BelowError := _, xn_BelowError := xn_BelowError, gc_BelowError := PySem.W.mg_of X G xn_BelowError, A_NoAsk := _, xn_NoAsk := xn_NoAsk, gc_NoAsk := PySem.W.mg_of X G xn_NoAsk, A_NoCounts := _, xn_NoCounts := xn_NoCounts, gc_NoCounts := PySem.W.mg_of X G xn_NoCounts, A_NoName := _, xn_NoName := xn_NoName, gc_NoName := PySem.W.mg_of X G xn_NoName, A_NoPlace := _, xn_NoPlace := xn_NoPlace, gc_NoPlace := PySem.W.mg_of X G xn_NoPlace, A_NoPoints := _, xn_NoPoints := xn_NoPoints, gc_NoPoints := PySem.W.mg_of X G xn_NoPoints, bi_BelowError := ⟨bs_BelowError, br_BelowError, bf_BelowError⟩, xt := xt, xv := xv, nf_SumTree_cells := nf_SumTree_cells, nf_SumTree_many := nf_SumTree_many, n_ValueError := PySem.W.mg_none_of X G z_ValueError, n_int := PySem.W.mg_none_of X G z_int, n_isinstance := PySem.W.mg_none_of X G z_isinstance, n_len := PySem.W.mg_none_of X G z_len, n_max := PySem.W.mg_none_of X G z_max, n_min := PySem.W.mg_none_of X G z_min, n_range := PySem.W.mg_none_of X G z_range, n_sum := PySem.W.mg_none_of X G z_sum, n_tuple := PySem.W.mg_none_of X G z_tuple }
  refine ⟨PySem.W.fnOf "law" "law" (defArgs s_law) (defBody s_law) (defScope s_law) .none kV18 dc18 pm18 an18 cd18 ct18, fun s v => .of_eq rfl, fun base _ _ => ?_⟩
  exact ok_law C
theorem walk {l : PySem.W.OpenLaw} {q : Program} {loose : List Str} {XP : (Str → Option Value) → Heap → Prop} {YP : World → Heap → Prop} {d : DefRec} {K : Params → PySem.W.Frag} (hn : l.most = some 63) (hdf : d.params.defaults = [])
    (hY : ∀ (w : World) (h : Heap), YP w h → (K w.params).In h)
    (F : ∀ (w : World) (mg : Str → Option Value) (fa : Addr) (h : Heap), (K w.params).In h → h.Ns mainGlobals mg → mg d.name = some (.ref fa) →
      ∃ fd : FuncData, (∀ (s : Shared) (u : Value), BindsTo s fd ⟨[u], []⟩ [("script", u)]) ∧ ∀ base : Heap, (K w.params).In base → base.Ns mainGlobals mg → FnOk l.prog w (K w.params) mg base CX0 7 fa fd ["script"] (spF (K w.params) 1 m_law)) :
    PySem.W.WalkO q loose XP YP l.row.toRowW d [] (fun f vs => PySem.call f vs) :=
  L2.walk_of (n := 63) (k := 7) (x := "script") (CX := fun _ => CX0) (sp := fun w => spF (K w.params) 1 m_law) hn (by decide) hdf ⟨rfl, by decide, by decide⟩ hY F (fun w H a ns hl ho hS => law_sp ho hS (law_true ns hl)) fun _ _ _ _ _ z => z
end Lw
open PySem PySem.W PyProof.Rows
set_option maxRecDepth 100000 in
set_option maxHeartbeats 0 in
theorem PySem.Challenge.cw_belowpoints_k14_places_refused_holds : PySem.Challenge.rw_belowpoints_k14_places_refused.Holds := by
  w_on; o_law; k_head; (case hw => w_witness2)
  k_fill
  refine Lw.walk (l := PySem.Challenge.rw_belowpoints_k14_places_refused) rfl rfl (fun w h Y => PySem.W.kIn_of Y) ?F
  case F =>
    intro w mg fa h KX G hmg
    refine' Lw.all_mk KX G hmg ?aC_SumTree ?pg_SumTree ?hd_SumTree ?po_SumTree ?sa_SumTree ?xn_BelowError ?xn_NoAsk ?xn_NoCounts ?xn_NoName ?xn_NoPlace ?xn_NoPoints ?ex_NoPlace ?kc_NoPlace ?bs_BelowError ?br_BelowError ?bf_BelowError ?xt ?xv ?mk_SumTree ?kc_SumTree ?nf_SumTree_cells ?nf_SumTree_many ?a0 ?i0 ?l0 ?c0 ?k0 ?a1 ?i1 ?l1 ?c1 ?k1 ?a2 ?i2 ?l2 ?c2 ?k2 ?a3 ?l3 ?c3 ?k3 ?a4 ?i4 ?l4 ?c4 ?k4 ?a5 ?i5 ?l5 ?c5 ?k5 ?a6 ?i6 ?l6 ?c6 ?k6 ?a7 ?i7 ?l7 ?c7 ?k7 ?a8 ?i8 ?l8 ?c8 ?k8 ?a9 ?l9 ?c9 ?k9 ?a10 ?l10 ?c10 ?k10 ?a11 ?l11 ?c11 ?k11 ?a12 ?l12 ?c12 ?k12 ?a13 ?l13 ?c13 ?k13 ?a14 ?l14 ?c14 ?k14 ?a15 ?i15 ?l15 ?c15 ?k15 ?a16 ?l16 ?c16 ?k16 ?a17 ?l17 ?c17 ?k17 ?a18 ?l18 ?c18 ?k18 ?z_ValueError ?z_int ?z_isinstance ?z_len ?z_max ?z_min ?z_range ?z_sum ?z_tuple
    (case aC_SumTree => k_is)
    (case pg_SumTree => k_is)
    (case hd_SumTree => k_is)
    (case po_SumTree => k_is)
    (case sa_SumTree => k_is)
    (case xn_BelowError => k_is)
    (case xn_NoAsk => k_is)
    (case xn_NoCounts => k_is)
    (case xn_NoName => k_is)
    (case xn_NoPlace => k_is)
    (case xn_NoPoints => k_is)
    (case ex_NoPlace => kernel_rfl)
    (case kc_NoPlace => k_is)
    (case bs_BelowError => k_is)
    (case br_BelowError => k_is)
    (case bf_BelowError => kernel_rfl)
    (case xt => kernel_rfl)
    (case xv => k_is)
    (case mk_SumTree => k_is)
    (case kc_SumTree => k_is)
    (case nf_SumTree_cells => k_is)
    (case nf_SumTree_many => k_is)
    (case a0 => k_is); (case i0 => k_is)
    (case l0 => k_is); (case c0 => k_is); (case k0 => k_is)
    (case a1 => k_is); (case i1 => k_is)
    (case l1 => k_is); (case c1 => k_is); (case k1 => k_is)
    (case a2 => k_is); (case i2 => k_is)
    (case l2 => k_is); (case c2 => k_is); (case k2 => k_is)
    (case a3 => k_is); (case l3 => k_is); (case c3 => k_is); (case k3 => k_is)
    (case a4 => k_is); (case i4 => k_is)
    (case l4 => k_is); (case c4 => k_is); (case k4 => k_is)
    (case a5 => k_is); (case i5 => k_is)
    (case l5 => k_is); (case c5 => k_is); (case k5 => k_is)
    (case a6 => k_is); (case i6 => k_is)
    (case l6 => k_is); (case c6 => k_is); (case k6 => k_is)
    (case a7 => k_is); (case i7 => k_is)
    (case l7 => k_is); (case c7 => k_is); (case k7 => k_is)
    (case a8 => k_is); (case i8 => k_is)
    (case l8 => k_is); (case c8 => k_is); (case k8 => k_is)
    (case a9 => k_is); (case l9 => k_is); (case c9 => k_is); (case k9 => k_is)
    (case a10 => k_is); (case l10 => k_is); (case c10 => k_is); (case k10 => k_is)
    (case a11 => k_is); (case l11 => k_is); (case c11 => k_is); (case k11 => k_is)
    (case a12 => k_is); (case l12 => k_is); (case c12 => k_is); (case k12 => k_is)
    (case a13 => k_is); (case l13 => k_is); (case c13 => k_is); (case k13 => k_is)
    (case a14 => k_is); (case l14 => k_is); (case c14 => k_is); (case k14 => k_is)
    (case a15 => k_is); (case i15 => k_is)
    (case l15 => k_is); (case c15 => k_is); (case k15 => k_is)
    (case a16 => k_is); (case l16 => k_is); (case c16 => k_is); (case k16 => k_is)
    (case a17 => k_is); (case l17 => k_is); (case c17 => k_is); (case k17 => k_is)
    (case a18 => k_is); (case l18 => k_is); (case c18 => k_is); (case k18 => k_is)
    (case z_ValueError => k_is)
    (case z_int => k_is)
    (case z_isinstance => k_is)
    (case z_len => k_is)
    (case z_max => k_is)
    (case z_min => k_is)
    (case z_range => k_is)
    (case z_sum => k_is)
    (case z_tuple => k_is)

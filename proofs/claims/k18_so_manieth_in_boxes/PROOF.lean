import PyProof.Rows.All
import Wide.All
import OpenK.AllK
import Wide.FinOn
import Lean
import PyProof.EqAt
import PyProof.EqKinds
import PyProof.TupleCall
import KE.KTurnsDict
import KE.KPairComp
import KE.KIntText
import KE.KSortTup
import KE.KTryMore
import PyProof.ExcInit
import KE.KIsNot
import PySem.Challenge.RW_belowpoints_k18_so_manieth_in_boxes
set_option Elab.async false
set_option linter.all false
set_option maxRecDepth 100000
namespace L2
open PySem PySem.Spec PyProof.Rows
abbrev Key := Sum Int Str
def keyIs : Key → Value → Bool
  | .inl k, v => Value.isInt k v
  | .inr x, v => Value.isStrOf x v
def keyH (w : World) : Key → Int
  | .inl k => hashInt k
  | .inr x => hashStr w x
theorem keyIs_shape : ∀ {k : Key} {v : Value}, keyIs k v = true → (∃ i t, k = Sum.inl i ∧ v = Value.int i t) ∨ (∃ x t, k = Sum.inr x ∧ v = Value.str x t)
  | .inl i, v, h => by
    obtain ⟨t, e⟩ := Value.isInt_shape (k := i) (v := v) h
    exact .inl ⟨i, t, rfl, e⟩
  | .inr x, v, h => by
    obtain ⟨t, e⟩ := Value.isStrOf_shape (x := x) (v := v) h
    exact .inr ⟨x, t, rfl, e⟩
theorem key_ll (a b : Int) : decide ((Sum.inl a : Key) = Sum.inl b) = (a == b) := by
  by_cases e : a = b
  · subst e; simp
  · have h : ¬ (Sum.inl a : Key) = Sum.inl b := fun q => e (Sum.inl.inj q)
    rw [decide_eq_false h]
    exact (beq_eq_false_iff_ne.mpr e).symm
theorem key_rr (a b : Str) : decide ((Sum.inr a : Key) = Sum.inr b) = decide (a = b) := by
  by_cases e : a = b
  · subst e; simp
  · have h : ¬ (Sum.inr a : Key) = Sum.inr b := fun q => e (Sum.inr.inj q)
    rw [decide_eq_false h, decide_eq_false e]
theorem key_lr (a : Int) (b : Str) : decide ((Sum.inl a : Key) = Sum.inr b) = false := decide_eq_false (fun q => nomatch q)
theorem key_rl (a : Str) (b : Int) : decide ((Sum.inr a : Key) = Sum.inl b) = false := decide_eq_false (fun q => nomatch q)
def mixKind (prog : Program) (w : World) : PySem.KeyKind prog w Key where
  is := keyIs
  hash := keyH w
  inj := fun v a b ha hb => by
    rcases keyIs_shape ha with ⟨i, t, rfl, rfl⟩ | ⟨x, t, rfl, rfl⟩
    · rcases keyIs_shape hb with ⟨j, u, rfl, e⟩ | ⟨y, u, rfl, e⟩
      · injection e with e1 _; rw [e1]
      · exact nomatch e
    · rcases keyIs_shape hb with ⟨j, u, rfl, e⟩ | ⟨y, u, rfl, e⟩
      · exact nomatch e
      · injection e with e1 _; rw [e1]
  byValue := fun k v h => by
    rcases keyIs_shape h with ⟨i, t, rfl, rfl⟩ | ⟨x, t, rfl, rfl⟩ <;> rfl
  pyHash := fun hv h => by
    rcases keyIs_shape hv with ⟨i, t, rfl, rfl⟩ | ⟨x, t, rfl, rfl⟩
    · exact wpAny_pyHash_int h
    · exact wpAny_pyHash_str h
  eqBool := fun hu hv h => by
    rcases keyIs_shape hu with ⟨i, t, rfl, rfl⟩ | ⟨x, t, rfl, rfl⟩
    · rcases keyIs_shape hv with ⟨j, u, rfl, rfl⟩ | ⟨y, u, rfl, rfl⟩
      · rw [key_ll] at h; exact wpAny_eqBool_int h
      · rw [key_lr] at h; exact SeqAt.EqAt.int_str i t y u _ _ _ _ h
    · rcases keyIs_shape hv with ⟨j, u, rfl, rfl⟩ | ⟨y, u, rfl, rfl⟩
      · rw [key_rl] at h; exact SeqAt.EqAt.str_int x t j u _ _ _ _ h
      · rw [key_rr] at h; exact wpAny_eqBool_str h
  «strs» := fun k x t v h => by
    rcases keyIs_shape h with ⟨i, u, rfl, e⟩ | ⟨y, u, rfl, e⟩
    · exact nomatch e
    · injection e with e1 _
      subst e1
      cases v <;> rfl
end L2
namespace L2
open PySem PySem.Spec PyProof.Rows
inductive V where
  | non | bl (b : Bool) | int (i : Int) | str (x : Str) | byt (b : Array UInt8) | flt (b : UInt64) | ref (a : Addr) | ty (n : String)
  deriving DecidableEq
def RelV : V → Value → Prop
  | .non, u => u = Value.none
  | .bl b, u => u = Value.bool b
  | .int i, u => ∃ t, u = Value.int i t
  | .str x, u => ∃ t, u = Value.str x t
  | .byt b, u => ∃ t, u = Value.bytes b t
  | .flt b, u => ∃ t, u = Value.float b t
  | .ref a, u => u = Value.ref a
  | .ty n, u => u = Value.type n
abbrev Vals : List V → List Value → Prop := Paired RelV
theorem Vals.length {xs : List V} {us : List Value} (r : Vals xs us) : xs.length = us.length := Paired.length r
theorem Vals.get : ∀ {xs : List V} {us : List Value} {i : Nat} {x : V}, Vals xs us → xs[i]? = some x → ∃ u, us[i]? = some u ∧ RelV x u
  | _, _, _, _, .nil, e => by simp at e
  | _, _, 0, _, .cons r _, e => by simp at e; subst e; exact ⟨_, rfl, r⟩
  | _, _, i + 1, x, .cons _ t, e => by
    obtain ⟨u, h1, h2⟩ := Vals.get (i := i) (x := x) t (by simpa using e)
    exact ⟨u, by simpa using h1, h2⟩
theorem Vals.set {x : V} {u : Value} (r : RelV x u) : ∀ {xs : List V} {us : List Value} (i : Nat), Vals xs us → Vals (xs.set i x) (us.set i u)
  | _, _, _, .nil => .nil
  | _, _, 0, .cons _ t => .cons r t
  | _, _, i + 1, .cons q t => .cons q (Vals.set r i t)
theorem Vals.append : ∀ {xs ys : List V} {us ws : List Value}, Vals xs us → Vals ys ws → Vals (xs ++ ys) (us ++ ws)
  | _, _, _, _, .nil, s => s
  | _, _, _, _, .cons r t, s => .cons r (Vals.append t s)
theorem Vals.take : ∀ {xs : List V} {us : List Value} (n : Nat), Vals xs us → Vals (xs.take n) (us.take n)
  | _, _, 0, _ => .nil
  | _, _, _ + 1, .nil => .nil
  | _, _, n + 1, .cons r t => .cons r (Vals.take n t)
theorem Vals.drop : ∀ {xs : List V} {us : List Value} (n : Nat), Vals xs us → Vals (xs.drop n) (us.drop n)
  | _, _, 0, r => r
  | _, _, _ + 1, .nil => .nil
  | _, _, n + 1, .cons _ t => Vals.drop n t
def RelO : Option V → Option Value → Prop
  | some v, some u => RelV v u
  | none, none => True
  | _, _ => False
def KV {κ : Type} : List (κ × V) → List (κ × Value) → Prop := Paired fun (p : κ × V) (q : κ × Value) => p.1 = q.1 ∧ RelV p.2 q.2
def kV : Key → V
  | .inl i => .int i
  | .inr x => .str x
inductive HO where
  | lst (xs : List V)
  | tup (xs : List V)
  | dK (kvs : List (Key × V)) | dT (kvs : List (List Key × V))
  | set (S : Int → Bool) (n : Nat)
  | ins (C dx : Addr) (fs : List (Str × V))
  | own (x : Addr)
  | xd (fs : List (Str × V))
  | met (f x : Addr)
  | rng (lo hi : Int)
  | frz (o : Obj) (u : HO)
  | tbl (ps : Array Value)
  | ext (φ : Heap → Prop)
abbrev Hp := Addr → Option HO
def upd (H : Hp) (a : Addr) (o : HO) : Hp := fun b => if b = a then some o else H b
theorem upd_same {H : Hp} {a : Addr} {o : HO} : upd H a o a = some o := by unfold upd; rw [if_pos rfl]
theorem upd_ne {H : Hp} {a b : Addr} {o : HO} (h : b ≠ a) : upd H a o b = H b := by unfold upd; rw [if_neg h]
theorem ne_of {H : Hp} {a b : Addr} {o u : HO} (h : H a = some o) (h' : H b = some u) (d : o ≠ u) : a ≠ b := by
  intro e; subst e; rw [h] at h'; exact d (Option.some.inj h')
theorem ne_of_none {H : Hp} {a b : Addr} {o : HO} (h : H a = some o) (h' : H b = none) : a ≠ b := by
  intro e; subst e; rw [h] at h'; cases h'
section
variable (P : Program) (w : World)
def ObjOk (H : Hp) (h : Heap) (a : Addr) : HO → Prop
  | .lst xs => xs.length ≤ sizeLine ∧ ∃ (its : List Value) (n : Nat), Vals xs its ∧ h.get? a = some { cls := .type "list", data := .seq its.toArray n }
  | .tup xs => xs.length ≤ sizeLine ∧ ∃ its : List Value, Vals xs its ∧ IsTup h a its.toArray
  | .dK kvs => kvs.length ≤ sizeLine ∧ (a == sysModules) = false ∧ ∃ vs, KV kvs vs ∧ h.DictOf (mixKind P w) a vs
  | .dT kvs => kvs.length ≤ sizeLine ∧ (a == sysModules) = false ∧ ∃ xs : List (List Key × Addr × Value),
      Paired (fun (p : List Key × V) (q : List Key × Addr × Value) => p.1 = q.1 ∧ H q.2.1 = some (.tup (p.1.map kV)) ∧ RelV p.2 q.2.2) kvs xs ∧
      ∃ o es ep, h.get? a = some o ∧ o.ExactDict ∧ o.data = .dict es ep ∧ es.toList = xs.map (entryOfKey (tupleKind (mixKind P w))) ∧ (xs.map (·.1)).Nodup
  | .set S n => h.SetOf (intKind P w) a S n
  | .ins C dx fs => H dx = some (.own a) ∧ fs.length ≤ 1000 ∧ dx ≠ a ∧ h.get? a = some (PySem.W.instObj C dx) ∧
      ∃ mA, h.Ns1 dx mA ∧ (∀ f, RelO (fs.lookup f) (mA f)) ∧ PySem.Within mA (fs.map (·.1))
  | .own _ => ∃ o, h.get? a = some o
  | .xd fs => ∃ mA, h.Ns1 a mA ∧ ∀ f, RelO (fs.lookup f) (mA f)
  | .rng lo hi => ∃ t u v, h.get? a = some { cls := .type "range", data := .fields #[.int lo t, .int hi u, .int 1 v] }
  | .frz o u => h.get? a = some o ∧ ObjOk H h a u
  | .tbl ps => h.get? a = some { cls := .none, data := .fields ps }
  | .met f x => h.get? a = some (PySem.W.methodObj (.ref f) (.ref x))
  | .ext φ => φ h ∧ (∃ o, h.get? a = some o) ∧ ∀ h1 h2 : Heap, φ h1 → (∀ o, h1.get? a = some o → h2.get? a = some o) → φ h2
def HOk (H : Hp) (h : Heap) : Prop := ∀ a o, H a = some o → ObjOk P w H h a o
end
section
variable {P : Program} {w : World} {H H' : Hp} {h h' : Heap} {a : Addr} {o : HO}
theorem ObjOk.lt (x : ObjOk P w H h a o) : a < h.objs.size := by
  cases o with
  | lst xs => obtain ⟨_, _, _, _, e⟩ := x; exact Heap.lt_size e
  | tup xs => obtain ⟨_, _, _, p⟩ := x; exact p.lt
  | dK kvs => obtain ⟨_, _, _, _, o, _, _, e, _⟩ := x; exact Heap.lt_size e
  | dT kvs => obtain ⟨_, _, _, _, o, _, _, e, _⟩ := x; exact Heap.lt_size e
  | set S n => obtain ⟨o, _, _, _, e, _⟩ := x; exact Heap.lt_size e
  | ins C dx fs => obtain ⟨_, _, _, e, _⟩ := x; exact Heap.lt_size e
  | own y => obtain ⟨_, e⟩ := x; exact Heap.lt_size e
  | xd fs => obtain ⟨_, ⟨_, _, _, e, _⟩, _⟩ := x; exact Heap.lt_size e
  | rng lo hi => obtain ⟨_, _, _, e⟩ := x; exact Heap.lt_size e
  | frz ob u => obtain ⟨e, _⟩ := x; exact Heap.lt_size e
  | tbl ps => exact Heap.lt_size (show h.get? a = some _ from x)
  | met f y => exact Heap.lt_size (show h.get? a = some _ from x)
  | ext φ => obtain ⟨_, ⟨_, e⟩, _⟩ := x; exact Heap.lt_size e
theorem Paired.mapP {α β : Type} {F G : α → β → Prop} : ∀ {l₁ : List α} {l₂ : List β}, Paired F l₁ l₂ → (∀ a b, F a b → G a b) → Paired G l₁ l₂
  | _, _, .nil, _ => .nil
  | _, _, .cons r t, f => .cons (f _ _ r) (Paired.mapP t f)
theorem ObjOk.stay (x : ObjOk P w H h a o) (k : ∀ b u, (b = a ∨ H b = some (.own a)) → h.get? b = some u → h'.get? b = some u)
    (ho : ∀ b, H b = some (.own a) → H' b = some (.own a)) (ht : ∀ b xs, H b = some (.tup xs) → H' b = some (.tup xs)) : ObjOk P w H' h' a o := by
  induction o with
  | lst xs => obtain ⟨z, its, n, r, e⟩ := x; exact ⟨z, its, n, r, k _ _ (.inl rfl) e⟩
  | tup xs => obtain ⟨z, its, r, ob, e, c⟩ := x; exact ⟨z, its, r, ob, k _ _ (.inl rfl) e, c⟩
  | dK kvs => obtain ⟨z, y, vs, r, ob, es, ep, e, c⟩ := x; exact ⟨z, y, vs, r, ob, es, ep, k _ _ (.inl rfl) e, c⟩
  | dT kvs =>
    obtain ⟨z, y, xs, r, ob, es, ep, e, c⟩ := x
    exact ⟨z, y, xs, Paired.mapP r fun p q z => ⟨z.1, ht _ _ z.2.1, z.2.2⟩, ob, es, ep, k _ _ (.inl rfl) e, c⟩
  | set S n => obtain ⟨ob, es, ep, t, e, c⟩ := x; exact ⟨ob, es, ep, t, k _ _ (.inl rfl) e, c⟩
  | ins C dx fs =>
    obtain ⟨d, z, ne, e, mA, ⟨od, es, ep, e2, c⟩, r⟩ := x
    exact ⟨ho _ d, z, ne, k _ _ (.inl rfl) e, mA, ⟨od, es, ep, k _ _ (.inr d) e2, c⟩, r⟩
  | own y => obtain ⟨ob, e⟩ := x; exact ⟨ob, k _ _ (.inl rfl) e⟩
  | xd fs => obtain ⟨mA, ⟨od, es, ep, e, c⟩, r⟩ := x; exact ⟨mA, ⟨od, es, ep, k _ _ (.inl rfl) e, c⟩, r⟩
  | rng lo hi => obtain ⟨t, u, v, e⟩ := x; exact ⟨t, u, v, k _ _ (.inl rfl) e⟩
  | frz ob u ih => obtain ⟨e, q⟩ := x; exact ⟨k _ _ (.inl rfl) e, ih q⟩
  | tbl ps =>
    have e : h.get? a = some { cls := .none, data := .fields ps } := x
    show h'.get? a = some { cls := .none, data := .fields ps }
    exact k a _ (.inl rfl) e
  | met f y =>
    have e : h.get? a = some (PySem.W.methodObj (.ref f) (.ref y)) := x
    show h'.get? a = some (PySem.W.methodObj (.ref f) (.ref y))
    exact k a _ (.inl rfl) e
  | ext φ => obtain ⟨p, ⟨o, e⟩, st⟩ := x; exact ⟨st _ _ p fun o q => k _ _ (.inl rfl) q, ⟨o, k _ _ (.inl rfl) e⟩, st⟩
theorem HOk.lt (x : HOk P w H h) (e : H a = some o) : a < h.objs.size := (x a o e).lt
theorem HOk.fresh (x : HOk P w H h) (e : h.objs.size ≤ a) : H a = none := by
  cases q : H a with
  | none => rfl
  | some u => exact absurd (Nat.lt_of_lt_of_le (x.lt q) e) (Nat.lt_irrefl _)
theorem HOk.kept (x : HOk P w H h) (k : ∀ b u, h.get? b = some u → h'.get? b = some u) : HOk P w H h' := fun a o e =>
  (x a o e).stay (fun b u _ q => k b u q) (fun _ q => q) fun _ _ q => q
theorem HOk.laid (x : HOk P w H h) (k : ∀ b u, h.get? b = some u → h'.get? b = some u) (hp : h.objs.size ≤ a) (new : ObjOk P w (upd H a o) h' a o) : HOk P w (upd H a o) h' := fun b u e => by
  have hn := x.fresh hp
  by_cases hb : b = a
  · subst hb; rw [upd_same] at e; cases e; exact new
  · rw [upd_ne hb] at e
    exact (x b u e).stay (fun c v _ q => k c v q) (fun c q => by rw [upd_ne (ne_of_none q hn)]; exact q) fun c xs q => by rw [upd_ne (ne_of_none q hn)]; exact q
end
def Rd (H : Hp) (a : Addr) (u : HO) : Prop := H a = some u ∨ ∃ o, H a = some (.frz o u)
theorem Rd.of {H : Hp} {a : Addr} {u : HO} (h : H a = some u) : Rd H a u := .inl h
theorem Rd.ok {P : Program} {w : World} {H : Hp} {h : Heap} {a : Addr} {u : HO} (r : Rd H a u) (x : HOk P w H h) : ObjOk P w H h a u := by
  rcases r with r | ⟨o, r⟩
  · exact x a u r
  · obtain ⟨_, q⟩ := x a _ r
    exact q
def Mut : Option HO → Prop
  | some (.lst _) => True
  | some (.dK _) => True
  | some (.dT _) => True
  | some (.set _ _) => True
  | some (.ins _ _ _) => True
  | some (.ext _) => True
  | _ => False
section
variable {P : Program} {w : World} {H : Hp} {h h' : Heap} {x e : Addr} {o' : HO}
theorem HOk.write (ok : HOk P w H h) (mu : Mut (H x)) (he : e = x ∨ H e = some (.own x)) (k : ∀ b u, b ≠ e → h.get? b = some u → h'.get? b = some u) (heo : ∃ u, h'.get? e = some u)
    (new : ObjOk P w (upd H x o') h' x o') : HOk P w (upd H x o') h' := fun b u q => by
  have nown : ∀ c y, H c = some (.own y) → c ≠ x := fun c y r z => by subst z; rw [r] at mu; exact mu
  have ntup : ∀ c xs, H c = some (.tup xs) → c ≠ x := fun c xs r z => by subst z; rw [r] at mu; exact mu
  by_cases hb : b = x
  · subst hb; rw [upd_same] at q; cases q; exact new
  · rw [upd_ne hb] at q
    by_cases hbe : b = e
    · have q' : H b = some (.own x) := by
        rcases he with z | z
        · exact absurd (hbe.trans z) hb
        · rw [hbe]; exact z
      rw [q] at q'; cases q'
      obtain ⟨v, hv⟩ := heo
      exact ⟨v, by rw [hbe]; exact hv⟩
    · refine (ok b u q).stay (fun c v hc r => k c v ?_ r) (fun c r => by rw [upd_ne (nown c b r)]; exact r) fun c xs r => by rw [upd_ne (ntup c xs r)]; exact r
      rcases hc with rfl | hc
      · exact hbe
      · rintro rfl
        rcases he with z | z
        · exact nown c b hc z
        · rw [hc] at z; cases z; exact hb rfl
end
structure Un (fs ex : List Addr) (H H' : Hp) (h h' : Heap) : Prop where
  keep : ∀ b o, h.get? b = some o → H b = none → b ∉ fs → b ∉ ex → h'.get? b = some o
  slot : ∀ b o, h.get? b = some o → H b = none → b ∈ fs → b ∉ ex → ∃ sl, h'.get? b = some { o with slots := sl }
  free : ∀ b o, h.get? b = some o → H b = none → b ∉ ex → H' b = none
  there : ∀ b o, h.get? b = some o → b ∉ ex → ∃ o', h'.get? b = some o'
  tups : ∀ b xs, H b = some (.tup xs) → H' b = some (.tup xs)
  frzs : ∀ b o u, H b = some (.frz o u) → H' b = some (.frz o u)
  tbls : ∀ b ps, H b = some (.tbl ps) → ∃ more, H' b = some (.tbl (ps ++ more))
section
variable {fs fs' ex ex' : List Addr} {H H1 H2 : Hp} {h h1 h2 h' : Heap} {a x e : Addr} {o : HO}
theorem Un.any (u : Un fs ex H H1 h h1) {b : Addr} {ob : Obj} (q : h.get? b = some ob) (n : H b = none) (hx : b ∉ ex) : ∃ sl, h1.get? b = some { ob with slots := sl } := by
  by_cases hb : b ∈ fs
  · exact u.slot b ob q n hb hx
  · exact ⟨ob.slots, u.keep b ob q n hb hx⟩
theorem Un.trans (a : Un fs ex H H1 h h1) (b : Un fs ex H1 H2 h1 h2) : Un fs ex H H2 h h2 where
  keep := fun c ob q n hc hx => b.keep c ob (a.keep c ob q n hc hx) (a.free c ob q n hx) hc hx
  slot := fun c ob q n hc hx => by
    obtain ⟨sl, e1⟩ := a.slot c ob q n hc hx
    obtain ⟨sl', e2⟩ := b.slot c _ e1 (a.free c ob q n hx) hc hx
    exact ⟨sl', e2⟩
  free := fun c ob q n hx => by
    obtain ⟨o', e1⟩ := a.there c ob q hx
    exact b.free c o' e1 (a.free c ob q n hx) hx
  there := fun c ob q hx => by
    obtain ⟨o', e1⟩ := a.there c ob q hx
    exact b.there c o' e1 hx
  tups := fun c xs q => b.tups c xs (a.tups c xs q)
  frzs := fun c ob xs q => b.frzs c ob xs (a.frzs c ob xs q)
  tbls := fun c ps q => by
    obtain ⟨m1, e1⟩ := a.tbls c ps q
    obtain ⟨m2, e2⟩ := b.tbls c _ e1
    exact ⟨m1 ++ m2, by rw [e2, Array.append_assoc]⟩
theorem Un.kept (k : ∀ b u, h.get? b = some u → h'.get? b = some u) : Un fs ex H H h h' :=
  ⟨fun b ob q _ _ _ => k b ob q, fun b ob q _ _ _ => ⟨ob.slots, k b ob q⟩, fun _ _ _ n _ => n, fun b ob q _ => ⟨ob, k b ob q⟩, fun _ _ q => q, fun _ _ _ q => q, fun _ ps q => ⟨#[], by rw [q]; simp⟩⟩
theorem Un.refl : Un fs ex H H h h := Un.kept fun _ _ q => q
theorem Un.laid (k : ∀ b u, h.get? b = some u → h'.get? b = some u) (hp : h.objs.size ≤ a) (hn : H a = none) : Un fs ex H (upd H a o) h h' where
  keep := fun b u q _ _ _ => k b u q
  slot := fun b u q _ _ _ => ⟨u.slots, k b u q⟩
  free := fun b u q n _ => by rw [upd_ne (Nat.ne_of_lt (Nat.lt_of_lt_of_le (Heap.lt_size q) hp))]; exact n
  there := fun b u q _ => ⟨u, k b u q⟩
  tups := fun b xs q => by rw [upd_ne (ne_of_none q hn)]; exact q
  frzs := fun b u xs q => by rw [upd_ne (ne_of_none q hn)]; exact q
  tbls := fun b ps q => ⟨#[], by rw [upd_ne (ne_of_none q hn), q]; simp⟩
theorem Un.write (mu : Mut (H x)) (he : e = x ∨ H e = some (.own x)) (k : ∀ b u, b ≠ e → h.get? b = some u → h'.get? b = some u) (heo : ∃ u, h'.get? e = some u) : Un fs ex H (upd H x o) h h' := by
  have hx : ∀ b, H b = none → b ≠ x := fun b n z => by subst z; rw [n] at mu; exact mu
  have hb : ∀ b, H b = none → b ≠ e := fun b n z => by
    subst z
    rcases he with r | r
    · exact hx b n r
    · rw [n] at r; cases r
  have hm : ∀ b u, H b = some u → ¬ Mut (some u) → b ≠ x := fun b u q nm z => by subst z; rw [q] at mu; exact nm mu
  refine ⟨fun b u q n _ _ => k b u (hb b n) q, fun b u q n _ _ => ⟨u.slots, k b u (hb b n) q⟩, fun b u q n _ => by rw [upd_ne (hx b n)]; exact n, fun b u q _ => ?_,
    fun b xs q => by rw [upd_ne (hm b _ q fun z => z)]; exact q, fun b u xs q => by rw [upd_ne (hm b _ q fun z => z)]; exact q, fun b ps q => ⟨#[], by rw [upd_ne (hm b _ q fun z => z), q]; simp⟩⟩
  by_cases hbe : b = e
  · subst hbe; exact heo
  · exact ⟨u, k b u hbe q⟩
theorem Un.mono (u : Un fs ex H H1 h h1) (hs : ∀ b ∈ fs, b ∈ fs') (hx : ∀ b ∈ ex, b ∈ ex') : Un fs' ex' H H1 h h1 :=
  ⟨fun b ob q n hb he => u.keep b ob q n (fun z => hb (hs b z)) fun z => he (hx b z), fun _ _ q n _ he => u.any q n fun z => he (hx _ z), fun b ob q n he => u.free b ob q n fun z => he (hx b z), fun b ob q he => u.there b ob q fun z => he (hx b z), u.tups, u.frzs, u.tbls⟩
end
def trk (h : Heap) (H : Hp) : List Addr := (List.range h.objs.size).filter fun a => (H a).isSome
def hidT (h : Heap) (H : Hp) : Heap := PySem.W.hideAll h (trk h H)
theorem hidT_size (h : Heap) (H : Hp) : (hidT h H).objs.size = h.objs.size := PySem.W.hideAll_size _ _
theorem hidT_get {h : Heap} {H : Hp} {b : Addr} {o : Obj} (e : h.get? b = some o) (n : H b = none) : (hidT h H).get? b = some o :=
  PySem.W.hideAll_get _ e fun hm => by
    have q : (H b).isSome = true := (List.mem_filter.mp hm).2
    rw [n] at q; simp at q
theorem of_hidT {h : Heap} {H : Hp} {b : Addr} {o : Obj} (e : (hidT h H).get? b = some o) : h.get? b = some o ∧ H b = none := by
  have e' : h.get? b = some o := PySem.W.of_hideAll (trk h H) e
  refine ⟨e', ?_⟩
  cases q : H b with
  | none => rfl
  | some x =>
    have hm : b ∈ trk h H := List.mem_filter.mpr ⟨List.mem_range.mpr (Heap.lt_size e'), by simp [q]⟩
    have z : (hidT h H).get? b = none := PySem.W.hideAll_none (trk h H) hm
    rw [z] at e; cases e
def allNews (g h : Heap) (L : Addr) : List (Addr × Obj) := (List.range h.objs.size).filterMap fun a => if a = L ∨ (g.get? a).isSome = true then none else (h.get? a).map fun o => (a, o)
def rest (g h : Heap) (L d : Addr) : List (Addr × Obj) := (allNews g h L).filter fun p => decide (p.1 ≠ d)
end L2
namespace L2
open PySem PySem.Spec PyProof.Rows
structure Mod (K : PySem.W.Frag) (mg : Str → Option Value) (base : Heap) : Prop where
  kin : K.In base
  glob : base.Ns mainGlobals mg
  blt : ∃ mb, base.Ns builtinsNs mb ∧ ∀ x : Str, x ≠ "__name__" → mb x = bootBuiltins x
  nolimit : base.NoLimit
structure Cx where
  prog : Program
  w : World
  K : PySem.W.Frag
  mg : Str → Option Value
  base : Heap
  A : Around
  N : List Str
  s₀ : Shared
  H₀ : Hp
  env : Env
  outer : List Env
  stack : List Env
  ex : List Addr
  fn : Str → Bool
  calm : Bool
  pn : List (Addr × Obj)
  xe : Value → Shared → Prop
def frs (l : List Env) : List Addr := l.filterMap (·.frame)
abbrev Cx.fs (X : Cx) : List Addr := frs X.outer
def Vis (sc : Scope) (x : Str) : Prop := sc.names.lookup x = some .local ∨ sc.names.lookup x = some .cell ∨ sc.names.lookup x = some .free
def Loc (sc : Scope) (x : Str) : Prop := sc.names.lookup x = some .local ∨ sc.names.lookup x = some .cell
def Look (env : Env) (h : Heap) (m : Str → Option Value) (x : Str) (u : Value) : Prop :=
  (env.kindOf x = some .local ∧ m x = some u) ∨ ((env.kindOf x = some .cell ∨ env.kindOf x = some .free) ∧ ∃ c, env.cells.lookup x = some c ∧ h.IsCell c (some u))
structure Cx.Ok (X : Cx) : Prop where
  mod : Mod X.K X.mg X.base
  kind : X.env.scope.kind = .function
  glob : X.env.globals = mainGlobals
  blt : X.env.builtins = builtinsNs
  above : X.s₀.heap.objs.size ≤ X.env.locals
  inj : ∀ x y c, X.env.cells.lookup x = some c → X.env.cells.lookup y = some c → x = y
  has : ∀ x, (X.env.kindOf x = some .cell ∨ X.env.kindOf x = some .free) → ∃ c, X.env.cells.lookup x = some c
  cab : ∀ x c, X.fn x = true → X.env.cells.lookup x = some c → X.s₀.heap.objs.size ≤ c
  hd : X.calm = true → X.A.handled = none
  frames : X.A.frames = some X.stack
  stk : X.stack = X.outer ∨ (X.stack = X.env :: X.outer ∧ X.env.frame = some X.env.locals)
  exf : ∀ b ∈ X.ex, b ≠ X.env.locals ∧ ∀ x c, X.env.cells.lookup x = some c → c ≠ b
  bs : ∀ b o, X.base.get? b = some o → X.s₀.heap.get? b = some o ∧ X.H₀ b = none
  bsz : X.base.objs.size ≤ X.s₀.heap.objs.size
  noex : ∀ b o, X.base.get? b = some o → b ∉ X.ex
  exfs : ∀ b ∈ X.ex, b ∉ X.fs
  funs : X.s₀.heap.FunFrames X.base X.outer
  frf : ∀ b ∈ X.fs, X.H₀ b = none
structure Inv (X : Cx) (pins : List (Addr × Obj)) (σ : List (Option V)) (H : Hp) (s : Shared) : Prop where
  ok : X.Ok
  os : s.os = X.s₀.os
  bare : AllBare s.gens
  base : Un X.fs X.ex X.H₀ H X.s₀.heap s.heap
  loc : ∃ m, s.heap.Ns X.env.locals m ∧ ∀ (i : Nat) (x : Str) (v : V), X.N[i]? = some x → σ[i]? = some (some v) → Vis X.env.scope x → ∃ u, RelV v u ∧ Look X.env s.heap m x u
  cell : ∀ x c, X.env.cells.lookup x = some c → ∃ v, s.heap.IsCell c v
  free : H X.env.locals = none
  freeC : ∀ x c, X.env.cells.lookup x = some c → H c = none
  pin : ∀ p ∈ X.pn ++ pins, s.heap.get? p.1 = some p.2 ∧ H p.1 = none ∧ p.1 ≠ X.env.locals ∧ p.1 ∉ X.fs ∧ ∀ v, p.2.data ≠ .cell v
  hok : HOk X.prog X.w H s.heap
  len : σ.length = X.N.length
section
variable {X : Cx} {pins : List (Addr × Obj)} {σ : List (Option V)} {H H' : Hp} {s : Shared} {h' : Heap}
theorem Cx.Ok.nofr (ok : X.Ok) {b : Addr} {o : Obj} (e : X.base.get? b = some o) : b ∉ X.fs := fun hb => by
  have := (ok.funs.mem hb).1
  rw [e] at this; cases this
theorem Inv.bs (I : Inv X pins σ H s) : ∀ b o, X.base.get? b = some o → s.heap.get? b = some o ∧ H b = none := fun b o e =>
  ⟨I.base.keep b o (I.ok.bs b o e).1 (I.ok.bs b o e).2 (I.ok.nofr e) (I.ok.noex b o e), I.base.free b o (I.ok.bs b o e).1 (I.ok.bs b o e).2 (I.ok.noex b o e)⟩
theorem Inv.bk (I : Inv X pins σ H s) : ∀ b o, X.base.get? b = some o → s.heap.get? b = some o := fun b o e => (I.bs b o e).1
theorem Inv.mod (I : Inv X pins σ H s) : Mod X.K X.mg X.base := I.ok.mod
theorem Inv.kIn (I : Inv X pins σ H s) : X.K.In s.heap := I.ok.mod.kin.keeps I.bk
theorem Inv.nolimit (I : Inv X pins σ H s) : s.heap.NoLimit := I.ok.mod.nolimit.keeps I.bk
theorem Inv.fr (I : Inv X pins σ H s) : ∃ m, Fr X.base X.env.locals s.heap m :=
  let ⟨m, hn, _⟩ := I.loc
  ⟨m, hn, I.bk, Nat.le_trans I.ok.bsz I.ok.above⟩
theorem Inv.lt (I : Inv X pins σ H s) : X.env.locals < s.heap.objs.size := let ⟨_, hn, _⟩ := I.loc; hn.lt
theorem Inv.sz (I : Inv X pins σ H s) : X.s₀.heap.objs.size ≤ s.heap.objs.size := Nat.le_trans I.ok.above (Nat.le_of_lt I.lt)
theorem Inv.nofs (I : Inv X pins σ H s) {a : Addr} (h : s.heap.objs.size ≤ a) : a ∉ X.fs := fun hb => by
  obtain ⟨_, o, ho, _⟩ := I.ok.funs.mem hb
  exact absurd (Nat.lt_of_lt_of_le (Heap.lt_size ho) (Nat.le_trans I.sz h)) (Nat.lt_irrefl _)
theorem Inv.cne (I : Inv X pins σ H s) : ∀ x c, X.env.cells.lookup x = some c → c ≠ X.env.locals := fun x c e z => by
  obtain ⟨v, o, ho, hd⟩ := I.cell x c e
  obtain ⟨m, ⟨o', es, ep, ho', hd', _⟩, _⟩ := I.loc
  rw [z, ho'] at ho; cases ho; rw [hd'] at hd; cases hd
theorem Inv.funs (I : Inv X pins σ H s) : s.heap.FunFrames X.base X.outer := by
  have all : ∀ (l : List Env), (∀ b ∈ frs l, b ∈ X.fs) → X.s₀.heap.FunFrames X.base l → s.heap.FunFrames X.base l := by
    intro l
    induction l with
    | nil => intro _ _; trivial
    | cons env r ih =>
      intro hs hl
      obtain ⟨hk, ⟨L, o, hf, hn, ho, hd⟩, hr⟩ := hl
      have hL : L ∈ X.fs := hs L (by unfold frs; rw [List.filterMap_cons, hf]; exact List.mem_cons_self)
      obtain ⟨sl, e⟩ := I.base.slot L o ho (I.ok.frf L hL) hL fun z => I.ok.exfs L z hL
      exact ⟨hk, ⟨L, _, hf, hn, e, hd⟩, ih (fun b hb => hs b (by unfold frs; rw [List.filterMap_cons, hf]; exact List.mem_cons_of_mem _ hb)) hr⟩
  exact all X.outer (fun _ hb => hb) I.ok.funs
theorem Inv.stack (I : Inv X pins σ H s) : s.heap.FunFrames X.base X.stack := by
  rcases I.ok.stk with e | ⟨e, hf⟩
  · rw [e]; exact I.funs
  · rw [e]
    obtain ⟨m, hn, _⟩ := I.loc
    refine .cons (by rw [I.ok.kind]; decide) hf hn ?_ I.funs
    exact Heap.get?_none_of_le (Nat.le_trans I.ok.bsz I.ok.above)
theorem Inv.stkSub (I : Inv X pins σ H s) : ∀ b ∈ frs X.stack, b ∈ X.env.locals :: X.fs := fun b hb => by
  rcases I.ok.stk with e | ⟨e, hf⟩
  · rw [e] at hb; exact List.mem_cons_of_mem _ hb
  · rw [e] at hb
    unfold frs at hb
    rw [List.filterMap_cons, hf] at hb
    exact hb
theorem Inv.stkFree (I : Inv X pins σ H s) : ∀ b ∈ frs X.stack, H b = none := fun b hb => by
  rcases List.mem_cons.mp (I.stkSub b hb) with e | hb
  · rw [e]; exact I.free
  · obtain ⟨_, o, ho, _⟩ := I.ok.funs.mem hb
    exact I.base.free b o ho (I.ok.frf b hb) fun z => I.ok.exfs b z hb
theorem Inv.step {g' : Array GenState} {t' : Nat} {d' : Drawn} {ch : List Addr} (I : Inv X pins σ H s)
    (hch : ∀ b ∈ ch, (b ∈ X.ex ∨ X.s₀.heap.objs.size ≤ b) ∧ b ≠ X.env.locals ∧ (∀ x c, X.env.cells.lookup x = some c → c ≠ b) ∧ ∀ p ∈ X.pn ++ pins, p.1 ≠ b)
    (keep : ∀ b o, b ≠ X.env.locals → b ∉ X.fs → b ∉ ch → s.heap.get? b = some o → H b = none → h'.get? b = some o)
    (slot : ∀ b o, b ≠ X.env.locals → b ∈ X.fs → b ∉ ch → s.heap.get? b = some o → H b = none → ∃ sl, h'.get? b = some { o with slots := sl }) (free : ∀ b o, b ∉ ch → s.heap.get? b = some o → H b = none → H' b = none)
    (there : ∀ b o, b ∉ ch → s.heap.get? b = some o → ∃ o', h'.get? b = some o')
    (tups : ∀ b xs, H b = some (.tup xs) → H' b = some (.tup xs)) (frzs : ∀ b o u, H b = some (.frz o u) → H' b = some (.frz o u)) (tbls : ∀ b ps, H b = some (.tbl ps) → ∃ more, H' b = some (.tbl (ps ++ more)))
    (ns : ∀ m, s.heap.Ns X.env.locals m → h'.Ns X.env.locals m) (hok : HOk X.prog X.w H' h') (hg : AllBare g') :
    Inv X pins σ H' { s with heap := h', gens := g', drawn := d', toks := t' } := by
  have neL : ∀ b o, X.s₀.heap.get? b = some o → b ≠ X.env.locals := fun b o e => Nat.ne_of_lt (Nat.lt_of_lt_of_le (Heap.lt_size e) I.ok.above)
  have neC : ∀ b o, X.s₀.heap.get? b = some o → b ∉ X.ex → b ∉ ch := fun b o e hx hb => by
    rcases (hch b hb).1 with z | z
    · exact hx z
    · exact absurd (Nat.lt_of_lt_of_le (Heap.lt_size e) z) (Nat.lt_irrefl _)
  have cellK : ∀ x c, X.env.cells.lookup x = some c → ∀ v, s.heap.IsCell c v → h'.IsCell c v := fun x c e v ⟨o, ho, hd⟩ => by
    have nch : c ∉ ch := fun z => (hch c z).2.2.1 x c e rfl
    by_cases hc : c ∈ X.fs
    · obtain ⟨sl, q⟩ := slot c o (I.cne x c e) hc nch ho (I.freeC x c e)
      exact ⟨_, q, hd⟩
    · exact ⟨o, keep c o (I.cne x c e) hc nch ho (I.freeC x c e), hd⟩
  refine ⟨I.ok, I.os, hg, ⟨fun b o e n hb hx => ?_, fun b o e n hb hx => ?_, fun b o e n hx => ?_, fun b o e hx => ?_, fun b xs e => tups b xs (I.base.tups b xs e), fun b o xs e => frzs b o xs (I.base.frzs b o xs e), fun b ps e => ?_⟩, ?_, fun x c e => ?_, ?_, fun x c e => ?_, fun p hp => ?_, hok, I.len⟩
  · exact keep b o (neL b o e) hb (neC b o e hx) (I.base.keep b o e n hb hx) (I.base.free b o e n hx)
  · obtain ⟨sl, e1⟩ := I.base.slot b o e n hb hx
    obtain ⟨sl', e2⟩ := slot b _ (neL b o e) hb (neC b o e hx) e1 (I.base.free b o e n hx)
    exact ⟨sl', e2⟩
  · obtain ⟨o', e1⟩ := I.base.there b o e hx
    exact free b o' (neC b o e hx) e1 (I.base.free b o e n hx)
  · obtain ⟨o', e1⟩ := I.base.there b o e hx
    exact there b o' (neC b o e hx) e1
  · obtain ⟨m1, e1⟩ := I.base.tbls b ps e
    obtain ⟨m2, e2⟩ := tbls b _ e1
    exact ⟨m1 ++ m2, by rw [e2, Array.append_assoc]⟩
  · obtain ⟨m, hn, hl⟩ := I.loc
    refine ⟨m, ns m hn, fun i x v e1 e2 e3 => ?_⟩
    obtain ⟨u, r, l⟩ := hl i x v e1 e2 e3
    refine ⟨u, r, ?_⟩
    rcases l with l | ⟨k, c, e, z⟩
    · exact .inl l
    · exact .inr ⟨k, c, e, cellK x c e _ z⟩
  · obtain ⟨v, z⟩ := I.cell x c e
    exact ⟨v, cellK x c e v z⟩
  · obtain ⟨m, ⟨o, _, _, ho, _⟩, _⟩ := I.loc
    exact free _ o (fun z => (hch _ z).2.1 rfl) ho I.free
  · obtain ⟨v, o, ho, hd⟩ := I.cell x c e
    exact free c o (fun z => (hch c z).2.2.1 x c e rfl) ho (I.freeC x c e)
  · obtain ⟨e, n, ne, nf, d⟩ := I.pin p hp
    have nch : p.1 ∉ ch := fun z => (hch p.1 z).2.2.2 p hp rfl
    exact ⟨keep p.1 p.2 ne nf nch e n, free p.1 p.2 nch e n, ne, nf, d⟩
theorem Inv.un {t' : Nat} (I : Inv X pins σ H s) (u : Un X.fs [] H H' s.heap h') (hok : HOk X.prog X.w H' h') : Inv X pins σ H' { s with heap := h', toks := t' } := by
  obtain ⟨m, ⟨o, es, ep, ho, r⟩, _⟩ := id I.loc
  obtain ⟨sl, hL⟩ := u.any ho I.free (by simp)
  exact I.step (g' := s.gens) (d' := s.drawn) (ch := []) (fun _ z => nomatch z) (fun b o _ hb _ e n => u.keep b o e n hb (by simp)) (fun b o _ hb _ e n => u.slot b o e n hb (by simp)) (fun b o _ e n => u.free b o e n (by simp)) (fun b o _ e => u.there b o e (by simp)) u.tups u.frzs u.tbls (fun m' hm => by
    obtain ⟨o', es', ep', ho', r'⟩ := hm
    rw [ho] at ho'; cases ho'
    exact ⟨_, es', ep', hL, r'⟩) hok I.bare
theorem Inv.call {g' : Array GenState} {t' : Nat} {d' : Drawn} {ch : List Addr} (I : Inv X pins σ H s) (u : Un (frs X.stack) ch H H' s.heap h') (hok : HOk X.prog X.w H' h') (hg : AllBare g')
    (hch : ∀ b ∈ ch, (b ∈ X.ex ∨ X.s₀.heap.objs.size ≤ b) ∧ b ≠ X.env.locals ∧ (∀ x c, X.env.cells.lookup x = some c → c ≠ b) ∧ ∀ p ∈ X.pn ++ pins, p.1 ≠ b) :
    Inv X pins σ H' { s with heap := h', gens := g', drawn := d', toks := t' } := by
  obtain ⟨m, ⟨o, es, ep, ho, r⟩, _⟩ := id I.loc
  obtain ⟨sl, hL⟩ := u.any ho I.free fun z => (hch _ z).2.1 rfl
  exact I.step (ch := ch) hch (fun b o hL hb hc e n => u.keep b o e n (fun z => (List.mem_cons.mp (I.stkSub b z)).elim hL hb) hc) (fun b o _ _ hc e n => u.any e n hc) (fun b o hc e n => u.free b o e n hc) (fun b o hc e => u.there b o e hc) u.tups u.frzs u.tbls (fun m' hm => by
    obtain ⟨o', es', ep', ho', r'⟩ := hm
    rw [ho] at ho'; cases ho'
    exact ⟨_, es', ep', hL, r'⟩) hok hg
theorem Inv.turned {t' : Nat} {it : Addr} (I : Inv X pins σ H s) (k : ∀ b o, b ≠ it → s.heap.get? b = some o → h'.get? b = some o) (hn : H it = none) (hL : it ≠ X.env.locals)
    (h1 : it ∈ X.ex ∨ X.s₀.heap.objs.size ≤ it) (h2 : ∀ x c, X.env.cells.lookup x = some c → c ≠ it) (h3 : ∀ p ∈ X.pn ++ pins, p.1 ≠ it) : Inv X pins σ H { s with heap := h', toks := t' } := by
  have nit : ∀ b u, H b = some u → b ≠ it := fun b u e z => by rw [z, hn] at e; cases e
  refine I.step (g' := s.gens) (d' := s.drawn) (ch := [it]) (fun b hb => ?_) (fun b o _ _ hc e _ => k b o (fun z => hc (by simp [z])) e) (fun b o _ _ hc e _ => ⟨o.slots, k b o (fun z => hc (by simp [z])) e⟩) (fun _ _ _ _ n => n)
    (fun b o hc e => ⟨o, k b o (fun z => hc (by simp [z])) e⟩) (fun _ _ e => e) (fun _ _ _ e => e) (fun b ps e => ⟨#[], by rw [e]; simp⟩) (fun m hm => ?_) (fun b u e => ?_) I.bare
  · have e : b = it := by simpa using hb
    subst e
    exact ⟨h1, hL, h2, h3⟩
  · obtain ⟨o, es, ep, ho, r⟩ := hm
    exact ⟨o, es, ep, k _ o (Ne.symm hL) ho, r⟩
  · refine (I.hok b u e).stay (fun c v hc q => k c v ?_ q) (fun _ q => q) fun _ _ q => q
    rcases hc with z | z
    · rw [z]; exact nit b u e
    · exact nit c _ z
theorem Inv.tok (I : Inv X pins σ H s) (t : Nat) : Inv X pins σ H { s with toks := t } := I.un (h' := s.heap) (t' := t) Un.refl I.hok
theorem Inv.kept {t' : Nat} (I : Inv X pins σ H s) (k : ∀ b u, s.heap.get? b = some u → h'.get? b = some u) : Inv X pins σ H { s with heap := h', toks := t' } := I.un (Un.kept k) (I.hok.kept k)
theorem Inv.laid {a : Addr} {o : HO} {t' : Nat} (I : Inv X pins σ H s) (k : ∀ b u, s.heap.get? b = some u → h'.get? b = some u) (hp : s.heap.objs.size ≤ a) (new : ObjOk X.prog X.w (upd H a o) h' a o) :
    Inv X pins σ (upd H a o) { s with heap := h', toks := t' } := I.un (Un.laid k hp (I.hok.fresh hp)) (I.hok.laid k hp new)
theorem Inv.write {x e : Addr} {o : HO} {t' : Nat} (I : Inv X pins σ H s) (mu : Mut (H x)) (he : e = x ∨ H e = some (.own x)) (k : ∀ b u, b ≠ e → s.heap.get? b = some u → h'.get? b = some u) (heo : ∃ u, h'.get? e = some u)
    (new : ObjOk X.prog X.w (upd H x o) h' x o) : Inv X pins σ (upd H x o) { s with heap := h', toks := t' } := I.un (Un.write mu he k heo) (I.hok.write mu he k heo new)
theorem Inv.pins_of {pins' : List (Addr × Obj)} (I : Inv X pins σ H s) (h : ∀ p ∈ pins', s.heap.get? p.1 = some p.2 ∧ H p.1 = none ∧ p.1 ≠ X.env.locals ∧ p.1 ∉ X.fs ∧ ∀ v, p.2.data ≠ .cell v) : Inv X pins' σ H s :=
  ⟨I.ok, I.os, I.bare, I.base, I.loc, I.cell, I.free, I.freeC, fun p hp => (List.mem_append.mp hp).elim (fun z => I.pin p (List.mem_append_left _ z)) (h p), I.hok, I.len⟩
theorem nodup_ix {N : List Str} (hN : N.Nodup) {i j : Nat} {x : Str} (a : N[i]? = some x) (b : N[j]? = some x) : i = j := by
  obtain ⟨h1, e1⟩ := List.getElem?_eq_some_iff.mp a
  obtain ⟨h2, e2⟩ := List.getElem?_eq_some_iff.mp b
  exact (List.getElem_inj hN).mp (e1.trans e2.symm)
theorem store_ok2 {M : Model} {A : Around} {E : Value → Shared → Prop} {i : Nat} {x : Str} {v : V} {u : Value} {Q : Unit → Shared → Prop} (I : Inv X pins σ H s) (hN : X.N.Nodup) (hi : X.N[i]? = some x) (hx : Loc X.env.scope x) (r : RelV v u)
    (h : ∀ s', Inv X pins (σ.set i (some v)) H s' → (∃ a, Heap.SameBut a s.heap s'.heap ∧ (a = X.env.locals ∨ X.env.cells.lookup x = some a)) → Q () s') (hf : X.fn x = true ∨ X.env.scope.names.lookup x = some .local := by first | exact .inl rfl | exact .inr rfl | assumption) : wpAny M A (storeName X.env x u) Q E s := by
  obtain ⟨m, hn, hl⟩ := id I.loc
  have hcls : (X.env.scope.kind == .class || (X.env.scope.kind == .module && X.env.locals != X.env.globals)) = false := by rw [I.ok.kind]; rfl
  have hiσ : i < σ.length := by rw [I.len]; exact (List.getElem?_eq_some_iff.mp hi).1
  have cne := I.cne
  have tracked : ∀ {a : Addr} {h' : Heap}, (∃ o, s.heap.get? a = some o ∧ H a = none) → Heap.SameBut a s.heap h' → HOk X.prog X.w H h' := fun {a h'} ha hs b ob e => by
    obtain ⟨_, _, hfree⟩ := ha
    refine (I.hok b ob e).stay (fun c w' hc q => (hs.2 c ?_).trans q) (fun _ q => q) fun _ _ q => q
    rintro rfl
    rcases hc with rfl | hc
    · rw [hfree] at e; cases e
    · rw [hfree] at hc; cases hc
  rcases hx with hk | hk
  · refine wpAny_storeName_local hk hn (fun h' hn' hs => ?_) hcls
    obtain ⟨oL, _, _, hoL, _⟩ := id hn
    refine h _ ⟨I.ok, I.os, I.bare, ⟨fun b o e n hb hx => ?_, fun b o e n hb hx => ?_, I.base.free, fun b o e hx => ?_, I.base.tups, I.base.frzs, I.base.tbls⟩, ⟨_, hn', fun j y v' e1 e2 e3 => ?_⟩, fun y c e => ?_, I.free, I.freeC, fun p hp => ?_, tracked ⟨oL, hoL, I.free⟩ hs, by simpa using I.len⟩ ⟨_, hs, .inl rfl⟩
    · exact (hs.2 b (Nat.ne_of_lt (Nat.lt_of_lt_of_le (Heap.lt_size e) I.ok.above))).trans (I.base.keep b o e n hb hx)
    · obtain ⟨sl, e1⟩ := I.base.slot b o e n hb hx
      exact ⟨sl, (hs.2 b (Nat.ne_of_lt (Nat.lt_of_lt_of_le (Heap.lt_size e) I.ok.above))).trans e1⟩
    · obtain ⟨o', e1⟩ := I.base.there b o e hx
      exact ⟨o', (hs.2 b (Nat.ne_of_lt (Nat.lt_of_lt_of_le (Heap.lt_size e) I.ok.above))).trans e1⟩
    · by_cases hj : j = i
      · subst hj
        rw [hi] at e1; cases e1
        rw [List.getElem?_set_self hiσ] at e2
        cases e2
        exact ⟨u, r, .inl ⟨hk, by simp⟩⟩
      · rw [List.getElem?_set_ne (Ne.symm hj)] at e2
        obtain ⟨u', r', q⟩ := hl j y v' e1 e2 e3
        refine ⟨u', r', ?_⟩
        rcases q with ⟨k, e⟩ | ⟨k, c, e, z⟩
        · refine .inl ⟨k, ?_⟩
          have : y ≠ x := fun e => hj (nodup_ix hN e1 (e ▸ hi))
          simp [this, e]
        · exact .inr ⟨k, c, e, z.sameBut hs (cne y c e)⟩
    · obtain ⟨w', z⟩ := I.cell y c e
      exact ⟨w', z.sameBut hs (cne y c e)⟩
    · obtain ⟨e, n, ne, nf, d⟩ := I.pin p hp
      exact ⟨(hs.2 p.1 ne).trans e, n, ne, nf, d⟩
  · have hfn : X.fn x = true := by
      rcases hf with z | z
      · exact z
      · rw [z] at hk; cases hk
    obtain ⟨c, hc⟩ := I.ok.has x (.inl hk)
    obtain ⟨w', z⟩ := I.cell x c hc
    refine wpAny_storeName_cell I.ok.kind hk hc z (fun h' hc' hs => ?_)
    obtain ⟨oc, hoc, hocd⟩ := id z
    refine h { s with heap := h' } ⟨I.ok, I.os, I.bare, ⟨fun b o e n hb hx => ?_, fun b o e n hb hx => ?_, I.base.free, fun b o e hx => ?_, I.base.tups, I.base.frzs, I.base.tbls⟩, ⟨m, hn.sameBut hs (Ne.symm (cne x c hc)), fun j y v' e1 e2 e3 => ?_⟩, fun y c' e => ?_, I.free, I.freeC, fun p hp => ?_, tracked ⟨oc, hoc, I.freeC x c hc⟩ hs, by simpa using I.len⟩ ⟨c, hs, .inr hc⟩
    · exact (hs.2 b (Nat.ne_of_lt (Nat.lt_of_lt_of_le (Heap.lt_size e) (I.ok.cab x c hfn hc)))).trans (I.base.keep b o e n hb hx)
    · obtain ⟨sl, e1⟩ := I.base.slot b o e n hb hx
      exact ⟨sl, (hs.2 b (Nat.ne_of_lt (Nat.lt_of_lt_of_le (Heap.lt_size e) (I.ok.cab x c hfn hc)))).trans e1⟩
    · obtain ⟨o', e1⟩ := I.base.there b o e hx
      exact ⟨o', (hs.2 b (Nat.ne_of_lt (Nat.lt_of_lt_of_le (Heap.lt_size e) (I.ok.cab x c hfn hc)))).trans e1⟩
    · by_cases hj : j = i
      · subst hj
        rw [hi] at e1; cases e1
        rw [List.getElem?_set_self hiσ] at e2
        cases e2
        exact ⟨u, r, .inr ⟨.inl hk, c, hc, hc'⟩⟩
      · rw [List.getElem?_set_ne (Ne.symm hj)] at e2
        obtain ⟨u', r', q⟩ := hl j y v' e1 e2 e3
        refine ⟨u', r', ?_⟩
        rcases q with q | ⟨k, c', e, z'⟩
        · exact .inl q
        · refine .inr ⟨k, c', e, z'.sameBut hs ?_⟩
          rintro rfl
          exact hj (nodup_ix hN e1 (I.ok.inj _ _ _ e hc ▸ hi))
    · by_cases hcc : c' = c
      · subst hcc; exact ⟨_, hc'⟩
      · obtain ⟨w2, z2⟩ := I.cell y c' e
        exact ⟨w2, z2.sameBut hs hcc⟩
    · obtain ⟨e, n, ne, nf, d⟩ := I.pin p hp
      refine ⟨(hs.2 p.1 ?_).trans e, n, ne, nf, d⟩
      intro q
      rw [q, hoc] at e
      have q' : oc = p.2 := Option.some.inj e
      exact d w' (by rw [← q']; exact hocd)
theorem store_ok {M : Model} {A : Around} {E : Value → Shared → Prop} {i : Nat} {x : Str} {v : V} {u : Value} {Q : Unit → Shared → Prop} (I : Inv X pins σ H s) (hN : X.N.Nodup) (hi : X.N[i]? = some x) (hx : Loc X.env.scope x) (r : RelV v u)
    (h : ∀ s', Inv X pins (σ.set i (some v)) H s' → Q () s') (hf : X.fn x = true ∨ X.env.scope.names.lookup x = some .local := by first | exact .inl rfl | exact .inr rfl | assumption) : wpAny M A (storeName X.env x u) Q E s :=
  store_ok2 I hN hi hx r (fun s' I' _ => h s' I') hf
theorem Inv.call' {s' : Shared} {ch : List Addr} (I : Inv X pins σ H s) (ho : s'.os = s.os) (u : Un (frs X.stack) ch H H' s.heap s'.heap) (hok : HOk X.prog X.w H' s'.heap) (hg : AllBare s'.gens)
    (hch : ∀ b ∈ ch, (b ∈ X.ex ∨ X.s₀.heap.objs.size ≤ b) ∧ b ≠ X.env.locals ∧ (∀ x c, X.env.cells.lookup x = some c → c ≠ b) ∧ ∀ p ∈ X.pn ++ pins, p.1 ≠ b) : Inv X pins σ H' s' := by
  obtain ⟨h', g', d', t', o'⟩ := s'
  have e : o' = s.os := ho
  subst e
  exact I.call (g' := g') (t' := t') (d' := d') u hok hg hch
end
abbrev XK := Value → Option Addr → Hp → Prop
abbrev St := List (Option V)
abbrev VK := V → Hp → Prop
abbrev TE := St → Hp → VK → Prop
abbrev TT := St → Hp → (Bool → Hp → Prop) → Prop
abbrev TA := St → Hp → (List V → Hp → Prop) → Prop
structure Ends where
  nx : St → Hp → Prop
  rt : VK
  bk : St → Hp → Prop := fun _ _ => False
  ct : St → Hp → Prop := fun _ _ => False
abbrev TS := Ends → St → Hp → Prop
def EP (X : Cx) (pins : List (Addr × Obj)) (σ : St) (Q : VK) (u : Value) (s' : Shared) : Prop := ∃ v H', Inv X pins σ H' s' ∧ RelV v u ∧ Q v H'
def TP (X : Cx) (pins : List (Addr × Obj)) (σ : St) (Q : Bool → Hp → Prop) (b : Bool) (s' : Shared) : Prop := ∃ H', Inv X pins σ H' s' ∧ Q b H'
def AP (X : Cx) (pins : List (Addr × Obj)) (σ : St) (Q : List V → Hp → Prop) (us : List Value) (s' : Shared) : Prop := ∃ vs H', Inv X pins σ H' s' ∧ Vals vs us ∧ Q vs H'
def SP (X : Cx) (pins : List (Addr × Obj)) (D : Ends) (f : Flow) (s' : Shared) : Prop :=
  match f with
  | .next => ∃ σ' H', Inv X pins σ' H' s' ∧ D.nx σ' H'
  | .brk => ∃ σ' H', Inv X pins σ' H' s' ∧ D.bk σ' H'
  | .cont => ∃ σ' H', Inv X pins σ' H' s' ∧ D.ct σ' H'
  | .ret u => ∃ v σ' H', Inv X pins σ' H' s' ∧ RelV v u ∧ D.rt v H'
def PE (X : Cx) (e : Expr) (t : TE) : Prop :=
  ∀ (pins : List (Addr × Obj)) (s : Shared) (σ : St) (H : Hp) (Q : VK), Inv X pins σ H s → t σ H Q → wpAny (model X.prog X.w) X.A (eval e X.env) (EP X pins σ Q) X.xe s
def PT (X : Cx) (e : Expr) (t : TT) : Prop :=
  ∀ (pins : List (Addr × Obj)) (s : Shared) (σ : St) (H : Hp) (Q : Bool → Hp → Prop), Inv X pins σ H s → t σ H Q → wpAny (model X.prog X.w) X.A (isTrue e X.env (eval e X.env)) (TP X pins σ Q) X.xe s
def PW (X : Cx) (e : Expr) (t : TT) : Prop :=
  ∀ (whole : Sem Value) (pins : List (Addr × Obj)) (s : Shared) (σ : St) (H : Hp) (Q : Bool → Hp → Prop), Inv X pins σ H s → t σ H Q → wpAny (model X.prog X.w) X.A (isTrue e X.env whole) (TP X pins σ Q) X.xe s
theorem PW.pt {X : Cx} {e : Expr} {t : TT} (h : PW X e t) : PT X e t := h _
def PA (X : Cx) (es : List Expr) (t : TA) : Prop :=
  ∀ (pos : Pos) (pins : List (Addr × Obj)) (s : Shared) (σ : St) (H : Hp) (Q : List V → Hp → Prop), Inv X pins σ H s → t σ H Q → wpAny (model X.prog X.w) X.A (spliced (backTo pos (starEach es X.env))) (AP X pins σ Q) X.xe s
def PS (X : Cx) (st : Stmt) (t : TS) : Prop :=
  ∀ (pins : List (Addr × Obj)) (s : Shared) (σ : St) (H : Hp) (D : Ends), Inv X pins σ H s → t D σ H → wpAny (model X.prog X.w) X.A (exec st X.env) (SP X pins D) X.xe s
def PSs (X : Cx) (st : List Stmt) (t : TS) : Prop :=
  ∀ (pins : List (Addr × Obj)) (s : Shared) (σ : St) (H : Hp) (D : Ends), Inv X pins σ H s → t D σ H → wpAny (model X.prog X.w) X.A (execs st X.env) (SP X pins D) X.xe s
theorem thn {α : Type} {t : Sem α} {Q Q' : α → Shared → Prop} {M : Model} {A : Around} {E : Value → Shared → Prop} {s : Shared} (h : wpAny M A t Q E s) (hQ : ∀ a s, Q a s → Q' a s) : wpAny M A t Q' E s := wpAny_mono h hQ fun _ _ x => x
end L2
namespace L2
open PySem PySem.Spec PyProof.Rows
section
variable {X : Cx}
def tVar (i : Nat) : TE := fun σ H Q => ∃ v, σ[i]? = some (some v) ∧ Q v H
def tC (v : V) : TE := fun _ H Q => Q v H
theorem pe_var {i : Nat} {x : Str} {pos : Pos} (hN : X.N[i]? = some x) (hv : Vis X.env.scope x) (hd : (x == ("__debug__" : Str)) = false := by decide) (hcd : (x == ("__classdict__" : Str)) = false := by decide) : PE X (.Name x pos) (tVar i) := by
  intro pins s σ H Q I h
  obtain ⟨v, e, h⟩ := h
  obtain ⟨m, hn, hl⟩ := I.loc
  obtain ⟨u, r, l⟩ := hl i x v hN e hv
  have fin : EP X pins σ Q u s := ⟨v, H, I, r, h⟩
  rcases l with ⟨hk, hm⟩ | ⟨hk, c, hc, hcell⟩
  · exact wpAny_Name (wpAny_loadName_local I.ok.kind hk hn hm fin) hd
  · rcases hk with hk | hk
    · exact wpAny_Name (wpAny_loadName_cell I.ok.kind hk hc hcell fin) hd
    · exact wpAny_Name (wpAny_loadName_free I.ok.kind hk hc hcell fin hcd) hd
theorem pe_int {i j pos} : PE X (.Constant (.int i) j pos) (tC (.int i)) := fun _ _ _ H _ I h => wpAny_Constant_int ⟨.int i, H, I.tok _, ⟨_, rfl⟩, h⟩
theorem pe_bl {b j pos} : PE X (.Constant (.bool b) j pos) (tC (.bl b)) := fun _ _ _ H _ I h => Constant_bool ⟨.bl b, H, I, rfl, h⟩
theorem pe_non {j pos} : PE X (.Constant .none j pos) (tC .non) := fun _ _ _ H _ I h => Constant_none ⟨.non, H, I, rfl, h⟩
theorem pe_str {x j pos} : PE X (.Constant (.str x) j pos) (tC (.str x)) := fun _ _ _ H _ I h => Calls.Constant_str ⟨.str x, H, I.tok _, ⟨_, rfl⟩, h⟩
def Gl (X : Cx) (x : Str) : Prop := X.env.kindOf x = some .globalImplicit
theorem ld_glob {E : Value → Shared → Prop} {pins : List (Addr × Obj)} {s : Shared} {σ : St} {H : Hp} {x : Str} {u : Value} {pos : Pos} {Q : Value → Shared → Prop} (I : Inv X pins σ H s) (hg : Gl X x) (hm : X.mg x = some u) (h : Q u s)
    (hd : (x == ("__debug__" : Str)) = false := by decide) : wpAny (model X.prog X.w) X.A (eval (.Name x pos) X.env) Q E s :=
  Calls.Name_function_global I.ok.kind hg (Calls.loadGlobal_global (by rw [I.ok.glob]; exact I.mod.glob.keeps I.bk) hm h) hd
theorem ld_blt {E : Value → Shared → Prop} {pins : List (Addr × Obj)} {s : Shared} {σ : St} {H : Hp} {x : Str} {u : Value} {pos : Pos} {Q : Value → Shared → Prop} (I : Inv X pins σ H s) (hg : Gl X x) (hm : X.mg x = none) (hv : bootBuiltins x = some u) (h : Q u s)
    (hn : x ≠ "__name__" := by decide) (hd : (x == ("__debug__" : Str)) = false := by decide) : wpAny (model X.prog X.w) X.A (eval (.Name x pos) X.env) Q E s := by
  obtain ⟨mb, h1, h2⟩ := I.mod.blt
  exact Calls.Name_function_global I.ok.kind hg (Calls.loadGlobal_builtin (by rw [I.ok.glob]; exact I.mod.glob.keeps I.bk) hm (by rw [I.ok.blt]; exact h1.keeps I.bk) ((h2 x hn).trans hv) h) hd
theorem pe_glob {x : Str} {v : V} {u : Value} {pos : Pos} (hg : Gl X x) (hm : X.mg x = some u) (r : RelV v u) (hd : (x == ("__debug__" : Str)) = false := by decide) : PE X (.Name x pos) (tC v) :=
  fun _ _ _ H _ I h => ld_glob I hg hm ⟨v, H, I, r, h⟩ hd
theorem pe_bltn {x : Str} {v : V} {u : Value} {pos : Pos} (hg : Gl X x) (hm : X.mg x = none) (hv : bootBuiltins x = some u) (r : RelV v u) (hn : x ≠ "__name__" := by decide) (hd : (x == ("__debug__" : Str)) = false := by decide) : PE X (.Name x pos) (tC v) :=
  fun _ _ _ H _ I h => ld_blt I hg hm hv ⟨v, H, I, r, h⟩ hn hd
variable {a b : Expr} {ta tb : TE} {pos : Pos}
variable {tA tB' : TT} {rest : List Expr}
def tAnd (t u : TT) : TT := fun σ H Q => t σ H fun c H1 => if c = true then u σ H1 Q else Q false H1
def tOr (t u : TT) : TT := fun σ H Q => t σ H fun c H1 => if c = true then Q true H1 else u σ H1 Q
def tNot (t : TT) : TT := fun σ H Q => t σ H fun c H1 => Q (!c) H1
theorem pw_and1 (ha : PT X a tA) : PW X (.BoolOp .And [a] pos) tA := by
  intro wh pins s σ H Q I h
  refine isTrue_and (thn (ha pins s σ H Q I h) fun c s1 e => ?_)
  cases c with
  | true => exact isTrue_and_nil e
  | false => exact e
theorem pw_or1 (ha : PT X a tA) : PW X (.BoolOp .Or [a] pos) tA := by
  intro wh pins s σ H Q I h
  refine isTrue_or (thn (ha pins s σ H Q I h) fun c s1 e => ?_)
  cases c with
  | false => exact isTrue_or_nil e
  | true => exact e
theorem pw_and (ha : PT X a tA) (hb : PW X (.BoolOp .And (b :: rest) pos) tB') : PW X (.BoolOp .And (a :: b :: rest) pos) (tAnd tA tB') := by
  intro wh pins s σ H Q I h
  refine isTrue_and (thn (ha pins s σ H _ I h) fun c s1 ⟨H1, I1, q1⟩ => ?_)
  cases c with
  | true => exact hb wh pins s1 σ H1 Q I1 q1
  | false => exact ⟨H1, I1, q1⟩
theorem pw_or (ha : PT X a tA) (hb : PW X (.BoolOp .Or (b :: rest) pos) tB') : PW X (.BoolOp .Or (a :: b :: rest) pos) (tOr tA tB') := by
  intro wh pins s σ H Q I h
  refine isTrue_or (thn (ha pins s σ H _ I h) fun c s1 ⟨H1, I1, q1⟩ => ?_)
  cases c with
  | true => exact ⟨H1, I1, q1⟩
  | false => exact hb wh pins s1 σ H1 Q I1 q1
theorem pt_not (ha : PT X a tA) : PT X (.UnaryOp .Not a pos) (tNot tA) := by
  intro pins s σ H Q I h
  exact isTrue_not (ha pins s σ H (fun c H1 => Q (!c) H1) I h)
def tAndV (ta tb : TE) : TE := fun σ H Q => ta σ H fun x H1 => ∃ c, x = .bl c ∧ if c = true then tb σ H1 Q else Q (.bl false) H1
def tNotV (ta : TE) : TE := fun σ H Q => ta σ H fun x H1 => ∃ c, x = .bl c ∧ Q (.bl (!c)) H1
theorem pe_one {op} {t : TE} (h : PE X a t) : PE X (.BoolOp op [a] pos) t := fun pins s σ H Q I hw => BoolOp_one (h pins s σ H Q I hw)
theorem pe_and (ha : PE X a ta) (hb : PE X (.BoolOp .And (b :: rest) pos) tb) : PE X (.BoolOp .And (a :: b :: rest) pos) (tAndV ta tb) := by
  intro pins s σ H Q I h
  refine BoolOp_and (thn (ha pins s σ H _ I h) fun v s1 ⟨x, H1, I1, r1, q1⟩ => ?_)
  obtain ⟨c, rfl, q1⟩ := q1
  cases r1
  refine wpAny_truthy_bool ?_
  cases c with
  | true => exact hb pins s1 σ H1 Q I1 q1
  | false => exact ⟨.bl false, H1, I1, rfl, q1⟩
theorem pe_not (ha : PE X a ta) : PE X (.UnaryOp .Not a pos) (tNotV ta) := by
  intro pins s σ H Q I h
  refine UnaryOp_ (thn (ha pins s σ H _ I h) fun v s1 ⟨x, H1, I1, r1, q1⟩ => ?_)
  obtain ⟨c, rfl, q1⟩ := q1
  cases r1
  exact not_of (wpAny_truthy_bool ⟨.bl (!c), H1, I1, rfl, q1⟩)
end
end L2
namespace L2
open PySem PySem.Spec PyProof.Rows
def SqL (K : PySem.W.Frag) (H : Hp) (a : Addr) (xs : List V) : Prop :=
  Rd H a (.lst xs) ∨
    ∃ (o : Obj) (its : Array Value) (n : Nat), K.lookup a = some o ∧ o.cls = .type "list" ∧ o.dict = none ∧ o.data = .seq its n ∧ its.size ≤ sizeLine ∧ Vals xs its.toList
def SqT (K : PySem.W.Frag) (H : Hp) (a : Addr) (xs : List V) : Prop :=
  Rd H a (.tup xs) ∨
    ∃ (o : Obj) (its : Array Value) (n : Nat), K.lookup a = some o ∧ o.cls = .type "tuple" ∧ o.data = .seq its n ∧ its.size ≤ sizeLine ∧ Vals xs its.toList
def absV : Value → Option V
  | .none => some .non
  | .bool b => some (.bl b)
  | .int i _ => some (.int i)
  | .str x _ => some (.str x)
  | .bytes b _ => some (.byt b)
  | .float b _ => some (.flt b)
  | .ref a => some (.ref a)
  | .type n => some (.ty n)
  | _ => none
theorem RelV.abs {x : V} {u : Value} (r : RelV x u) : absV u = some x := by
  cases x with
  | non => cases r; rfl
  | bl _ => cases r; rfl
  | int _ => obtain ⟨t, rfl⟩ := r; rfl
  | str _ => obtain ⟨t, rfl⟩ := r; rfl
  | byt _ => obtain ⟨t, rfl⟩ := r; rfl
  | flt _ => obtain ⟨t, rfl⟩ := r; rfl
  | ref _ => cases r; rfl
  | ty _ => cases r; rfl
theorem RelV.inj {x y : V} {u : Value} (r : RelV x u) (q : RelV y u) : x = y := Option.some.inj (r.abs.symm.trans q.abs)
theorem Vals.inj : ∀ {xs ys : List V} {us : List Value}, Vals xs us → Vals ys us → xs = ys
  | _, _, _, .nil, .nil => rfl
  | _, _, _, .cons r t, .cons r' t' => by rw [r.inj r', Vals.inj t t']
section
variable {X : Cx} {pins : List (Addr × Obj)} {σ : St} {H : Hp} {s : Shared} {a : Addr} {xs ys : List V}
theorem SqL.of {K : PySem.W.Frag} (h : H a = some (.lst xs)) : SqL K H a xs := .inl (.inl h)
theorem SqT.of {K : PySem.W.Frag} (h : H a = some (.tup xs)) : SqT K H a xs := .inl (.inl h)
theorem Inv.list (I : Inv X pins σ H s) (h : SqL X.K H a xs) : ∃ its : List Value, Vals xs its ∧ PlainL s.heap a its.toArray ∧ xs.length ≤ sizeLine := by
  rcases h with h | ⟨o, its, n, hk, hc, hd, hs, hz, r⟩
  · obtain ⟨z, its, n, r, e⟩ := h.ok I.hok
    exact ⟨its, r, ⟨_, n, e, rfl, rfl, rfl⟩, z⟩
  · refine ⟨its.toList, r, ⟨o, n, I.kIn a o hk, hc, hd, by simpa using hs⟩, ?_⟩
    have e := r.length
    simp only [Array.length_toList] at e
    omega
theorem Inv.tuple (I : Inv X pins σ H s) (h : SqT X.K H a xs) : ∃ its : List Value, Vals xs its ∧ IsTup s.heap a its.toArray ∧ xs.length ≤ sizeLine := by
  rcases h with h | ⟨o, its, n, hk, hc, hs, hz, r⟩
  · obtain ⟨z, its, r, p⟩ := h.ok I.hok
    exact ⟨its, r, p, z⟩
  · refine ⟨its.toList, r, ⟨o, I.kIn a o hk, hc, n, by simpa using hs⟩, ?_⟩
    have e := r.length
    simp only [Array.length_toList] at e
    omega
theorem Inv.list_inj (I : Inv X pins σ H s) (h : SqL X.K H a xs) (h' : SqL X.K H a ys) : xs = ys := by
  obtain ⟨its, r, ⟨o, n, e, _, _, d⟩, _⟩ := I.list h
  obtain ⟨its', r', ⟨o', n', e', _, _, d'⟩, _⟩ := I.list h'
  rw [e] at e'; cases e'
  rw [d] at d'
  injection d' with d1 _
  have : its = its' := by simpa using congrArg Array.toList d1
  subst this
  exact r.inj r'
theorem Inv.tuple_inj (I : Inv X pins σ H s) (h : SqT X.K H a xs) (h' : SqT X.K H a ys) : xs = ys := by
  obtain ⟨its, r, ⟨o, e, _, n, d⟩, _⟩ := I.tuple h
  obtain ⟨its', r', ⟨o', e', _, n', d'⟩, _⟩ := I.tuple h'
  rw [e] at e'; cases e'
  rw [d] at d'
  injection d' with d1 _
  have : its = its' := by simpa using congrArg Array.toList d1
  subst this
  exact r.inj r'
end
abbrev Cx.wish (X : Cx) (E : Value → Shared → Prop) : Cx := { X with xe := E }
abbrev Cx.nox (X : Cx) : Cx := X.wish fun _ _ => False
theorem Cx.Ok.wish {X : Cx} (ok : X.Ok) (E : Value → Shared → Prop) : (X.wish E).Ok :=
  ⟨ok.mod, ok.kind, ok.glob, ok.blt, ok.above, ok.inj, ok.has, ok.cab, ok.hd, ok.frames, ok.stk, ok.exf, ok.bs, ok.bsz, ok.noex, ok.exfs, ok.funs, ok.frf⟩
theorem Cx.Ok.unwish {X : Cx} {E : Value → Shared → Prop} (ok : (X.wish E).Ok) : X.Ok :=
  ⟨ok.mod, ok.kind, ok.glob, ok.blt, ok.above, ok.inj, ok.has, ok.cab, ok.hd, ok.frames, ok.stk, ok.exf, ok.bs, ok.bsz, ok.noex, ok.exfs, ok.funs, ok.frf⟩
section
variable {X : Cx} {pins : List (Addr × Obj)} {σ : St} {H : Hp} {s : Shared} {E : Value → Shared → Prop}
theorem Inv.wish (I : Inv X pins σ H s) (E : Value → Shared → Prop) : Inv (X.wish E) pins σ H s := ⟨I.ok.wish E, I.os, I.bare, I.base, I.loc, I.cell, I.free, I.freeC, I.pin, I.hok, I.len⟩
theorem Inv.unwish (I : Inv (X.wish E) pins σ H s) : Inv X pins σ H s := ⟨I.ok.unwish, I.os, I.bare, I.base, I.loc, I.cell, I.free, I.freeC, I.pin, I.hok, I.len⟩
theorem SP.unwish {D : Ends} {f : Flow} {s' : Shared} (h : SP (X.wish E) pins D f s') : SP X pins D f s' := by
  cases f with
  | next => obtain ⟨σ', H', I, q⟩ := h; exact ⟨σ', H', I.unwish, q⟩
  | brk => obtain ⟨σ', H', I, q⟩ := h; exact ⟨σ', H', I.unwish, q⟩
  | cont => obtain ⟨σ', H', I, q⟩ := h; exact ⟨σ', H', I.unwish, q⟩
  | ret u => obtain ⟨v, σ', H', I, r, q⟩ := h; exact ⟨v, σ', H', I.unwish, r, q⟩
theorem PE.nox {e : Expr} {t : TE} (h : PE X.nox e t) : PE X e t := fun pins s σ H Q I hw =>
  wpAny_mono (h pins s σ H Q (I.wish _) hw) (fun _ _ ⟨v, H', I', r, q⟩ => ⟨v, H', I'.unwish, r, q⟩) fun _ _ z => False.elim z
theorem PT.nox {e : Expr} {t : TT} (h : PT X.nox e t) : PT X e t := fun pins s σ H Q I hw =>
  wpAny_mono (h pins s σ H Q (I.wish _) hw) (fun _ _ ⟨H', I', q⟩ => ⟨H', I'.unwish, q⟩) fun _ _ z => False.elim z
theorem PSs.nox {st : List Stmt} {t : TS} (h : PSs X.nox st t) : PSs X st t := fun pins s σ H D I hw =>
  wpAny_mono (h pins s σ H D (I.wish _) hw) (fun _ _ q => q.unwish) fun _ _ z => False.elim z
end
section
variable {X : Cx} {st : Stmt} {rest : List Stmt} {t u : TS} {e : Expr} {te : TE} {pos : Pos}
def tNext : TS := fun D σ H => D.nx σ H
def tSeq (t u : TS) : TS := fun D σ H => t { D with nx := u D } σ H
theorem pss_nil : PSs X [] tNext := fun _ _ σ H _ I h => wpAny_execs_nil ⟨σ, H, I, h⟩
theorem pss_cons (h1 : PS X st t) (h2 : PSs X rest u) : PSs X (st :: rest) (tSeq t u) := by
  intro pins s σ H D I h
  refine wpAny_execs_cons (thn (h1 pins s σ H { D with nx := u D } I h) fun f s1 q => ?_)
  cases f with
  | next =>
    obtain ⟨σ', H', I', q⟩ := q
    exact h2 pins s1 σ' H' D I' q
  | ret v => exact q
  | brk => exact q
  | cont => exact q
theorem pss_one (h1 : PS X st t) : PSs X [st] t := by
  intro pins s σ H D I h
  refine wpAny_execs_cons (thn (h1 pins s σ H D I h) fun f s1 q => ?_)
  cases f with
  | next => exact wpAny_execs_nil q
  | ret v => exact q
  | brk => exact q
  | cont => exact q
theorem Inv.quiet {pins : List (Addr × Obj)} {σ : St} {H : Hp} {s : Shared} (I : Inv X pins σ H s) : interactive X.env = false := by simp [interactive, I.ok.kind]
def tDrop (te : TE) : TS := fun D σ H => te σ H fun _ H1 => D.nx σ H1
theorem ps_expr (he : PE X e te) (hs : swapsWith e none pos.line X.env = pure false := by rfl) : PS X (.Expr e pos) (tDrop te) := by
  intro pins s σ H D I h
  exact wpAny_Expr_any (thn (he pins s σ H _ I h) fun v s1 ⟨x, H1, I1, r1, q1⟩ => ⟨σ, H1, I1, q1⟩) I.quiet hs
def tRet (te : TE) : TS := fun D σ H => te σ H D.rt
theorem ps_ret (he : PE X e te) : PS X (.Return (some e) pos) (tRet te) := by
  intro pins s σ H D I h
  exact wpAny_Return_some (thn (he pins s σ H _ I h) fun v s1 ⟨x, H1, I1, r1, q1⟩ => ⟨x, σ, H1, I1, r1, q1⟩)
def tIfS (c : TT) (t u : TS) : TS := fun D σ H => c σ H fun b H1 => if b = true then t D σ H1 else u D σ H1
theorem ps_if {c : Expr} {a b : List Stmt} {tc : TT} (hc : PT X c tc) (ha : PSs X a t) (hb : PSs X b u) : PS X (.If c a b pos) (tIfS tc t u) := by
  intro pins s σ H D I h
  refine wpAny_If (thn (hc pins s σ H _ I h) fun d s1 ⟨H1, I1, q1⟩ => ?_)
  cases d with
  | true => exact ha pins s1 σ H1 D I1 q1
  | false => exact hb pins s1 σ H1 D I1 q1
def tNever : TS := fun _ _ _ => False
theorem ps_never : PS X st tNever := fun _ _ _ _ _ _ h => h.elim
end
abbrev TG := V → St → Hp → (St → Hp → Prop) → Prop
abbrev TGs := List V → St → Hp → (St → Hp → Prop) → Prop
def PG (X : Cx) (target : Expr) (t : TG) : Prop :=
  ∀ (pins : List (Addr × Obj)) (s : Shared) (σ : St) (H : Hp) (v : V) (u : Value) (Q : St → Hp → Prop), Inv X pins σ H s → RelV v u → t v σ H Q →
    wpAny (model X.prog X.w) X.A (assign target X.env u) (fun _ s' => ∃ σ' H', Inv X pins σ' H' s' ∧ Q σ' H') X.xe s
def PGs (X : Cx) (ts : List Expr) (t : TGs) : Prop :=
  ∀ (pins : List (Addr × Obj)) (s : Shared) (σ : St) (H : Hp) (vs : List V) (us : List Value) (Q : St → Hp → Prop), Inv X pins σ H s → Vals vs us → t vs σ H Q →
    wpAny (model X.prog X.w) X.A (assignInOrder ((assignEach ts X.env).map (·.2)) us) (fun _ s' => ∃ σ' H', Inv X pins σ' H' s' ∧ Q σ' H') X.xe s
abbrev TSet := V → V → V → Hp → (Hp → Prop) → Prop
def PSet (X : Cx) (t : TSet) : Prop :=
  ∀ (pins : List (Addr × Obj)) (s : Shared) (σ : St) (H : Hp) (o i v : V) (ov iv u : Value) (Q : Hp → Prop), Inv X pins σ H s → RelV o ov → RelV i iv → RelV v u → t o i v H Q →
    wpAny (model X.prog X.w) X.A (setItem ov iv u) (fun _ s' => ∃ H', Inv X pins σ H' s' ∧ Q H') X.xe s
section
variable {X : Cx} {pos : Pos}
def gName (i : Nat) : TG := fun v σ H Q => Q (σ.set i (some v)) H
theorem pg_name {i : Nat} {x : Str} (hN : X.N.Nodup) (hi : X.N[i]? = some x) (hx : Loc X.env.scope x) (hf : X.fn x = true ∨ X.env.scope.names.lookup x = some .local := by first | exact .inl rfl | exact .inr rfl | assumption) : PG X (.Name x pos) (gName i) := by
  intro pins s σ H v u Q I r h
  exact wpAny_assign_Name (store_ok I hN hi hx r (fun s' I' => ⟨_, H, I', h⟩) hf)
def gNil : TGs := fun vs σ H Q => vs = [] ∧ Q σ H
def gCons (t : TG) (u : TGs) : TGs := fun vs σ H Q => ∃ v r, vs = v :: r ∧ t v σ H fun σ' H' => u r σ' H' Q
theorem pgs_nil : PGs X [] gNil := by
  intro pins s σ H vs us Q I r h
  obtain ⟨e, h⟩ := h
  subst e
  cases r
  exact assignInOrder_nil ⟨σ, H, I, h⟩
theorem pgs_cons {e : Expr} {es : List Expr} {t : TG} {u : TGs} (h1 : PG X e t) (h2 : PGs X es u)
    (hs : (assignEach (e :: es) X.env).map (·.2) = assign e X.env :: (assignEach es X.env).map (·.2) := by rfl) : PGs X (e :: es) (gCons t u) := by
  intro pins s σ H vs us Q I r h
  obtain ⟨v, vr, e1, h⟩ := h
  subst e1
  cases r with
  | cons r rr =>
    rw [hs]
    refine assignInOrder_cons (thn (h1 pins s σ H _ _ _ I r h) fun _ s1 ⟨σ1, H1, I1, q1⟩ => ?_)
    exact h2 pins s1 σ1 H1 _ _ Q I1 rr q1
def gTup (K : PySem.W.Frag) (n : Nat) (t : TGs) : TG := fun v σ H Q => ∃ a xs, v = .ref a ∧ SqT K H a xs ∧ xs.length = n ∧ t xs σ H Q
theorem pg_tup {es : List Expr} {k : Nat} {t : TGs} {n : Nat} (hc : X.calm = true) (h : PGs X es t)
    (hn : (assignEach es X.env).length = n := by rfl) (hst : (assignEach es X.env).findIdx? (·.1) = none := by rfl) : PG X (.Tuple es k pos) (gTup X.K n t) := by
  intro pins s σ H v u Q I r hw
  obtain ⟨a, xs, e1, hq, hl, hw⟩ := hw
  subst e1
  cases r
  obtain ⟨its, rv, ht, hz⟩ := I.tuple hq
  refine assign_Tuple_tuple (I.ok.hd hc) ht (by simp [hn, ← hl, rv.length]) hst fun h' hx => ?_
  have I1 : Inv X pins σ H { s with heap := h' } := I.kept (t' := s.toks) fun b o e => hx b o (Nat.ne_of_lt (Heap.lt_size e)) e
  exact h pins _ σ H xs _ Q I1 (by simpa using rv) hw
def gSub (to ti : TE) (t : TSet) : TG := fun v σ H Q => to σ H fun o H1 => ti σ H1 fun i H2 => t o i v H2 fun H3 => Q σ H3
theorem pg_sub {o i : Expr} {to ti : TE} {t : TSet} (ho : PE X o to) (hi : PE X i ti) (hs : PSet X t)
    (ha : ∀ v, assign (.Subscript o i pos) X.env v = (do
      let ov ← holding [v] (eval o X.env)
      let iv ← holding [v, ov] (eval i X.env)
      standAt pos
      holding [v, ov, iv] (setItem ov iv v)
      release [v, ov, iv] []) := by intro _; rfl) : PG X (.Subscript o i pos) (gSub to ti t) := by
  intro pins s σ H v u Q I r h
  rw [ha]
  refine wpAny_bind (wpAny_holding (thn (ho pins s σ H _ I h) fun ov s1 ⟨x, H1, I1, r1, q1⟩ => ?_))
  refine wpAny_bind (wpAny_holding (thn (hi pins s1 σ H1 _ I1 q1) fun iv s2 ⟨y, H2, I2, r2, q2⟩ => ?_))
  refine wpAny_bind (wpAny_standAt (wpAny_bind (wpAny_holding (thn (hs pins s2 σ H2 x y v ov iv u _ I2 r1 r2 r q2) fun _ s3 ⟨H3, I3, q3⟩ => ?_))))
  exact wpAny_release ⟨σ, H3, I3, q3⟩
def tAsg (te : TE) (g : TG) : TS := fun D σ H => te σ H fun x H1 => g x σ H1 D.nx
theorem ps_asg {tg e : Expr} {te : TE} {g : TG} (he : PE X e te) (hg : PG X tg g) (hs : swapsWithSole [tg] e pos.line X.env = pure false := by rfl) (hw : swappedStores [tg] e X.env = pure none := by rfl)
    (h1 : (assignEach [tg] X.env).map (·.2) = [assign tg X.env] := by rfl) : PS X (.Assign [tg] e pos) (tAsg te g) := by
  intro pins s σ H D I h
  refine wpAny_Assign_stores (thn (he pins s σ H _ I h) fun v s1 ⟨x, H1, I1, r1, q1⟩ => ?_) hs hw
  rw [h1]
  exact thn (hg pins s1 σ H1 x v _ I1 r1 q1) fun _ s2 q => q
theorem ps_set {i : Nat} {x : Str} {e : Expr} {te : TE} {pos' : Pos} (hN : X.N.Nodup) (hi : X.N[i]? = some x) (hx : Loc X.env.scope x) (he : PE X e te) (hs : swapsWith e (some (.Name x pos')) pos.line X.env = pure false := by rfl) (hf : X.fn x = true ∨ X.env.scope.names.lookup x = some .local := by first | exact .inl rfl | exact .inr rfl | assumption) :
    PS X (.Assign [.Name x pos'] e pos) (tAsg te (gName i)) := by
  intro pins s σ H D I h
  refine wpAny_Assign_Name (thn (he pins s σ H _ I h) fun v s1 ⟨y, H1, I1, r1, q1⟩ => ?_) hs
  exact store_ok I1 hN hi hx r1 (fun s2 I2 => ⟨_, H1, I2, q1⟩) hf
end
section
variable {X : Cx} {pos : Pos}
end
structure It where
  go : Nat → Hp → Prop
  yld : Nat → Hp → V → Hp → Prop
  stop : Nat → Hp → Prop
def FpOk (X : Cx) (pins : List (Addr × Obj)) (H : Hp) (b : Addr) : Prop :=
  H b = none ∧ b ≠ X.env.locals ∧ b ∉ X.fs ∧ (b ∈ X.ex ∨ X.s₀.heap.objs.size ≤ b) ∧ (∀ x c, X.env.cells.lookup x = some c → c ≠ b) ∧ ∀ p ∈ X.pn ++ pins, p.1 ≠ b
theorem Inv.fpOk {X : Cx} {pins : List (Addr × Obj)} {σ : St} {H H' : Hp} {s : Shared} {b : Addr} (I : Inv X pins σ H s) (hb : s.heap.objs.size ≤ b) (hn : H' b = none) : FpOk X pins H' b := by
  refine ⟨hn, Nat.ne_of_gt (Nat.lt_of_lt_of_le I.lt hb), I.nofs hb, .inr (Nat.le_trans I.sz hb), fun x c e z => ?_, fun p hp z => ?_⟩
  · obtain ⟨v, q⟩ := I.cell x c e
    exact absurd (Nat.lt_of_lt_of_le q.lt (by rw [z]; exact hb)) (Nat.lt_irrefl _)
  · exact absurd (Nat.lt_of_lt_of_le (Heap.lt_size (I.pin p hp).1) (by rw [z]; exact hb)) (Nat.lt_irrefl _)
structure Turn (P : Program) (w : World) (K : PySem.W.Frag) (tg : Expr) (J : It) (fp : List Addr) (it : Addr) (tn : Nat → Heap → Prop) : Prop where
  mem : it ∈ fp
  obj : ∀ i h, tn i h → ∀ b ∈ fp, ∃ o, h.get? b = some o ∧ ∀ v, o.data ≠ .cell v
  keep : ∀ i h h', tn i h → (∀ b ∈ fp, ∀ o, h.get? b = some o → h'.get? b = some o) → tn i h'
  item : ∀ (X : Cx), X.prog = P → X.w = w → X.K = K → X.calm = true → ∀ (i : Nat) (pins : List (Addr × Obj)) (s : Shared) (σ : St) (H : Hp) (E : Value → Shared → Prop), Inv X pins σ H s → (∀ b ∈ fp, FpOk X pins H b) → tn i s.heap → J.go i H →
    wpAny (model P w) X.A (pyNext (.ref it)) (fun r s1 => ∃ u, r = some u ∧
      wpAny (model P w) X.A (letOwnedTupleGo tg (.ref it) u) (fun _ s2 => ∃ x H', Inv X pins σ H' s2 ∧ RelV x u ∧ J.yld i H x H' ∧ tn (i + 1) s2.heap ∧ ∀ b ∈ fp, H' b = none) E s1) E s
  done : ∀ (X : Cx), X.prog = P → X.w = w → X.K = K → X.calm = true → ∀ (i : Nat) (pins : List (Addr × Obj)) (s : Shared) (σ : St) (H : Hp) (E : Value → Shared → Prop), Inv X pins σ H s → (∀ b ∈ fp, FpOk X pins H b) → tn i s.heap → J.stop i H →
    wpAny (model P w) X.A (pyNext (.ref it)) (fun r s1 => r = none ∧ Inv X pins σ H s1) E s
  self : ∀ (A : Around) (i : Nat) (s : Shared) (Q : Value → Shared → Prop) (E : Value → Shared → Prop), tn i s.heap → Q (.ref it) s → wpAny (model P w) A (pyIter (.ref it)) Q E s
abbrev TI := St → Hp → (It → Hp → Prop) → Prop
def PIE (X : Cx) (pins : List (Addr × Obj)) (σ : St) (tg : Expr) (R : It → Hp → Prop) (itv : Value) (s2 : Shared) : Prop :=
  ∃ (it : Addr) (fp : List Addr) (tn : Nat → Heap → Prop) (J : It) (H' : Hp), itv = .ref it ∧ Inv X pins σ H' s2 ∧ Turn X.prog X.w X.K tg J fp it tn ∧ tn 0 s2.heap ∧ (∀ b ∈ fp, FpOk X pins H' b) ∧ R J H'
def PI (X : Cx) (tg iter : Expr) (wi : TI) : Prop :=
  ∀ (pins : List (Addr × Obj)) (s : Shared) (σ : St) (H : Hp) (R : It → Hp → Prop), Inv X pins σ H s → wi σ H R →
    wpAny (model X.prog X.w) X.A (eval iter X.env) (fun v s1 => wpAny (model X.prog X.w) X.A (pyIter v) (PIE X pins σ tg R) X.xe s1) X.xe s
theorem go_of {M : Model} {A : Around} {E : Value → Shared → Prop} {s : Shared} {tg : Expr} {it : Addr} {u : Value} {o : Obj} {n : String} {vs : Array Value} {Q : Unit → Shared → Prop} (ho : s.heap.get? it = some o) (hc : o.cls = .type n) (hd : o.data = .fields vs)
    (hn : ["enumerate", "zip", "dict_itemiterator", "dict_reverseitemiterator", "odict_iterator", "itertools.zip_longest", "itertools.pairwise"].contains n = false) (hQ : Q () s) : wpAny M A (letOwnedTupleGo tg (.ref it) u) Q E s := by
  unfold letOwnedTupleGo
  cases tg <;> first
    | exact wpAny_pure hQ
    | (cases u <;> first
        | exact wpAny_pure hQ
        | (refine wpAny_bind (wpAny_load ho ?_)
           rw [hc, hd]
           show wpAny M A (if (["enumerate", "zip", "dict_itemiterator", "dict_reverseitemiterator", "odict_iterator", "itertools.zip_longest", "itertools.pairwise"].contains n && vs[0]? == some (rawInt _)) = true then _ else _) Q E s
           rw [if_neg (by intro h; rw [hn, Bool.false_and] at h; cases h)]
           exact wpAny_pure hQ))
def Itl (K : PySem.W.Frag) (a : Addr) : It :=
  ⟨fun i H => ∃ xs x, SqL K H a xs ∧ xs[i]? = some x, fun i H x H' => H' = H ∧ ∀ xs, SqL K H a xs → xs[i]? = some x, fun i H => ∃ xs, SqL K H a xs ∧ xs.length ≤ i⟩
def Itt (K : PySem.W.Frag) (a : Addr) : It :=
  ⟨fun i H => ∃ xs x, SqT K H a xs ∧ xs[i]? = some x, fun i H x H' => H' = H ∧ ∀ xs, SqT K H a xs → xs[i]? = some x, fun i H => ∃ xs, SqT K H a xs ∧ xs.length ≤ i⟩
def Itr (lo : Int) (n : Nat) : It := ⟨fun i _ => i < n, fun i H x H' => H' = H ∧ x = .int (lo + i), fun i _ => n ≤ i⟩
theorem turn_list {P : Program} {w : World} {K : PySem.W.Frag} {tg : Expr} (a it : Addr) : Turn P w K tg (Itl K a) [it] it (fun i h => h.IsListIter it a i) where
  mem := by simp
  obj := fun i h st b hb => by
    have e : b = it := by simpa using hb
    subst e
    obtain ⟨o, e, c, d⟩ := st
    exact ⟨o, e, fun v z => by rw [d] at z; cases z⟩
  keep := fun i h h' st k => st.at fun o e => k it (by simp) o e
  item := by
    intro X hP hw hK hc i pins s σ H E I hf st hg
    subst hP hw hK
    obtain ⟨xs, x, hq, hx⟩ := hg
    obtain ⟨its, rv, p, hz⟩ := I.list hq
    obtain ⟨u, hu, ru⟩ := rv.get hx
    obtain ⟨f0, f1, f2, f3, f4, f5⟩ := hf it (by simp)
    refine wpAny_pyNext_list_item st p.isList (x := u) (by simpa using hu) fun h' st' sb => ?_
    have I1 : Inv X pins σ H { s with heap := h' } := I.turned (t' := s.toks) (fun b o hb e => (sb.2 b hb).trans e) f0 f1 f3 f4 f5
    obtain ⟨o, e, c, d⟩ := id st'
    exact ⟨u, rfl, go_of (s := { s with heap := h' }) e c d (by decide) ⟨x, H, I1, ru, ⟨rfl, fun ys hy => by rw [I.list_inj hy hq]; exact hx⟩, st', fun b hb => (hf b hb).1⟩⟩
  done := by
    intro X hP hw hK hc i pins s σ H E I hf st hg
    subst hP hw hK
    obtain ⟨xs, hq, hx⟩ := hg
    obtain ⟨its, rv, p, hz⟩ := I.list hq
    obtain ⟨f0, f1, f2, f3, f4, f5⟩ := hf it (by simp)
    have hl := rv.length
    exact wpAny_pyNext_list_end (I.ok.hd hc) st p.isList (by simp; omega) fun h' eb => ⟨rfl, I.turned (t' := s.toks) (fun b o hb e => eb b o hb e) f0 f1 f3 f4 f5⟩
  self := fun _ _ _ _ _ st h => wpAny_pyIter_listiter st h
theorem turn_tuple {P : Program} {w : World} {K : PySem.W.Frag} {tg : Expr} (a it : Addr) : Turn P w K tg (Itt K a) [it] it (fun i h => h.IsTupleIter it a i) where
  mem := by simp
  obj := fun i h st b hb => by
    have e : b = it := by simpa using hb
    subst e
    obtain ⟨o, e, c, d⟩ := st
    exact ⟨o, e, fun v z => by rw [d] at z; cases z⟩
  keep := fun i h h' st k => st.at fun o e => k it (by simp) o e
  item := by
    intro X hP hw hK hc i pins s σ H E I hf st hg
    subst hP hw hK
    obtain ⟨xs, x, hq, hx⟩ := hg
    obtain ⟨its, rv, p, hz⟩ := I.tuple hq
    obtain ⟨u, hu, ru⟩ := rv.get hx
    obtain ⟨f0, f1, f2, f3, f4, f5⟩ := hf it (by simp)
    refine wpAny_pyNext_tuple_item st (show s.heap.IsTuple a its.toArray from p) (x := u) (by simpa using hu) fun h' st' sb => ?_
    have I1 : Inv X pins σ H { s with heap := h' } := I.turned (t' := s.toks) (fun b o hb e => (sb.2 b hb).trans e) f0 f1 f3 f4 f5
    obtain ⟨o, e, c, d⟩ := id st'
    exact ⟨u, rfl, go_of (s := { s with heap := h' }) e c d (by decide) ⟨x, H, I1, ru, ⟨rfl, fun ys hy => by rw [I.tuple_inj hy hq]; exact hx⟩, st', fun b hb => (hf b hb).1⟩⟩
  done := by
    intro X hP hw hK hc i pins s σ H E I hf st hg
    subst hP hw hK
    obtain ⟨xs, hq, hx⟩ := hg
    obtain ⟨its, rv, p, hz⟩ := I.tuple hq
    obtain ⟨f0, f1, f2, f3, f4, f5⟩ := hf it (by simp)
    have hl := rv.length
    exact wpAny_pyNext_tuple_end (I.ok.hd hc) st (show s.heap.IsTuple a its.toArray from p) (by simp; omega) fun h' eb => ⟨rfl, I.turned (t' := s.toks) (fun b o hb e => eb b o hb e) f0 f1 f3 f4 f5⟩
  self := fun _ _ _ _ _ st h => wpAny_pyIter_tupleiter st h
theorem turn_range {P : Program} {w : World} {K : PySem.W.Frag} {tg : Expr} (it : Addr) (lo : Int) (n : Nat) : Turn P w K tg (Itr lo n) [it] it (fun i h => IsRangeIter h it (lo + (i : Nat) * 1) ((n : Int) - (i : Nat)) 1) where
  mem := by simp
  obj := fun i h st b hb => by
    have e : b = it := by simpa using hb
    subst e
    exact ⟨_, st, fun v z => by
      have z' : Data.fields _ = Data.cell v := z
      cases z'⟩
  keep := fun i h h' st k => k it (by simp) _ st
  item := by
    intro X hP hw hK hc i pins s σ H E I hf st hg
    subst hP hw hK
    obtain ⟨f0, f1, f2, f3, f4, f5⟩ := hf it (by simp)
    have W := Walks.range (prog := X.prog) (w := X.w) (I.ok.hd hc) it lo 1 n
    refine W.item i s _ _ hg st fun v h' tk hv st' kk => ?_
    obtain ⟨t, rfl⟩ := hv
    have I1 : Inv X pins σ H { s with heap := h', toks := tk } := I.turned (fun b o hb e => kk b o (by simpa using hb) e) f0 f1 f3 f4 f5
    refine ⟨_, rfl, go_of (s := { s with heap := h', toks := tk }) (n := "range_iterator") st' rfl rfl (by decide) ⟨.int (lo + i), H, I1, ⟨t, ?_⟩, ⟨rfl, rfl⟩, st', fun b hb => (hf b hb).1⟩⟩
    rw [Int.mul_one]
  done := by
    intro X hP hw hK hc i pins s σ H E I hf st hg
    subst hP hw hK
    obtain ⟨f0, f1, f2, f3, f4, f5⟩ := hf it (by simp)
    exact wpAny_pyNext_range_end (I.ok.hd hc) st (by have : n ≤ i := hg; omega) fun h' eb => ⟨rfl, I.turned (t' := s.toks) (fun b o hb e => eb b o hb e) f0 f1 f3 f4 f5⟩
  self := fun _ _ _ _ _ st h => wpAny_pyIter_rangeiter st h
end L2
namespace L2
open PySem PySem.Spec PyProof.Rows
section
variable {X : Cx} {tg : Expr}
def iList (K : PySem.W.Frag) (tl : TE) : TI := fun σ H R => tl σ H fun x H1 => ∃ a, x = .ref a ∧ (∃ xs, SqL K H1 a xs) ∧ R (Itl K a) H1
def iTup (K : PySem.W.Frag) (tl : TE) : TI := fun σ H R => tl σ H fun x H1 => ∃ a, x = .ref a ∧ (∃ xs, SqT K H1 a xs) ∧ R (Itt K a) H1
theorem pi_list {l : Expr} {tl : TE} (hl : PE X l tl) : PI X tg l (iList X.K tl) := by
  intro pins s σ H R I h
  refine thn (hl pins s σ H _ I h) fun v s1 ⟨x, H1, I1, r1, q1⟩ => ?_
  obtain ⟨a, e, ⟨xs, hq⟩, q⟩ := q1
  subst e
  cases r1
  obtain ⟨its, rv, p, hz⟩ := I1.list hq
  refine wpAny_pyIter_list p.isList ?_
  refine ⟨s1.heap.objs.size, [s1.heap.objs.size], _, _, H1, rfl, I1.kept (t' := s1.toks) fun b o e => Heap.get?_push_of_some _ e, turn_list a _, ⟨_, Heap.get?_push_size _ rfl, rfl, rfl⟩, fun b hb => ?_, q⟩
  have e : b = s1.heap.objs.size := by simpa using hb
  subst e
  exact I1.fpOk (Nat.le_refl _) (I1.hok.fresh (Nat.le_refl _))
theorem pi_tup {l : Expr} {tl : TE} (hl : PE X l tl) : PI X tg l (iTup X.K tl) := by
  intro pins s σ H R I h
  refine thn (hl pins s σ H _ I h) fun v s1 ⟨x, H1, I1, r1, q1⟩ => ?_
  obtain ⟨a, e, ⟨xs, hq⟩, q⟩ := q1
  subst e
  cases r1
  obtain ⟨its, rv, p, hz⟩ := I1.tuple hq
  refine wpAny_pyIter_tuple (show s1.heap.IsTuple a its.toArray from p) ?_
  refine ⟨s1.heap.objs.size, [s1.heap.objs.size], _, _, H1, rfl, I1.kept (t' := s1.toks) fun b o e => Heap.get?_push_of_some _ e, turn_tuple a _, ⟨_, Heap.get?_push_size _ rfl, rfl, rfl⟩, fun b hb => ?_, q⟩
  have e : b = s1.heap.objs.size := by simpa using hb
  subst e
  exact I1.fpOk (Nat.le_refl _) (I1.hok.fresh (Nat.le_refl _))
theorem range_it {pins : List (Addr × Obj)} {σ : St} {H : Hp} {s : Shared} {R : It → Hp → Prop} {E : Value → Shared → Prop} {lo hi : Int} {t u v : Tok} {tk : Nat} (I : Inv X pins σ H s) (h1 : -(2 ^ 62) ≤ lo) (h2 : lo < 2 ^ 62) (h3 : -(2 ^ 62) ≤ hi) (h4 : hi < 2 ^ 62)
    (q : R (Itr lo (hi - lo).toNat) H) : wpAny (model X.prog X.w) X.A (pyIter (.ref s.heap.objs.size)) (PIE X pins σ tg R) E { s with heap := s.heap.push { cls := .type "range", data := .fields #[.int lo t, .int hi u, .int 1 v] }, toks := tk } := by
  refine wpAny_pyIter_range (IsRange.new ..) (small_one h1 h2 h3 h4) ?_
  have I1 : Inv X pins σ H { s with heap := s.heap.push { cls := .type "range", data := .fields #[.int lo t, .int hi u, .int 1 v] }, toks := tk } := I.kept fun b o e => Heap.get?_push_of_some _ e
  refine ⟨(s.heap.push { cls := .type "range", data := .fields #[.int lo t, .int hi u, .int 1 v] }).objs.size, [(s.heap.push { cls := .type "range", data := .fields #[.int lo t, .int hi u, .int 1 v] }).objs.size], _, _, H, rfl,
    I1.kept (t' := tk) fun b o e => Heap.get?_push_of_some _ e, turn_range _ lo (hi - lo).toNat, ?_, fun b hb => ?_, q⟩
  · have e1 : lo + ((0 : Nat) : Int) * 1 = lo := by simp
    have e2 : (((hi - lo).toNat : Nat) : Int) - ((0 : Nat) : Int) = Builtin.Range.rangeSize lo hi 1 := by rw [rangeSize_one]; split <;> omega
    show IsRangeIter _ _ (lo + ((0 : Nat) : Int) * 1) ((((hi - lo).toNat : Nat) : Int) - ((0 : Nat) : Int)) 1
    rw [e1, e2]
    exact Heap.get?_push_size _ rfl
  · have e : b = (s.heap.push { cls := .type "range", data := .fields #[.int lo t, .int hi u, .int 1 v] }).objs.size := by simpa using hb
    subst e
    exact I1.fpOk (Nat.le_refl _) (I1.hok.fresh (Nat.le_refl _))
def iRng1 (ta : TA) : TI := fun σ H R => ta σ H fun vs H1 => ∃ j : Int, vs = [.int j] ∧ -(2 ^ 62) ≤ j ∧ j < 2 ^ 62 ∧ R (Itr 0 j.toNat) H1
theorem pi_range1 {a : Expr} {ta : TA} {p pos : Pos} (hg : Gl X "range") (hm : X.mg "range" = none) (ha : PA X [a] ta) (hs : starEach [a] X.env = [(false, eval a X.env)] := by rfl) : PI X tg (.Call (.Name "range" p) [a] [] pos) (iRng1 ta) := by
  intro pins s σ H R I h
  refine Call_ (ld_blt I hg hm boot_range (PyProof.Rows.callWith_type1 (thn (ha pos pins s σ H _ I h) fun us s1 ⟨vs, H1, I1, r1, q1⟩ => ?_) hs rfl))
  obtain ⟨j, e, q1, q2, q⟩ := q1
  subst e
  cases r1 with
  | cons r rr =>
    cases rr
    obtain ⟨t, rfl⟩ := r
    exact call_range_1 (range_it I1 (by omega) (by omega) q1 q2 (by simpa using q))
def tFor (wi : TI) (g : TG) (tb : TS) : TS := fun D σ H => wi σ H fun J H1 => ∃ W : Nat → Nat → St → Hp → Prop, (∃ m, W 0 m σ H1) ∧ ∀ i m σ H, W i m σ H →
  (J.stop i H ∧ D.nx σ H) ∨ (J.go i H ∧ ∃ N : St → Hp → Prop, (∀ σ' H', N σ' H' → ∃ m', m' < m ∧ W (i + 1) m' σ' H') ∧ ∀ x H', J.yld i H x H' → g x σ H' fun σ2 H2 => tb { D with nx := N, ct := N, bk := D.nx } σ2 H2)
def pinsAt (fp : List Addr) (h : Heap) : List (Addr × Obj) := fp.filterMap fun b => (h.get? b).map fun o => (b, o)
theorem mem_pinsAt {fp : List Addr} {h : Heap} {b : Addr} {o : Obj} (hb : b ∈ fp) (e : h.get? b = some o) : (b, o) ∈ pinsAt fp h := List.mem_filterMap.mpr ⟨b, hb, by rw [e]; rfl⟩
theorem of_pinsAt {fp : List Addr} {h : Heap} {p : Addr × Obj} (hp : p ∈ pinsAt fp h) : p.1 ∈ fp ∧ h.get? p.1 = some p.2 := by
  obtain ⟨b, hb, e⟩ := List.mem_filterMap.mp hp
  cases q : h.get? b with
  | none => rw [q] at e; cases e
  | some o =>
    rw [q] at e
    have e' : (b, o) = p := Option.some.inj e
    subst e'
    exact ⟨hb, q⟩
theorem Inv.pinned {pins : List (Addr × Obj)} {σ : St} {H : Hp} {s : Shared} {fp : List Addr} (I : Inv X pins σ H s) (hf : ∀ b ∈ fp, FpOk X pins H b) (ho : ∀ b ∈ fp, ∃ o, s.heap.get? b = some o ∧ ∀ v, o.data ≠ .cell v) : Inv X (pins ++ pinsAt fp s.heap) σ H s :=
  I.pins_of fun p hp => (List.mem_append.mp hp).elim (fun z => I.pin p (List.mem_append_right _ z)) fun z => by
    obtain ⟨hb, e⟩ := of_pinsAt z
    obtain ⟨f0, f1, f2, _⟩ := hf p.1 hb
    obtain ⟨o, e', d⟩ := ho p.1 hb
    rw [e] at e'; cases e'
    exact ⟨e, f0, f1, f2, d⟩
theorem Inv.unpinned {pins pl : List (Addr × Obj)} {σ : St} {H : Hp} {s : Shared} (I : Inv X (pins ++ pl) σ H s) : Inv X pins σ H s := I.pins_of fun p hp => I.pin p (List.mem_append_right _ (List.mem_append_left _ hp))
theorem ps_for {iter : Expr} {body : List Stmt} {wi : TI} {g : TG} {tb : TS} {pos : Pos} (hp : PassesOwn (model X.prog X.w) X.A X.env X.xe) (hc : X.calm = true) (hi : PI X tg iter wi) (hg : PG X tg g) (hb : PSs X body tb)
    (hs : ∀ x, foldedSetIterable iter X.env x = pure x := by intro _; rfl) : PS X (.For tg iter body [] pos) (tFor wi g tb) := by
  intro pins s σ H D I h
  refine wpAny_For (thn (hi pins s σ H _ I h) fun v s1 h1 => thn h1 fun itv s2 h2 => ?_) hs
  obtain ⟨it, fp, tn, J, H2, e, I2, T, st2, f2, W, ⟨m0, w0⟩, turn⟩ := h2
  subst e
  have stat : ∀ {H' : Hp}, (∀ b ∈ fp, H' b = none) → ∀ b ∈ fp, FpOk X pins H' b := fun hn b hb => ⟨hn b hb, (f2 b hb).2⟩
  refine codeAny_forLoop_any (fun n s' => ∃ i σ' H', Inv X pins σ' H' s' ∧ tn i s'.heap ∧ (∀ b ∈ fp, H' b = none) ∧ W i n σ' H') ?_ m0 ⟨0, σ, H2, I2, st2, fun b hb => (f2 b hb).1, w0⟩
  rintro n s3 ⟨i, σ3, H3, I3, st3, fr3, w3⟩
  rcases turn i n σ3 H3 w3 with ⟨stop, qn⟩ | ⟨go, N, hN, step⟩
  · refine wpAny_passesOwn hp (thn (T.done X rfl rfl rfl hc i pins s3 σ3 H3 X.xe I3 (stat fr3) st3 stop) fun r s4 ⟨hr, I4⟩ => ?_)
    subst hr
    exact wpAny_execs_nil ⟨σ3, H3, I4, qn⟩
  · refine wpAny_passesOwn hp (thn (T.item X rfl rfl rfl hc i pins s3 σ3 H3 X.xe I3 (stat fr3) st3 go) fun r s4 ⟨u, hr, h4⟩ => ?_)
    subst hr
    refine wpAny_passesOwn hp (thn h4 fun _ s5 ⟨x, H5, I5, r5, y5, st5, fr5⟩ => ?_)
    have I5' := I5.pinned (stat fr5) (T.obj _ _ st5)
    refine wpAny_passesOwn hp (thn (hg _ s5 σ3 H5 x u _ I5' r5 (step x H5 y5)) fun _ s6 ⟨σ6, H6, I6, q6⟩ => ?_)
    refine wpAny_passesOwn hp (thn (hb _ s6 σ6 H6 _ I6 q6) fun f s7 q7 => ?_)
    have again : ∀ {σ7 : St} {H7 : Hp}, Inv X (pins ++ pinsAt fp s5.heap) σ7 H7 s7 → N σ7 H7 → ∃ m, m < n ∧ ∃ i σ' H', Inv X pins σ' H' s7 ∧ tn i s7.heap ∧ (∀ b ∈ fp, H' b = none) ∧ W i m σ' H' := fun {σ7 H7} I7 n7 => by
      obtain ⟨m', hm, w7⟩ := hN σ7 H7 n7
      refine ⟨m', hm, i + 1, σ7, H7, I7.unpinned, T.keep _ _ _ st5 fun b hb o e => (I7.pin (b, o) (List.mem_append_right _ (List.mem_append_right _ (mem_pinsAt hb e)))).1, fun b hb => ?_, w7⟩
      obtain ⟨o, e, d⟩ := T.obj _ _ st5 b hb
      exact (I7.pin (b, o) (List.mem_append_right _ (List.mem_append_right _ (mem_pinsAt hb e)))).2.1
    cases f with
    | next => obtain ⟨σ7, H7, I7, n7⟩ := q7; exact again I7 n7
    | cont => obtain ⟨σ7, H7, I7, n7⟩ := q7; exact again I7 n7
    | brk => obtain ⟨σ7, H7, I7, q7⟩ := q7; exact ⟨σ7, H7, I7.unpinned, q7⟩
    | ret v => obtain ⟨x7, σ7, H7, I7, r7, q7⟩ := q7; exact ⟨x7, σ7, H7, I7.unpinned, r7, q7⟩
end
end L2
namespace L2
open PySem PySem.Spec PyProof.Rows
abbrev R2 := V → V → Hp → VK → Prop
def OpR (X : Cx) (f : Value → Value → Sem Value) (r : R2) : Prop :=
  ∀ (pins : List (Addr × Obj)) (s : Shared) (σ : St) (H : Hp) (x y : V) (v u : Value) (Q : VK), Inv X pins σ H s → RelV x v → RelV y u → r x y H Q →
    wpAny (model X.prog X.w) X.A (f v u) (EP X pins σ Q) X.xe s
def UnR (X : Cx) (f : Value → Sem Value) (r : V → Hp → VK → Prop) : Prop :=
  ∀ (pins : List (Addr × Obj)) (s : Shared) (σ : St) (H : Hp) (x : V) (v : Value) (Q : VK), Inv X pins σ H s → RelV x v → r x H Q →
    wpAny (model X.prog X.w) X.A (f v) (EP X pins σ Q) X.xe s
def CallR (X : Cx) (f : Value) (r : List V → Hp → VK → Prop) : Prop :=
  ∀ (pins : List (Addr × Obj)) (s : Shared) (σ : St) (H : Hp) (xs : List V) (us : List Value) (Q : VK), Inv X pins σ H s → Vals xs us → r xs H Q →
    wpAny (model X.prog X.w) X.A (call f us) (EP X pins σ Q) X.xe s
def TruR (X : Cx) (r : V → Hp → (Bool → Hp → Prop) → Prop) : Prop :=
  ∀ (pins : List (Addr × Obj)) (s : Shared) (σ : St) (H : Hp) (x : V) (v : Value) (Q : Bool → Hp → Prop), Inv X pins σ H s → RelV x v → r x H Q →
    wpAny (model X.prog X.w) X.A (truthy v) (TP X pins σ Q) X.xe s
def tOp (r : R2) (ta tb : TE) : TE := fun σ H Q => ta σ H fun x H1 => tb σ H1 fun y H2 => r x y H2 Q
def tUn (r : V → Hp → VK → Prop) (ta : TE) : TE := fun σ H Q => ta σ H fun x H1 => r x H1 Q
def rI (C : Int → Int → Prop) (g : Int → Int → V) : R2 := fun x y H Q => ∃ i j, x = .int i ∧ y = .int j ∧ C i j ∧ Q (g i j) H
def rI0 (g : Int → Int → V) : R2 := fun x y H Q => ∃ i j, x = .int i ∧ y = .int j ∧ Q (g i j) H
def rU (g : Int → V) : V → Hp → VK → Prop := fun x H Q => ∃ i, x = .int i ∧ Q (g i) H
section
variable {X : Cx} {a b c : Expr} {ta tb tc : TE} {pos : Pos}
theorem binT (ha : PE X a ta) (hb : PE X b tb) {pins : List (Addr × Obj)} {s : Shared} {σ : St} {H : Hp} {R : V → V → Hp → Prop} (I : Inv X pins σ H s)
    (h : ta σ H fun x H1 => tb σ H1 fun y H2 => R x y H2) {Q : Value → Shared → Prop} {f : Value → Value → Sem Value}
    (hf : ∀ v u s2 x y H2, Inv X pins σ H2 s2 → RelV x v → RelV y u → R x y H2 → wpAny (model X.prog X.w) X.A (f v u) Q X.xe s2) :
    wpAny (model X.prog X.w) X.A (eval a X.env) (fun v s₁ => wpAny (model X.prog X.w) X.A (eval b X.env) (fun u s₂ => wpAny (model X.prog X.w) X.A (f v u) Q X.xe s₂) X.xe s₁) X.xe s := by
  refine thn (ha pins s σ H _ I h) fun v s1 ⟨x, H1, I1, r1, q1⟩ => ?_
  refine thn (hb pins s1 σ H1 _ I1 q1) fun u s2 ⟨y, H2, I2, r2, q2⟩ => ?_
  exact hf v u s2 x y H2 I2 r1 r2 q2
theorem pe_op {op : Operator} {r : R2} (ho : OpR X (binaryOp op) r) (ha : PE X a ta) (hb : PE X b tb) : PE X (.BinOp a op b pos) (tOp r ta tb) := by
  intro pins s σ H Q I h
  exact wpAny_BinOp (binT ha hb I h fun v u s2 x y H2 I2 rx ry q => ho pins s2 σ H2 x y v u Q I2 rx ry q)
theorem pe_un {op : UnaryOp} {r : V → Hp → VK → Prop} (ho : UnR X (unaryOp op) r) (ha : PE X a ta) : PE X (.UnaryOp op a pos) (tUn r ta) := by
  intro pins s σ H Q I h
  exact UnaryOp_ (thn (ha pins s σ H _ I h) fun v s1 ⟨x, H1, I1, r1, q1⟩ => ho pins s1 σ H1 x v Q I1 r1 q1)
theorem opI {f : Value → Value → Sem Value} {C : Int → Int → Prop} {g : Int → Int → Int}
    (rule : ∀ (i j : Int) (t u : Tok) (s : Shared) (Q : Value → Shared → Prop) (E : Value → Shared → Prop), C i j → Q (.int (g i j) s.toks) { s with toks := s.toks + 1 } → wpAny (model X.prog X.w) X.A (f (.int i t) (.int j u)) Q E s) :
    OpR X f (rI C fun i j => .int (g i j)) := by
  intro pins s σ H x y v u Q I rx ry h
  obtain ⟨i, j, rfl, rfl, hc, q⟩ := h
  obtain ⟨t, rfl⟩ := rx
  obtain ⟨t', rfl⟩ := ry
  exact rule i j t t' s _ _ hc ⟨.int (g i j), H, I.tok _, ⟨_, rfl⟩, q⟩
theorem opI0 {f : Value → Value → Sem Value} {g : Int → Int → Int}
    (rule : ∀ (i j : Int) (t u : Tok) (s : Shared) (Q : Value → Shared → Prop) (E : Value → Shared → Prop), Q (.int (g i j) s.toks) { s with toks := s.toks + 1 } → wpAny (model X.prog X.w) X.A (f (.int i t) (.int j u)) Q E s) :
    OpR X f (rI0 fun i j => .int (g i j)) := by
  intro pins s σ H x y v u Q I rx ry h
  obtain ⟨i, j, rfl, rfl, q⟩ := h
  obtain ⟨t, rfl⟩ := rx
  obtain ⟨t', rfl⟩ := ry
  exact rule i j t t' s _ _ ⟨.int (g i j), H, I.tok _, ⟨_, rfl⟩, q⟩
theorem opB0 {f : Value → Value → Sem Value} {g : Int → Int → Bool}
    (rule : ∀ (i j : Int) (t u : Tok) (s : Shared) (Q : Value → Shared → Prop) (E : Value → Shared → Prop), Q (.bool (g i j)) s → wpAny (model X.prog X.w) X.A (f (.int i t) (.int j u)) Q E s) :
    OpR X f (rI0 fun i j => .bl (g i j)) := by
  intro pins s σ H x y v u Q I rx ry h
  obtain ⟨i, j, rfl, rfl, q⟩ := h
  obtain ⟨t, rfl⟩ := rx
  obtain ⟨t', rfl⟩ := ry
  exact rule i j t t' s _ _ ⟨.bl (g i j), H, I, rfl, q⟩
def CPow (i j : Int) : Prop := 0 ≤ j ∧ j ≤ 1000000 ∧ i.natAbs < 2 ^ 64
def CMul (i j : Int) : Prop := (-(2 ^ 64) < i ∧ i < 2 ^ 64) ∨ (-(2 ^ 64) < j ∧ j < 2 ^ 64)
theorem CMul.ok {i j : Int} (h : CMul i j) : IntMulOk i j := by
  rcases h with ⟨h1, h2⟩ | ⟨h1, h2⟩
  · exact .of_left (intBits_le_64 h1 h2)
  · exact .of_right (intBits_le_64 h1 h2)
theorem op_add : OpR X (binaryOp .Add) (rI0 fun i j => .int (i + j)) := opI0 fun _ _ _ _ _ _ _ q => add_int q
theorem op_sub : OpR X (binaryOp .Sub) (rI0 fun i j => .int (i - j)) := opI0 fun _ _ _ _ _ _ _ q => sub_int q
theorem op_mul : OpR X (binaryOp .Mult) (rI CMul fun i j => .int (i * j)) := opI fun _ _ _ _ _ _ _ hc q => mul_int q hc.ok
theorem op_mod : OpR X (binaryOp .Mod) (rI (fun _ j => 0 < j) fun i j => .int (i % j)) := opI fun i j _ _ _ _ _ hc q => by
  have h1 : (0 : Int) < j := hc
  exact mod_int' (by omega) (by rw [Int.fmod_eq_emod_of_nonneg i (by omega)]; exact q)
theorem op_pow : OpR X (binaryOp .Pow) (rI CPow fun i j => .int (i ^ j.toNat)) := opI fun _ _ _ _ _ _ _ hc q => pow_int_small hc.1 hc.2.1 hc.2.2 q
theorem unI {f : Value → Sem Value} {g : Int → Int}
    (rule : ∀ (i : Int) (t : Tok) (s : Shared) (Q : Value → Shared → Prop) (E : Value → Shared → Prop), Q (.int (g i) s.toks) { s with toks := s.toks + 1 } → wpAny (model X.prog X.w) X.A (f (.int i t)) Q E s) :
    UnR X f (rU fun i => .int (g i)) := by
  intro pins s σ H x v Q I rx h
  obtain ⟨i, rfl, q⟩ := h
  obtain ⟨t, rfl⟩ := rx
  exact rule i t s _ _ ⟨.int (g i), H, I.tok _, ⟨_, rfl⟩, q⟩
theorem un_neg : UnR X (unaryOp .USub) (rU fun i => .int (-i)) := unI fun _ _ _ _ _ q => neg_int q
end
section
variable {X : Cx} {a b c : Expr} {ta tb tc : TE} {pos : Pos}
theorem fin_bl {pins : List (Addr × Obj)} {σ : St} {H : Hp} {s : Shared} {Q : VK} {k k' : Bool} (I : Inv X pins σ H s) (q : Q (.bl k) H) (e : k = k') : EP X pins σ Q (.bool k') s := by
  subst e
  exact ⟨.bl k, H, I, rfl, q⟩
theorem op_lt : OpR X (compareOp .Lt) (rI0 fun i j => .bl (decide (i < j))) := opB0 fun _ _ _ _ _ _ _ q => lt_int q
theorem op_le : OpR X (compareOp .LtE) (rI0 fun i j => .bl (decide (i ≤ j))) := opB0 fun _ _ _ _ _ _ _ q => le_int q
theorem op_gt : OpR X (compareOp .Gt) (rI0 fun i j => .bl (decide (j < i))) := opB0 fun _ _ _ _ _ _ _ q => gt_int q
theorem op_ge : OpR X (compareOp .GtE) (rI0 fun i j => .bl (decide (j ≤ i))) := opB0 fun _ _ _ _ _ _ _ q => ge_int q
theorem op_notN : OpR X (compareOp .IsNot) (fun x y H Q => y = .non ∧ Q (.bl (!decide (x = .non))) H) := by
  intro pins s σ H x y v u Q I rx ry h
  obtain ⟨rfl, q⟩ := h
  cases ry
  refine isnot_none_gen (fin_bl I q ?_)
  cases x <;> first
    | (cases rx; rfl)
    | (obtain ⟨t, rfl⟩ := rx; rfl)
theorem OpR.or {f : Value → Value → Sem Value} {r r' : R2} (h : OpR X f r) (h' : OpR X f r') : OpR X f (fun x y H Q => r x y H Q ∨ r' x y H Q) := by
  intro pins s σ H x y v u Q I rx ry q
  rcases q with q | q
  · exact h pins s σ H x y v u Q I rx ry q
  · exact h' pins s σ H x y v u Q I rx ry q
theorem nomark (b : Expr) {op : CmpOp} (h : op ≠ .In := by decide) (h2 : op ≠ .NotIn := by decide) : behindInMarks op b = false := by
  have e1 : (op == CmpOp.In) = false := by cases op <;> first | rfl | exact absurd rfl h
  have e2 : (op == CmpOp.NotIn) = false := by cases op <;> first | rfl | exact absurd rfl h2
  cases b <;> simp [behindInMarks, e1, e2]
theorem pe_cmpR {op : CmpOp} {r : R2} (ho : OpR X (compareOp op) r) (ha : PE X a ta) (hb : PE X b tb) (hm : behindInMarks op b = false) : PE X (.Compare a [op] [b] pos) (tOp r ta tb) := by
  intro pins s σ H Q I h
  exact wpAny_Compare1 (binT ha hb I h fun v u s2 x y H2 I2 rx ry q => ho pins s2 σ H2 x y v u Q I2 rx ry q) hm
def tTest (t : TE) : TT := fun σ H Q => t σ H fun x H' => ∃ k, x = .bl k ∧ Q k H'
theorem pt_cmpR {op : CmpOp} {r : R2} (ho : OpR X (compareOp op) r) (ha : PE X a ta) (hb : PE X b tb) (hm : behindInMarks op b = false) : PT X (.Compare a [op] [b] pos) (tTest (tOp r ta tb)) := by
  intro pins s σ H Q I h
  refine wpAny_isTrue_Compare1 (thn (ha pins s σ H _ I h) fun v s1 ⟨x, H1, I1, r1, q1⟩ => thn (hb pins s1 σ H1 _ I1 q1) fun u s2 ⟨y, H2, I2, r2, q2⟩ =>
    thn (ho pins s2 σ H2 x y v u _ I2 r1 r2 q2) fun c s3 ⟨z, H3, I3, r3, k, e, q3⟩ => ?_) hm
  subst e
  cases r3
  exact wpAny_truthy_bool ⟨H3, I3, q3⟩
def tChain (r r' : R2) (ta tb tc : TE) : TE := fun σ H Q => ta σ H fun x H1 => tb σ H1 fun y H2 => r x y H2 fun z H3 => ∃ k, z = .bl k ∧
  (if k = true then tc σ H3 fun w' H4 => r' y w' H4 Q else Q (.bl false) H3)
theorem pe_chain {op op' : CmpOp} {r r' : R2} (ho : OpR X (compareOp op) r) (ho' : OpR X (compareOp op') r') (ha : PE X a ta) (hb : PE X b tb) (hc : PE X c tc)
    (hm : lastMarks [op, op'] [b, c] = false := by with_unfolding_all rfl) : PE X (.Compare a [op, op'] [b, c] pos) (tChain r r' ta tb tc) := by
  intro pins s σ H Q I h
  refine Compare_chain (thn (ha pins s σ H _ I h) fun v s1 ⟨x, H1, I1, r1, q1⟩ => chain_link (thn (hb pins s1 σ H1 _ I1 q1) fun u s2 ⟨y, H2, I2, r2, q2⟩ =>
    thn (ho pins s2 σ H2 x y v u _ I2 r1 r2 q2) fun d s3 ⟨z, H3, I3, r3, k, e, q3⟩ => ?_)) hm
  subst e
  cases r3
  refine wpAny_truthy_bool ?_
  cases k with
  | false => exact ite_ff ⟨.bl false, H3, I3, rfl, q3⟩
  | true => exact ite_tt (chain_last (thn (hc pins s3 σ H3 _ I3 q3) fun w' s4 ⟨z', H4, I4, r4, q4⟩ => ho' pins s4 σ H4 y z' u w' Q I4 r2 r4 q4))
theorem pt_chain {op op' : CmpOp} {r r' : R2} (ho : OpR X (compareOp op) r) (ho' : OpR X (compareOp op') r') (ha : PE X a ta) (hb : PE X b tb) (hc : PE X c tc)
    (hm : lastMarks [op, op'] [b, c] = false := by with_unfolding_all rfl) : PT X (.Compare a [op, op'] [b, c] pos) (tTest (tChain r r' ta tb tc)) := by
  intro pins s σ H Q I h
  refine isTrue_chain (thn (ha pins s σ H _ I h) fun v s1 ⟨x, H1, I1, r1, q1⟩ => test_link (thn (hb pins s1 σ H1 _ I1 q1) fun u s2 ⟨y, H2, I2, r2, q2⟩ =>
    thn (ho pins s2 σ H2 x y v u _ I2 r1 r2 q2) fun d s3 ⟨z, H3, I3, r3, k, e, q3⟩ => ?_)) hm
  subst e
  cases r3
  refine wpAny_truthy_bool ?_
  cases k with
  | false =>
    obtain ⟨k', e', q'⟩ := q3
    cases e'
    exact ite_ff ⟨H3, I3, q'⟩
  | true =>
    refine ite_tt (test_last (thn (hc pins s3 σ H3 _ I3 q3) fun w' s4 ⟨z', H4, I4, r4, q4⟩ => thn (ho' pins s4 σ H4 y z' u w' _ I4 r2 r4 q4) fun d' s5 ⟨z2, H5, I5, r5, k2, e2, q5⟩ => ?_))
    subst e2
    cases r5
    exact wpAny_truthy_bool ⟨H5, I5, q5⟩
def TruV (K : PySem.W.Frag) (x : V) (H : Hp) (k : Bool) : Prop :=
  match x with
  | .non => k = false
  | .bl b => k = b
  | .int i => k = (i != 0)
  | .str y => y.length ≤ sizeLine ∧ k = ((y.length : Int) != 0)
  | .byt y => y.size ≤ sizeLine ∧ k = ((y.size : Int) != 0)
  | .ref p => (∃ xs, SqL K H p xs ∧ k = !xs.isEmpty) ∨ (∃ xs, SqT K H p xs ∧ k = !xs.isEmpty) ∨ ∃ kvs, H p = some (.dK kvs) ∧ k = !kvs.isEmpty
  | _ => False
theorem isEmpty_kv {κ : Type} {kvs : List (κ × V)} {vs : List (κ × Value)} (r : KV kvs vs) : (!vs.isEmpty) = !kvs.isEmpty := by
  cases r <;> rfl
theorem isEmpty_of {xs : List V} {its : List Value} (r : Vals xs its) : (!its.toArray.isEmpty) = !xs.isEmpty := by
  cases r <;> simp
theorem line63 : (sizeLine : Nat) < 2 ^ 63 := by rw [sizeLine_eq]; decide
theorem tru_ok : TruR X (fun x H Q => ∃ k, TruV X.K x H k ∧ Q k H) := by
  intro pins s σ H x v Q I rx h
  obtain ⟨k, e, q⟩ := h
  have hl := line63
  have hs : sizeLine = 16777216 := sizeLine_eq
  cases x with
  | non =>
    cases rx
    have e' : k = false := e
    subst e'
    exact truthy_none ⟨H, I, q⟩
  | bl b =>
    cases rx
    have e' : k = b := e
    subst e'
    exact wpAny_truthy_bool ⟨H, I, q⟩
  | int i =>
    obtain ⟨t, rfl⟩ := rx
    have e' : k = (i != 0) := e
    subst e'
    exact PySem.P.truthy_int ⟨H, I, q⟩
  | str y =>
    obtain ⟨t, rfl⟩ := rx
    obtain ⟨hy, e'⟩ : y.length ≤ sizeLine ∧ k = ((y.length : Int) != 0) := e
    subst e'
    exact PySem.P.truthy_str (by omega) ⟨H, I.tok _, q⟩
  | byt y =>
    obtain ⟨t, rfl⟩ := rx
    obtain ⟨hy, e'⟩ : y.size ≤ sizeLine ∧ k = ((y.size : Int) != 0) := e
    subst e'
    exact PySem.W.truthy_bytes (by omega) ⟨H, I.tok _, q⟩
  | ref p =>
    cases rx
    have e' : (∃ xs, SqL X.K H p xs ∧ k = !xs.isEmpty) ∨ (∃ xs, SqT X.K H p xs ∧ k = !xs.isEmpty) ∨ ∃ kvs, H p = some (.dK kvs) ∧ k = !kvs.isEmpty := e
    rcases e' with ⟨xs, hx, e'⟩ | ⟨xs, hx, e'⟩ | ⟨kvs, hx, e'⟩
    · subst e'
      obtain ⟨its, r, pl, hz⟩ := I.list hx
      have hlen := r.length
      exact wpAny_truthy_list pl.isList (by simp only [List.size_toArray]; omega) ⟨H, I.tok _, by rw [isEmpty_of r]; exact q⟩
    · subst e'
      obtain ⟨its, r, pl, hz⟩ := I.tuple hx
      have hlen := r.length
      exact truthy_tuple pl (by simp only [List.size_toArray]; omega) ⟨H, I.tok _, by rw [isEmpty_of r]; exact q⟩
    · subst e'
      obtain ⟨hz, hS, vs, r, m⟩ : kvs.length ≤ sizeLine ∧ (p == sysModules) = false ∧ ∃ vs, KV kvs vs ∧ s.heap.DictOf (mixKind X.prog X.w) p vs := I.hok p _ hx
      have hlen : kvs.length = vs.length := Paired.length r
      exact wpAny_truthy_dict hS m (by omega) ⟨H, I.tok _, by rw [isEmpty_kv r]; exact q⟩
  | _ => exact (show False from e).elim
theorem pt_truth (ha : PE X a ta) (he : ∀ whole, isTrue a X.env whole = (do let v ← whole; standAt a.pos; holding [v] (truthy v))) :
    PT X a (fun σ H Q => ta σ H fun x H' => ∃ k, TruV X.K x H' k ∧ Q k H') := by
  intro pins s σ H Q I h
  exact isTrue_plain (thn (ha pins s σ H _ I h) fun v s1 ⟨x, H1, I1, r1, q1⟩ => tru_ok pins s1 σ H1 x v Q I1 r1 q1) (he _)
theorem op_add_str : OpR X (binaryOp .Add) (fun x y H Q => ∃ i j, x = .str i ∧ y = .str j ∧ i.length + j.length ≤ sizeLine ∧ Q (.str (i ++ j)) H) := by
  intro pins s σ H x y v u Q I rx ry h
  obtain ⟨i, j, rfl, rfl, hz, q⟩ := h
  obtain ⟨t, rfl⟩ := rx
  obtain ⟨t', rfl⟩ := ry
  exact add_str (fun t' tk => ⟨.str (i ++ j), H, I.tok _, ⟨_, rfl⟩, q⟩) hz
theorem vals1 {x : V} {us : List Value} (r : Vals [x] us) : ∃ u, us = [u] ∧ RelV x u := by
  cases r with
  | cons r1 r2 => cases r2; exact ⟨_, rfl, r1⟩
theorem vals2 {x y : V} {us : List Value} (r : Vals [x, y] us) : ∃ u w', us = [u, w'] ∧ RelV x u ∧ RelV y w' := by
  cases r with
  | cons r1 r2 =>
    cases r2 with
    | cons r3 r4 => cases r4; exact ⟨_, _, rfl, r1, r3⟩
theorem call_max2 (hc : X.calm = true) : CallR X (.builtin "max") (fun xs H Q => ∃ i j, xs = [.int i, .int j] ∧ Q (.int (if j > i then j else i)) H) := by
  intro pins s σ H xs us Q I r h
  obtain ⟨i, j, rfl, q⟩ := h
  obtain ⟨u, w', rfl, ⟨t, rfl⟩, ⟨t', rfl⟩⟩ := vals2 r
  refine max_two_ints (I.ok.hd hc) fun h' tk k => ⟨_, H, I.kept k, ?_, q⟩
  by_cases hj : j > i
  · rw [if_pos hj, if_pos hj]; exact ⟨_, rfl⟩
  · rw [if_neg hj, if_neg hj]; exact ⟨_, rfl⟩
theorem call_min2 (hc : X.calm = true) : CallR X (.builtin "min") (fun xs H Q => ∃ i j, xs = [.int i, .int j] ∧ Q (.int (if j < i then j else i)) H) := by
  intro pins s σ H xs us Q I r h
  obtain ⟨i, j, rfl, q⟩ := h
  obtain ⟨u, w', rfl, ⟨t, rfl⟩, ⟨t', rfl⟩⟩ := vals2 r
  refine min_two_ints (I.ok.hd hc) fun h' tk k => ⟨_, H, I.kept k, ?_, q⟩
  by_cases hj : j < i
  · rw [if_pos hj, if_pos hj]; exact ⟨_, rfl⟩
  · rw [if_neg hj, if_neg hj]; exact ⟨_, rfl⟩
theorem call_int1 : CallR X (.type "int") (fun xs H Q => (∃ i, xs = [.int i] ∧ Q (.int i) H) ∨ ∃ k, xs = [.bl k] ∧ Q (.int (if k then 1 else 0)) H) := by
  intro pins s σ H xs us Q I r h
  rcases h with ⟨i, rfl, q⟩ | ⟨k, rfl, q⟩
  · obtain ⟨u, rfl, t, rfl⟩ := vals1 r
    exact call_int_int ⟨.int i, H, I, ⟨_, rfl⟩, q⟩
  · obtain ⟨u, rfl, r1⟩ := vals1 r
    cases r1
    exact call_int_bool ⟨.int (if k then 1 else 0), H, I.tok _, ⟨_, rfl⟩, q⟩
def LenV (K : PySem.W.Frag) (x : V) (H : Hp) (n : Nat) : Prop :=
  match x with
  | .str y => y.length ≤ sizeLine ∧ n = y.length
  | .byt y => y.size ≤ sizeLine ∧ n = y.size
  | .ref p => (∃ xs, SqL K H p xs ∧ n = xs.length) ∨ ∃ xs, SqT K H p xs ∧ n = xs.length
  | _ => False
theorem call_len : CallR X (.builtin "len") (fun xs H Q => ∃ x n, xs = [x] ∧ LenV X.K x H n ∧ Q (.int n) H) := by
  intro pins s σ H xs us Q I r h
  obtain ⟨x, n, rfl, e, q⟩ := h
  obtain ⟨u, rfl, rx⟩ := vals1 r
  have hl := line63
  have hs : sizeLine = 16777216 := sizeLine_eq
  cases x with
  | str y =>
    obtain ⟨t, rfl⟩ := rx
    obtain ⟨hy, e'⟩ : y.length ≤ sizeLine ∧ n = y.length := e
    subst e'
    exact len_str (by omega) ⟨.int _, H, I.tok _, ⟨_, rfl⟩, q⟩
  | byt y =>
    obtain ⟨t, rfl⟩ := rx
    obtain ⟨hy, e'⟩ : y.size ≤ sizeLine ∧ n = y.size := e
    subst e'
    exact PySem.W.len_bytes (by omega) ⟨.int _, H, I.tok _, ⟨_, rfl⟩, q⟩
  | ref p =>
    cases rx
    have e' : (∃ xs, SqL X.K H p xs ∧ n = xs.length) ∨ ∃ xs, SqT X.K H p xs ∧ n = xs.length := e
    rcases e' with ⟨xs, hx, e'⟩ | ⟨xs, hx, e'⟩
    · subst e'
      obtain ⟨its, r', pl, hz⟩ := I.list hx
      have hlen := r'.length
      exact Calls.call_len_list pl.isList (by simp only [List.size_toArray]; omega) ⟨.int xs.length, H, I.tok _, ⟨_, by simp only [List.size_toArray]; rw [hlen]⟩, q⟩
    · subst e'
      obtain ⟨its, r', pl, hz⟩ := I.tuple hx
      have hlen := r'.length
      exact len_tuple pl (by simp only [List.size_toArray]; omega) ⟨.int xs.length, H, I.tok _, ⟨_, by simp only [List.size_toArray]; rw [hlen]⟩, q⟩
  | _ => exact (show False from e).elim
end
end L2
namespace L2
open PySem PySem.Spec PyProof.Rows
structure ObjM (h : Heap) (x dx C : Addr) (mA : Str → Option Value) : Prop where
  obj : h.get? x = some (PySem.W.instObj C dx)
  ns : h.Ns1 dx mA
  ne : dx ≠ x
theorem lookIn_ns {h : Heap} {dx : Addr} {mA : Str → Option Value} (n : h.Ns1 dx mA) : ∃ od, h.get? dx = some od ∧ ∀ name, PySem.W.lookIn name od = some (mA name) := by
  obtain ⟨o, es, ep, ho, hd, hk, _, hm⟩ := n
  refine ⟨o, ho, fun name => ?_⟩
  have e := hm name
  unfold nsFind findBy at e
  rw [← Array.find?_toList] at e
  unfold PySem.W.lookIn
  rw [hd]
  dsimp only
  split
  · rename_i y q
    rw [q] at e
    exact congrArg some e
  · rename_i q
    rw [q] at e
    have a : es.toList.any (·.refKey) = false := by
      rw [List.any_eq_false]
      intro y hy
      obtain ⟨z, t, hkey⟩ := hk y (Array.mem_toList_iff.mp hy)
      simp [DictEntry.refKey, hkey]
    have a' : ¬ es.toList.any (·.refKey) = true := by rw [a]; exact Bool.false_ne_true
    rw [if_neg a']
    exact congrArg some e
theorem ObjM.look {h : Heap} {x dx C : Addr} {mA : Str → Option Value} (I : ObjM h x dx C mA) : ∃ od, PySem.W.InstAt h x (PySem.W.instObj C dx) C (some od) ∧ ∀ name, PySem.W.lookIn name od = some (mA name) :=
  let ⟨od, ho, hl⟩ := lookIn_ns I.ns
  ⟨od, ⟨I.obj, rfl, rfl, ho⟩, hl⟩
section
variable {prog : Program} {w : World} {A : Around} {E : Value → Shared → Prop} {s : Shared} {K : PySem.W.Frag} {x dx C f : Addr} {mA : Str → Option Value} {name : Str} {v : Value}
end
section
variable {P : Program} {w : World} {H H' : Hp} {h h' : Heap} {a C dx : Addr} {fs fs' : List (Str × V)}
end
structure Cls (K : PySem.W.Frag) (C : Addr) : Prop where
  pg : PySem.W.plainGet K C Str.empty = true
  hd : PySem.W.hasDictIn K C = true
  po : PySem.W.plainOver K C = true
  sa : PySem.W.findIn K (.ref C) "__setattr__" = some (some (.builtin "object.__setattr__"))
theorem Cls.get {K : PySem.W.Frag} {C : Addr} (c : Cls K C) (f : Str) : PySem.W.plainGet K C f = true := c.pg
structure Con (K : PySem.W.Frag) (C : Addr) (f : Str) (v : V) (u : Value) : Prop where
  at_ : PySem.W.findIn K (.ref C) f = some (some u)
  rel : RelV v u
  get : PySem.W.specialIn K u "__get__" = some none
  cp : PySem.W.copiedNames.contains f = false
structure Meth (K : PySem.W.Frag) (C : Addr) (m : Str) (f : Addr) : Prop where
  at_ : PySem.W.findIn K (.ref C) m = some (some (.ref f))
  fn : PySem.W.isFn K (.ref f) = true
  kp : PySem.W.keepIn K (.ref f) = true
section
variable {X : Cx} {pins : List (Addr × Obj)} {σ : St} {H : Hp} {s : Shared} {a C dx : Addr} {fs : List (Str × V)} {f : Str} {v : V} {A : Around} {E : Value → Shared → Prop}
end
section
variable {X : Cx} {o e value : Expr} {f : Str} {pos pos' tpos : Pos} {ta tv : TE}
end
section
variable {X : Cx} {pins : List (Addr × Obj)} {σ : St} {H : Hp} {s : Shared} {A : Around} {E : Value → Shared → Prop} {Q : Value → Shared → Prop} {c : Value} {b : Bool}
inductive TyOf (K : PySem.W.Frag) (H : Hp) : V → Value → Prop where
  | non : TyOf K H .non (.type "NoneType")
  | bl (x : Bool) : TyOf K H (.bl x) (.type "bool")
  | int (i : Int) : TyOf K H (.int i) (.type "int")
  | str (x : Str) : TyOf K H (.str x) (.type "str")
  | flt (x : UInt64) : TyOf K H (.flt x) (.type "float")
  | lst {a : Addr} {xs : List V} (e : H a = some (.lst xs)) : TyOf K H (.ref a) (.type "list")
  | frz {a : Addr} {o : Obj} {xs : List V} (e : H a = some (.frz o (.lst xs))) : TyOf K H (.ref a) (.type "list")
  | tup {a : Addr} {xs : List V} (e : H a = some (.tup xs)) : TyOf K H (.ref a) (.type "tuple")
  | dK {a : Addr} {kvs : List (Key × V)} (e : H a = some (.dK kvs)) : TyOf K H (.ref a) (.type "dict")
  | dT {a : Addr} {kvs : List (List Key × V)} (e : H a = some (.dT kvs)) : TyOf K H (.ref a) (.type "dict")
  | ins {a C dx : Addr} {fs : List (Str × V)} (e : H a = some (.ins C dx fs)) (cl : Cls K C) (ha : PySem.W.findIn K (.ref C) "__class__" = some (some (.builtin "object.__class__")))
      (hn : PySem.W.specialIn K (.builtin "object.__class__") "__get__" = some (some (.builtin "getset_descriptor.__get__"))) (htk : PySem.W.takesIn K (.builtin "object.__class__") = some true)
      (hm : PySem.W.mroIn K C (.type "object") = some true) : TyOf K H (.ref a) (.ref C)
end
end L2
namespace L2
open PySem PySem.Spec PyProof.Rows
structure Room (k : Nat) (A : Around) : Prop where
  hd : A.handled = none
  dp : A.depth + 3 * k + 5 < recursionLimit
  un : A.units + 16 * k + 200 < cLine
theorem Room.mono {j k : Nat} {A : Around} (r : Room k A) (h : j ≤ k) : Room j A := ⟨r.hd, by have := r.dp; omega, by have := r.un; omega⟩
theorem Room.deeper {k : Nat} {A : Around} (r : Room (k + 1) A) (env : Env) : Room k (A.deeper env) :=
  ⟨r.hd, by have := r.dp; show A.depth + 1 + 3 * k + 5 < _; omega, by have := r.un; show A.units + 3 + 16 * k + 200 < _; omega⟩
theorem Room.in1 {k : Nat} {A : Around} (r : Room (k + 1) A) : Room k A.in1 :=
  ⟨r.hd, by have := r.dp; show A.depth + 3 * k + 5 < _; omega, by have := r.un; show A.units + 1 + 16 * k + 200 < _; omega⟩
theorem make_depth {A : Around} {C : Addr} {us : List Value} {kw : List (Str × Value)} : (A.under (.builtin "type.__call__" ⟨.ref C :: us, kw⟩)).depth = A.depth + 1 := by
  first | rfl | simp [Around.under, Code.weight, Code.isCreation, Code.isGuard, Code.isCaller, Code.frames, Code.isFrame, guardIds]
theorem make_units {A : Around} {C : Addr} {us : List Value} {kw : List (Str × Value)} : (A.under (.builtin "type.__call__" ⟨.ref C :: us, kw⟩)).units = A.units + 1 := by
  first | rfl | simp [Around.under, Code.cUnits, Code.frames, Code.isFrame]
theorem Room.make {k : Nat} {A : Around} (r : Room (k + 1) A) (C : Addr) (us : List Value) (kw : List (Str × Value)) : Room k (A.under (.builtin "type.__call__" ⟨.ref C :: us, kw⟩)) :=
  ⟨r.hd, by have := r.dp; rw [make_depth]; omega, by have := r.un; rw [make_units]; omega⟩
theorem Room.depth {k : Nat} {A : Around} (r : Room k A) : A.depth < recursionLimit := by have := r.dp; omega
theorem Room.units {k : Nat} {A : Around} (r : Room k A) : A.units + 64 < cLine := by have := r.un; omega
def tNil : TA := fun _ H Q => Q [] H
def tCons (ta : TE) (tr : TA) : TA := fun σ H Q => ta σ H fun x H1 => tr σ H1 fun xs H2 => Q (x :: xs) H2
section
variable {X : Cx} {e : Expr} {es : List Expr} {te : TE} {t : TA} {pos : Pos}
theorem pa_nil : PA X [] tNil := fun _ _ _ _ H Q I h => Calls.spliced_nil ⟨[], H, I, .nil, h⟩
theorem pa_cons (ha : PE X e te) (hr : PA X es t) (hs : starEach (e :: es) X.env = (false, eval e X.env) :: starEach es X.env := by rfl) : PA X (e :: es) (tCons te t) := by
  intro pos pins s σ H Q I h
  rw [hs]
  show wpAny _ _ (spliced ((false, eval e X.env) :: backTo pos (starEach es X.env))) _ _ s
  refine Calls.spliced_cons (thn (ha pins s σ H _ I h) fun u s1 ⟨x, H1, I1, r1, q1⟩ => ?_)
  exact thn (hr pos pins s1 σ H1 _ I1 q1) fun us s2 ⟨xs, H2, I2, r2, q2⟩ => ⟨x :: xs, H2, I2, .cons r1 r2, q2⟩
def tTup (t : TA) : TE := fun σ H Q => t σ H fun xs H1 => xs.length ≤ sizeLine ∧ ∀ p, H1 p = none → Q (.ref p) (upd H1 p (.tup xs))
def tLst (t : TA) : TE := fun σ H Q => t σ H fun xs H1 => xs.length ≤ sizeLine ∧ ∀ p, H1 p = none → Q (.ref p) (upd H1 p (.lst xs))
theorem pe_tup {x1} (h : PA X es t) : PE X (.Tuple es x1 pos) (tTup t) := by
  intro pins s σ H Q I hq
  refine wpAny_Tuple_spliced (thn (h pos pins s σ H _ I hq) fun us s1 ⟨xs, H1, I1, r, z, q⟩ => ⟨by rw [← r.length]; exact z, ?_⟩)
  have hf : H1 s1.heap.objs.size = none := I1.hok.fresh (Nat.le_refl _)
  refine ⟨.ref s1.heap.objs.size, upd H1 s1.heap.objs.size (.tup xs), I1.laid (t' := s1.toks) (fun b u e => Heap.get?_push_of_some _ e) (Nat.le_refl _) ?_, rfl, q _ hf⟩
  exact ⟨z, us, r, ⟨_, Heap.get?_push_size _ rfl, rfl, _, rfl⟩⟩
theorem pe_lst (h : PA X es t) : PE X (.List es pos) (tLst t) := by
  intro pins s σ H Q I hq
  refine wpAny_List_spliced (thn (h pos pins s σ H _ I hq) fun us s1 ⟨xs, H1, I1, r, z, q⟩ => ⟨by rw [← r.length]; exact z, ?_⟩)
  have hf : H1 s1.heap.objs.size = none := I1.hok.fresh (Nat.le_refl _)
  refine ⟨.ref s1.heap.objs.size, upd H1 s1.heap.objs.size (.lst xs), I1.laid (t' := s1.toks) (fun b u e => Heap.get?_push_of_some _ e) (Nat.le_refl _) ?_, rfl, q _ hf⟩
  exact ⟨z, us, 0, r, Heap.get?_push_size _ rfl⟩
end
abbrev Sp := List V → Hp → VK → XK → Prop
abbrev CXT := List Env → Hp → Shared → XK → Value → Shared → Prop
structure Env0 (P : Program) (w : World) (K : PySem.W.Frag) (mg : Str → Option Value) (base : Heap) (A : Around) (outer : List Env) (s : Shared) (H : Hp) : Prop where
  frames : A.frames = some outer
  mod : Mod K mg base
  bs : ∀ b o, base.get? b = some o → s.heap.get? b = some o ∧ H b = none
  bsz : base.objs.size ≤ s.heap.objs.size
  funs : s.heap.FunFrames base outer
  frf : ∀ b ∈ frs outer, H b = none
  hok : HOk P w H s.heap
  bare : AllBare s.gens
def CE (outer : List Env) (P : Program) (w : World) (H : Hp) (s : Shared) (Q : VK) (u : Value) (s' : Shared) : Prop :=
  ∃ v H', s'.os = s.os ∧ AllBare s'.gens ∧ Un (frs outer) [] H H' s.heap s'.heap ∧ HOk P w H' s'.heap ∧ RelV v u ∧ Q v H'
def CR (CX : CXT) (outer : List Env) (P : Program) (w : World) (H : Hp) (s : Shared) (Q : VK) (E : XK) (r : Result) (s' : Shared) : Prop :=
  match r with
  | .ok (.ret u) => CE outer P w H s Q u s'
  | .ok _ => False
  | .error e => CX outer H s E e s'
structure FnOk (P : Program) (w : World) (K : PySem.W.Frag) (mg : Str → Option Value) (base : Heap) (CX : CXT) (k : Nat) (f : Addr) (fd : FuncData) (ps : List Str) (sp : Sp) : Prop where
  len : ∀ vs H Q E, sp vs H Q E → vs.length = ps.length
  run : ∀ (A : Around) (outer : List Env) (s : Shared) (H : Hp) (args : Args) (us : List Value) (vs : List V) (Q : VK) (E : XK), Room k A → Env0 P w K mg base A outer s H → BindsTo s fd args (ps.zip us) → Vals vs us → sp vs H Q E →
    codeAny (model P w) A (.call (.ref f) args) (CR CX outer P w H s Q E) s
theorem FnOk.mono {P : Program} {w : World} {K : PySem.W.Frag} {mg : Str → Option Value} {base : Heap} {CX : CXT} {j k : Nat} {f : Addr} {fd : FuncData} {ps : List Str} {sp : Sp} (F : FnOk P w K mg base CX j f fd ps sp) (h : j ≤ k) :
    FnOk P w K mg base CX k f fd ps sp := ⟨F.len, fun A outer s H args us vs Q E hr => F.run A outer s H args us vs Q E (hr.mono h)⟩
theorem FnOk.imp {P : Program} {w : World} {K : PySem.W.Frag} {mg : Str → Option Value} {base : Heap} {CX : CXT} {k : Nat} {f : Addr} {fd : FuncData} {ps : List Str} {sp sp' : Sp} (F : FnOk P w K mg base CX k f fd ps sp)
    (h : ∀ vs H Q E, sp' vs H Q E → sp vs H Q E) : FnOk P w K mg base CX k f fd ps sp' :=
  ⟨fun vs H Q E q => F.len vs H Q E (h _ _ _ _ q), fun A outer s H args us vs Q E hr he hb hv hs => F.run A outer s H args us vs Q E hr he hb hv (h _ _ _ _ hs)⟩
theorem Env0.make {P : Program} {w : World} {K : PySem.W.Frag} {mg : Str → Option Value} {base : Heap} {A : Around} {outer : List Env} {s : Shared} {H : Hp} (e : Env0 P w K mg base A outer s H) (C : Addr) (us : List Value) (kw : List (Str × Value)) :
    Env0 P w K mg base (A.under (.builtin "type.__call__" ⟨.ref C :: us, kw⟩)) outer s H := ⟨by first | exact e.frames | (simpa [Around.under, Code.envs, Code.isFrame, pushEnvs] using e.frames), e.mod, e.bs, e.bsz, e.funs, e.frf, e.hok, e.bare⟩
theorem Env0.in1 {P : Program} {w : World} {K : PySem.W.Frag} {mg : Str → Option Value} {base : Heap} {A : Around} {outer : List Env} {s : Shared} {H : Hp} (e : Env0 P w K mg base A outer s H) :
    Env0 P w K mg base A.in1 outer s H := ⟨e.frames, e.mod, e.bs, e.bsz, e.funs, e.frf, e.hok, e.bare⟩
section
variable {X : Cx} {pins : List (Addr × Obj)} {σ : St} {H : Hp} {s s' : Shared}
theorem Inv.env0 (I : Inv X pins σ H s) : Env0 X.prog X.w X.K X.mg X.base X.A X.stack s H :=
  ⟨I.ok.frames, I.ok.mod, I.bs, Nat.le_trans I.ok.bsz I.sz, I.stack, I.stkFree, I.hok, I.bare⟩
theorem Inv.after {Q : VK} {u : Value} (I : Inv X pins σ H s) (h : CE X.stack X.prog X.w H s Q u s') : EP X pins σ Q u s' := by
  obtain ⟨v, H', os, bare, un, hok, r, q⟩ := h
  obtain ⟨hh, g, d, t, os'⟩ := s'
  obtain rfl : os' = s.os := os
  exact ⟨v, H', I.call (h' := hh) (g' := g) (d' := d) (t' := t) (ch := []) un hok bare (fun b z => absurd z (by simp)), r, q⟩
end
def tCall (sp : Sp) (dvs : List V) (E : XK) (t : TA) : TE := fun σ H Q => t σ H fun vs H1 => sp (vs ++ dvs) H1 Q E
def Binds (K : PySem.W.Frag) (fd : FuncData) (ps : List Str) (ds : List Value) : Prop :=
  ∀ (s : Shared) (us : List Value), K.In s.heap → (us ++ ds).length = ps.length → BindsTo s fd ⟨us, []⟩ (ps.zip (us ++ ds))
theorem Binds.all {K : PySem.W.Frag} {fd : FuncData} {ps : List Str} (h : ∀ us : List Value, us.length = ps.length → bindArgs fd ⟨us, []⟩ = pure (ps.zip us)) : Binds K fd ps [] := fun s us _ hl => by
  rw [List.append_nil] at hl ⊢
  exact .of_eq (h us hl)
def Passes (CX : CXT) (X : Cx) (E : XK) : Prop := ∀ (pins : List (Addr × Obj)) (σ : St) (H : Hp) (s : Shared) (e : Value) (s' : Shared), Inv X pins σ H s → CX X.stack H s E e s' → X.xe e s'
section
variable {X : Cx} {CX : CXT} {k : Nat} {f C : Addr} {fd : FuncData} {ps : List Str} {sp : Sp} {dvs : List V} {ds : List Value} {E : XK} {x m : Str} {p pos apos : Pos} {e o : Expr} {es : List Expr} {ta : TE} {t : TA}
theorem run_fn {pins : List (Addr × Obj)} {σ : St} {H : Hp} {s : Shared} {Q : VK} {us : List Value} {vs : List V} (F : FnOk X.prog X.w X.K X.mg X.base CX k f fd ps sp) (hr : Room k X.A) (hb : Binds X.K fd ps ds) (hd : Vals dvs ds) (hx : Passes CX X E)
    (I : Inv X pins σ H s) (r : Vals vs us) (h : sp (vs ++ dvs) H Q E) : wpAny (model X.prog X.w) X.A (call (.ref f) us) (EP X pins σ Q) X.xe s := by
  have r2 : Vals (vs ++ dvs) (us ++ ds) := r.append hd
  have hl : (us ++ ds).length = ps.length := by rw [← r2.length]; exact F.len _ _ _ _ h
  refine wpAny_call (codeAny_mono (F.run X.A X.stack s H ⟨us, []⟩ (us ++ ds) (vs ++ dvs) Q E hr I.env0 (hb s us I.kIn hl) r2 h) fun r s' hq => ?_)
  cases r with
  | error e => exact hx pins σ H s e s' I hq
  | ok fl =>
    cases fl with
    | ret u => exact I.after hq
    | next => exact False.elim hq
    | brk => exact False.elim hq
    | cont => exact False.elim hq
theorem pe_call (F : FnOk X.prog X.w X.K X.mg X.base CX k f fd ps sp) (hr : Room k X.A) (hg : Gl X x) (hm : X.mg x = some (.ref f)) (hk : PySem.W.keepIn X.K (.ref f) = true) (hb : Binds X.K fd ps ds) (hd : Vals dvs ds) (hx : Passes CX X E)
    (ha : PA X (e :: es) t) (hdb : (x == ("__debug__" : Str)) = false := by decide) (he : starEach (e :: es) X.env = (false, eval e X.env) :: starEach es X.env := by rfl) (hpl : (backTo pos (starEach es X.env)).any (·.1) = false := by rfl) :
    PE X (.Call (.Name x p) (e :: es) [] pos) (tCall sp dvs E t) := by
  intro pins s σ H Q I h
  refine wpAny_Call_Name_kw (ld_glob I hg hm ?_ hdb)
  refine PySem.W.callWith_K (h₀ := X.base) I.ok.mod.kin hk (thn (ha pos pins s σ H _ I h) fun us s1 ⟨vs, H1, I1, r, q⟩ => ⟨I1.kIn, ?_⟩) he hpl
  exact run_fn F hr hb hd hx I1 r q
structure Mk (K : PySem.W.Frag) (C f : Addr) : Prop where
  makes : PySem.W.makesIn K C = true
  init : PySem.W.findIn K (.ref C) "__init__" = some (some (.ref f))
  fn : PySem.W.isFn K (.ref f) = true
  kp : PySem.W.keepIn K (.ref C) = true
end
def PK (X : Cx) (kws : List Keyword) (t : TA) : Prop :=
  ∀ (pos : Pos) (pins : List (Addr × Obj)) (s : Shared) (σ : St) (H : Hp) (Q : List V → Hp → Prop), Inv X pins σ H s → t σ H Q → wpAny (model X.prog X.w) X.A (evalAll ((backToKw pos (keywordEach kws X.env)).map (·.2))) (AP X pins σ Q) X.xe s
section
variable {X : Cx} {CX : CXT} {k : Nat} {f C : Addr} {fd : FuncData} {ps ks : List Str} {sp : Sp} {E : XK} {x m : Str} {p pos apos kpos : Pos} {e o : Expr} {es : List Expr} {kws : List Keyword} {te ta : TE} {t tk : TA} {nm : Option Str}
theorem pk_nil : PK X [] tNil := fun _ _ _ _ H Q I h => wpAny_evalAll_nil ⟨[], H, I, .nil, h⟩
theorem pk_cons (ha : PE X e te) (hr : PK X kws t) : PK X (⟨nm, e, kpos⟩ :: kws) (tCons te t) := by
  intro pos pins s σ H Q I h
  show wpAny _ _ (evalAll ((do let v ← eval e X.env; standAt pos; pure v) :: (backToKw pos (keywordEach kws X.env)).map (·.2))) _ _ s
  refine wpAny_evalAll_cons (wpAny_bind (thn (ha pins s σ H _ I h) fun u s1 ⟨x, H1, I1, r1, q1⟩ => wpAny_bind (wpAny_standAt (wpAny_pure ?_))))
  exact thn (hr pos pins s1 σ H1 _ I1 q1) fun us s2 ⟨xs, H2, I2, r2, q2⟩ => ⟨x :: xs, H2, I2, .cons r1 r2, q2⟩
structure KBinds (K : PySem.W.Frag) (fd : FuncData) (ps ks : List Str) (g : List Value → List Value → List Value) (gV : List V → List V → List V) : Prop where
  to : ∀ (s : Shared) (us ws : List Value), K.In s.heap → (g us ws).length = ps.length → BindsTo s fd ⟨us, ks.zip ws⟩ (ps.zip (g us ws))
  rel : ∀ {vs : List V} {us : List Value} {zs : List V} {ws : List Value}, Vals vs us → Vals zs ws → Vals (gV vs zs) (g us ws)
variable {g : List Value → List Value → List Value} {gV : List V → List V → List V}
end
structure FnScope (N P : List Str) (sc : Scope) : Prop where
  kind : sc.kind = .function
  co : sc.isCoroutine = false
  gen : sc.isGenerator = false
  nd : N.Nodup
  pre : N.take P.length = P
  par : ∀ x ∈ P, sc.names.lookup x = some .local ∨ sc.names.lookup x = some .cell
  nofree : ∀ y ∈ sc.names, y.2 ≠ .free
theorem bindL_out {kindOf : Str → Option NameKind} {x : Str} : ∀ {binds : List (Str × Value)} {m : Str → Option Value}, (∀ v, (x, v) ∉ binds) → bindL kindOf binds m x = m x
  | [], _, _ => rfl
  | (n, v) :: r, m, h => by
    unfold bindL
    rw [bindL_out fun w hw => h w (List.mem_cons_of_mem _ hw)]
    split
    · have : x ≠ n := by rintro rfl; exact h v List.mem_cons_self
      simp [this]
    · rfl
theorem bindC_out {kindOf : Str → Option NameKind} {x : Str} : ∀ {binds : List (Str × Value)} {m : Str → Option Value}, (∀ v, (x, v) ∉ binds) → bindC kindOf binds m x = m x
  | [], _, _ => rfl
  | (n, v) :: r, m, h => by
    unfold bindC
    rw [bindC_out fun w hw => h w (List.mem_cons_of_mem _ hw)]
    split
    · rfl
    · have : x ≠ n := by rintro rfl; exact h v List.mem_cons_self
      simp [this]
theorem bindL_get {kindOf : Str → Option NameKind} {x : Str} {v : Value} : ∀ {P : List Str} {vs : List Value} {i : Nat} {m : Str → Option Value}, P.Nodup → P[i]? = some x → vs[i]? = some v → kindOf x = some .local →
    bindL kindOf (P.zip vs) m x = some v
  | [], _, _, _, _, h, _, _ => by simp at h
  | _ :: _, [], _, _, _, _, h, _ => by simp at h
  | p :: P, w :: vs, 0, m, nd, h1, h2, hk => by
    simp at h1 h2; subst h1; subst h2
    show bindL kindOf ((p, w) :: P.zip vs) m p = _
    unfold bindL
    rw [bindL_out fun v hv => (List.nodup_cons.mp nd).1 (List.of_mem_zip hv).1, if_pos hk]
    simp
  | p :: P, w :: vs, i + 1, m, nd, h1, h2, hk => by
    show bindL kindOf ((p, w) :: P.zip vs) m x = _
    unfold bindL
    exact bindL_get (i := i) (List.nodup_cons.mp nd).2 (by simpa using h1) (by simpa using h2) hk
theorem bindC_get {kindOf : Str → Option NameKind} {x : Str} {v : Value} : ∀ {P : List Str} {vs : List Value} {i : Nat} {m : Str → Option Value}, P.Nodup → P[i]? = some x → vs[i]? = some v → kindOf x ≠ some .local →
    bindC kindOf (P.zip vs) m x = some v
  | [], _, _, _, _, h, _, _ => by simp at h
  | _ :: _, [], _, _, _, _, h, _ => by simp at h
  | p :: P, w :: vs, 0, m, nd, h1, h2, hk => by
    simp at h1 h2; subst h1; subst h2
    show bindC kindOf ((p, w) :: P.zip vs) m p = _
    unfold bindC
    rw [bindC_out fun v hv => (List.nodup_cons.mp nd).1 (List.of_mem_zip hv).1, if_neg hk]
    simp
  | p :: P, w :: vs, i + 1, m, nd, h1, h2, hk => by
    show bindC kindOf ((p, w) :: P.zip vs) m x = _
    unfold bindC
    exact bindC_get (i := i) (List.nodup_cons.mp nd).2 (by simpa using h1) (by simpa using h2) hk
def start (N : List Str) (vs : List V) : St := vs.map some ++ List.replicate (N.length - vs.length) none
def cxOf (CX : CXT) (P : Program) (w : World) (K : PySem.W.Frag) (mg : Str → Option Value) (base : Heap) (N : List Str) (qual : Str) (scope : Scope) (f : Addr) (cd : Value) (A : Around) (outer : List Env) (s : Shared) (H : Hp) (E : XK) : Cx where
  prog := P
  w := w
  K := K
  mg := mg
  base := base
  A := A.deeper (envOfC qual scope s.heap.objs.size f cd)
  N := N
  s₀ := s
  H₀ := H
  env := envOfC qual scope s.heap.objs.size f cd
  outer := outer
  stack := envOfC qual scope s.heap.objs.size f cd :: outer
  ex := []
  calm := true
  fn := fun _ => true
  pn := []
  xe := fun e s' => wpAny (model P w) (A.deeper (envOfC qual scope s.heap.objs.size f cd)) (leaving (envOfC qual scope s.heap.objs.size f cd) e) (fun _ s'' => CX outer H s E e s'') (fun e' s'' => CX outer H s E e' s'') s'
theorem cell_has {sc : Scope} {n : Nat} {x : Str} (h : sc.names.lookup x = some .cell) : ∃ c, (cellsFrom n sc.names []).lookup x = some c := by
  have q := PySem.W.cellsFrom_some sc.names n [] (.inl h)
  exact Option.isSome_iff_exists.mp q
theorem inv_start {CX : CXT} {P : Program} {w : World} {K : PySem.W.Frag} {mg : Str → Option Value} {base : Heap} {N ps : List Str} {qual : Str} {scope : Scope} {f : Addr} {cd : Value} {A : Around} {outer : List Env} {s s1 : Shared} {H : Hp} {E : XK} {us : List Value} {vs : List V}
    (S : FnScope N ps scope) (hd : A.handled = none) (e0 : Env0 P w K mg base A outer s H) (hl : vs.length = ps.length) (r : Vals vs us)
    (x : InCallC s s.heap.objs.size (bindL (envOfC qual scope s.heap.objs.size f cd).kindOf (ps.zip us) fun _ => none) (cellsFrom (s.heap.objs.size + 1) scope.names []) (bindC (envOfC qual scope s.heap.objs.size f cd).kindOf (ps.zip us) fun _ => none) s1) :
    Inv (cxOf CX P w K mg base N qual scope f cd A outer s H E) [] (start N vs) H s1 := by
  have hpl : ps.length ≤ N.length := by have := congrArg List.length S.pre; rw [List.length_take] at this; omega
  obtain ⟨h1, tk, rfl, hk⟩ := x.done
  have noA : ∀ b : Addr, b ∉ (cxOf CX P w K mg base N qual scope f cd A outer s H E).ex := fun b z => absurd (show b ∈ ([] : List Addr) from z) (by simp)
  refine ⟨⟨e0.mod, S.kind, rfl, rfl, Nat.le_refl _, fun y z c h1 h2 => ?_, fun y hy => ?_, fun y c _ h => ?_, fun _ => hd, Around.frames_deeper e0.frames, .inr ⟨rfl, rfl⟩, fun b z => absurd z (noA b), e0.bs, e0.bsz, fun b _ _ => noA b, fun b z => absurd z (noA b), e0.funs, e0.frf⟩,
    rfl, e0.bare, Un.kept hk, ⟨_, x.toInCall.ns, fun i y v h1 h2 h3 => ?_⟩, fun y c h => ⟨_, x.cell y c h⟩, e0.hok.fresh (Nat.le_refl _), fun y c h => ?_, fun p hp => absurd (show p ∈ ([] : List (Addr × Obj)) from hp) (by simp), e0.hok.kept hk, ?_⟩
  · exact name_of_addr x.apart (PySem.mem_of_lookup h1) (PySem.mem_of_lookup h2)
  · have hy : scope.names.lookup y = some .cell ∨ scope.names.lookup y = some .free := hy
    rcases hy with hy | hy
    · exact cell_has hy
    · exact absurd rfl (S.nofree _ (PySem.mem_of_lookup hy))
  · exact Nat.le_of_lt (x.above y c (PySem.mem_of_lookup h))
  · have hi : i < vs.length := by
      unfold start at h2
      by_cases hi : i < vs.length
      · exact hi
      · rw [List.getElem?_append_right (by simpa using hi)] at h2
        rw [List.getElem?_replicate] at h2
        split at h2 <;> cases h2
    have ha : vs[i]? = some v := by
      unfold start at h2
      rw [List.getElem?_append_left (by simpa using hi), List.getElem?_map] at h2
      cases e : vs[i]? with
      | none => rw [e] at h2; cases h2
      | some a => rw [e] at h2; cases h2; rfl
    obtain ⟨u, hu, rv⟩ := r.get ha
    have hp : ps[i]? = some y := by
      rw [← S.pre, List.getElem?_take_of_lt (by omega)]; exact h1
    have ndP : ps.Nodup := by rw [← S.pre]; exact S.nd.sublist (List.take_sublist _ _)
    refine ⟨u, rv, ?_⟩
    rcases S.par y (List.mem_of_getElem? hp) with k | k
    · exact .inl ⟨k, bindL_get ndP hp hu k⟩
    · obtain ⟨c, e⟩ := cell_has (n := s.heap.objs.size + 1) k
      refine .inr ⟨.inl k, c, e, ?_⟩
      have q := x.cell y c e
      rw [bindC_get ndP hp hu (by show scope.names.lookup y ≠ _; rw [k]; decide)] at q
      exact q
  · exact e0.hok.fresh (Nat.le_of_lt (x.above y c (PySem.mem_of_lookup h)))
  · unfold start
    show _ = N.length
    rw [List.length_append, List.length_map, List.length_replicate]
    omega
theorem fn_of {CX : CXT} {P : Program} {w : World} {K : PySem.W.Frag} {mg : Str → Option Value} {base : Heap} {k : Nat} {f : Addr} {name qual : Str} {params : Arguments} {body : List Stmt} {scope : Scope} {dV kV doc pm cdv ct oc : Value} {an od : Option Addr}
    {osl : Array (Option Value)} {N ps : List Str} {sp : Sp} (lk : K.lookup f = some ⟨oc, od, .func (PySem.W.fnOf name qual params body scope dV kV doc pm an cdv ct), osl⟩) (hcd : PySem.W.codeIn K cdv qual = true) (S : FnScope N ps scope)
    (len : ∀ vs H Q E, sp vs H Q E → vs.length = ps.length)
    (hbody : ∀ (A : Around) (outer : List Env) (s : Shared) (H : Hp) (vs : List V) (Q : VK) (E : XK), Room k (A.deeper (envOfC qual scope s.heap.objs.size f cdv)) → sp vs H Q E →
      ∃ t, PSs (cxOf CX P w K mg base N qual scope f cdv A outer s H E) body t ∧ t { nx := fun _ H' => Q .non H', rt := Q } (start N vs) H) :
    FnOk P w K mg base CX (k + 1) f (PySem.W.fnOf name qual params body scope dV kV doc pm an cdv ct) ps sp := by
  refine ⟨len, fun A outer s H args us vs Q E hr e0 hb r hsp => ?_⟩
  have hl := len _ _ _ _ hsp
  have KX : K.In s.heap := e0.mod.kin.keeps fun b o e => (e0.bs b o e).1
  have lim : s.heap.NoLimit := e0.mod.nolimit.keeps fun b o e => (e0.bs b o e).1
  have hkind : ∀ y ∈ ps.zip us, scope.names.lookup y.1 = some .local ∨ (scope.names.lookup y.1 = some .cell ∧ ((cellsFrom (s.heap.objs.size + 1) scope.names []).lookup y.1).isSome = true) := fun ⟨n, v⟩ hy => by
    rcases S.par n (List.of_mem_zip hy).1 with q | q
    · exact .inl q
    · exact .inr ⟨q, PySem.W.cellsFrom_some _ _ _ (.inl q)⟩
  refine codeAny_call_function hr.depth (KX _ _ lk) rfl S.co S.gen rfl (PySem.W.codeRec_of KX hcd) (hb _ _ _ _ ?_)
  refine wpAny_newFunctionEnv_cells S.kind hkind fun env he s1 x => ?_
  subst he
  refine ⟨lim.keeps x.toInCall.keep, codeAny_func ?_⟩
  obtain ⟨t, ht, hq⟩ := hbody A outer s H vs Q E (hr.deeper _) hsp
  have I : Inv (cxOf CX P w K mg base N qual scope f cdv A outer s H E) [] (start N vs) H s1 := inv_start S hr.hd e0 hl r x
  refine wpAny_mono (ht [] s1 (start N vs) H _ I hq) (fun fl s' hs => ?_) fun e s' hs => hs
  have fin : ∀ {σ' : St} {H' : Hp} {v : V} {u : Value}, Inv (cxOf CX P w K mg base N qual scope f cdv A outer s H E) [] σ' H' s' → RelV v u → Q v H' → CE outer P w H s Q u s' :=
    fun {σ' H' v u} J rv q => ⟨v, H', J.os, J.bare, J.base, J.hok, rv, q⟩
  cases fl with
  | ret u =>
    obtain ⟨v, σ', H', J, rv, q⟩ := hs
    exact fin J rv q
  | next =>
    obtain ⟨σ', H', J, q⟩ := hs
    exact fin (v := V.non) (u := Value.none) J rfl q
  | brk =>
    obtain ⟨_, _, _, q⟩ := hs
    exact False.elim q
  | cont =>
    obtain ⟨_, _, _, q⟩ := hs
    exact False.elim q
end L2
namespace L2
open PySem PySem.Spec PyProof.Rows
section
variable {X : Cx} {x : Str} {p pos : Pos} {e : Expr} {es : List Expr} {t : TA} {id T : String} {r : List V → Hp → VK → Prop}
def tCB (r : List V → Hp → VK → Prop) (t : TA) : TE := fun σ H Q => t σ H fun vs H1 => r vs H1 Q
theorem pe_callB (hc : CallR X (.builtin id) r) (hg : Gl X x) (hm : X.mg x = none) (hv : bootBuiltins x = some (.builtin id)) (ha : PA X (e :: es) t) (hn : x ≠ "__name__" := by decide) (hdb : (x == ("__debug__" : Str)) = false := by decide)
    (he : starEach (e :: es) X.env = (false, eval e X.env) :: starEach es X.env := by rfl) (hpl : (backTo pos (starEach es X.env)).any (·.1) = false := by rfl) : PE X (.Call (.Name x p) (e :: es) [] pos) (tCB r t) := by
  intro pins s σ H Q I h
  refine wpAny_Call_Name_kw (ld_blt I hg hm hv ?_ hn hdb)
  exact PyProof.Rows.callWith_builtin1 (thn (ha pos pins s σ H _ I h) fun us s1 ⟨vs, H1, I1, r1, q1⟩ => hc pins s1 σ H1 vs us Q I1 r1 q1) he hpl
theorem pe_callTy (hc : CallR X (.type T) r) (hg : Gl X x) (hm : X.mg x = none) (hv : bootBuiltins x = some (.type T)) (ha : PA X (e :: es) t) (hn : x ≠ "__name__" := by decide) (hdb : (x == ("__debug__" : Str)) = false := by decide)
    (he : starEach (e :: es) X.env = (false, eval e X.env) :: starEach es X.env := by rfl) (hpl : (backTo pos (starEach es X.env)).any (·.1) = false := by rfl) : PE X (.Call (.Name x p) (e :: es) [] pos) (tCB r t) := by
  intro pins s σ H Q I h
  refine wpAny_Call_Name_kw (ld_blt I hg hm hv ?_ hn hdb)
  exact PyProof.Rows.callWith_type1 (thn (ha pos pins s σ H _ I h) fun us s1 ⟨vs, H1, I1, r1, q1⟩ => hc pins s1 σ H1 vs us Q I1 r1 q1) he hpl
end
end L2
namespace HT
open PySem PyProof.Rows
def lexLt : List Int → List Int → Bool
  | [], [] => false
  | [], _ :: _ => true
  | _ :: _, [] => false
  | x :: xs, y :: ys => if x = y then lexLt xs ys else decide (x < y)
theorem lexLt_cons (x y : Int) (xs ys : List Int) : lexLt (x :: xs) (y :: ys) = if x = y then lexLt xs ys else decide (x < y) := rfl
theorem lexLt_nil_nil : lexLt [] [] = false := rfl
theorem lexLt_nil_cons (y : Int) (ys : List Int) : lexLt [] (y :: ys) = true := rfl
theorem lexLt_cons_nil (x : Int) (xs : List Int) : lexLt (x :: xs) [] = false := rfl
theorem eqAt_int (A : Around) (s : Shared) (a : Int) (t : Tok) (c : Int) (u : Tok) : ∃ e, SeqAt.EqAt A s (.int a t) (.int c u) e ∧ (e = true ↔ a = c) :=
  ⟨(a == c), SeqAt.EqAt.int_int a t c u, by simp⟩
theorem rcLt_int (A : Around) (s : Shared) (a : Int) (t : Tok) (c : Int) (u : Tok) (prog : Program) (w : World) (E : Value → Shared → Prop) (Q : Value → Shared → Prop) (h : Q (.bool (decide (a < c))) s) :
    wpAny (model prog w) A (richCompare .Lt (.int a t) (.int c u)) Q E s :=
  (PyProof.Rows.lt_int h : wpAny (model prog w) A (compareOp .Lt (.int a t) (.int c u)) Q E s)
section
open PySem.SeqAt
open PySem.AutoSeq1 (wpAny_loadPart')
open PySem.MeetsSeq PySem.MeetsSeq2 PySem.MeetsSeq3
theorem tuple_lt_ints (l b : Addr) (items items2 : Array Value) (n n2 : Nat) (dd dd2 : Option Addr) (sl sl2 : Array (Option Value)) (ns ms : List Int) (hi : IntsAre items.toList ns) (hj : IntsAre items2.toList ms) :
    Meets (Builtin.«tuple.__lt__» ⟨[.ref l, .ref b], []⟩)
      (fun _ R s => s.heap.get? l = some { cls := .type "tuple", dict := dd, data := .seq items n, slots := sl } ∧ s.heap.get? b = some { cls := .type "tuple", dict := dd2, data := .seq items2 n2, slots := sl2 } ∧
        R (.ok (.ret (.bool (lexLt ns ms)))) s) :=
  .of_wp fun prog w A R s h => by
    obtain ⟨hp, g, d, tk, os⟩ := s; obtain ⟨hl, hb, h⟩ := h
    have f2 := AutoSeq1.sub_tuple_tuple
    have z1 : items.size = ns.length := by rw [← hi.length]; simp
    have z2 : items2.size = ms.length := by rw [← hj.length]; simp
    wp_walk using wpAny_loadPart' hl, wpAny_loadPart' hb, wpAny_forIn_list _ (fun rest b s' => b.1 = none ∧ s' = ⟨hp, g, d, tk, os⟩ ∧ ∃ (vs ws : List Value) (ns' ms' : List Int), rest = vs.zip ws ∧
      IntsAre vs ns' ∧ IntsAre ws ms' ∧ ns'.length + items2.size = ms'.length + items.size ∧ R (.ok (.ret (.bool (lexLt ns' ms')))) ⟨hp, g, d, tk, os⟩) _
    case turn =>
      rintro ⟨y, x⟩ rest b s' ⟨hb', rfl, vs, ws, ns', ms', hz, hvi, hwi, hlen, hR⟩
      cases hvi with
      | nil => rw [List.zip_nil_left] at hz; cases hz
      | cons a t hvi' =>
        cases hwi with
        | nil => rw [List.zip_nil_right] at hz; cases hz
        | cons c u hwi' =>
          rw [List.zip_cons_cons] at hz
          injection hz with hyx hrest
          injection hyx with hy hx
          subst hy hx
          rw [lexLt_cons] at hR
          simp only [List.length_cons] at hlen
          obtain ⟨e, he, hiff⟩ := eqAt_int A.in1 ⟨hp, g, d, tk, os⟩ a t c u
          refine wpAny_bind (he prog w _ _ ?_)
          cases e with
          | true =>
            rw [if_pos (hiff.mp rfl)] at hR
            wp_walk
            exact ⟨rfl, rfl, _, _, _, _, hrest, hvi', hwi', by omega, hR⟩
          | false =>
            rw [if_neg (fun q => absurd (hiff.mpr q) Bool.false_ne_true)] at hR
            have hri := rcLt_int A.in1 ⟨hp, g, d, tk, os⟩ a t c u prog w
            wp_walk using hri
            exact ⟨_, rfl, by simpa using hR⟩
    case fin =>
      rintro ⟨b1, b2⟩ s' ⟨hb', rfl, vs, ws, ns', ms', hz, hvi, hwi, hlen, hR⟩
      simp only at hb'
      subst hb'
      have hv : lexLt ns' ms' = decide (items.size < items2.size) := by
        cases hvi with
        | nil =>
          cases hwi with
          | nil =>
            simp only [List.length_nil] at hlen
            rw [lexLt_nil_nil]
            exact (decide_eq_false (by omega)).symm
          | cons c u hw =>
            simp only [List.length_nil, List.length_cons] at hlen
            rw [lexLt_nil_cons]
            exact (decide_eq_true (by omega)).symm
        | cons a t hv =>
          cases hwi with
          | nil =>
            simp only [List.length_nil, List.length_cons] at hlen
            rw [lexLt_cons_nil]
            exact (decide_eq_false (by omega)).symm
          | cons c u hw =>
            rw [List.zip_cons_cons] at hz
            cases hz
      rw [hv] at hR
      wp_walk
      exact ⟨_, rfl, by simpa [Builtin.Tuple.tupleCompareSizes] using hR⟩
    case h =>
      exact ⟨rfl, rfl, items.toList, items2.toList, ns, ms, rfl, hi, hj, by omega, h⟩
end
section
variable {prog : Program} {w : World} {A : Around} {E : Value → Shared → Prop} {s : Shared}
theorem lt_tupInts {l b : Addr} {items items2 : Array Value} {ns ms : List Int} {Q : Value → Shared → Prop} (hl : IsTup s.heap l items) (hb : IsTup s.heap b items2) (hi : IntsAre items.toList ns) (hj : IntsAre items2.toList ms)
    (hu : A.units < cLine) (h : Q (.bool (lexLt ns ms)) s) : wpAny (model prog w) A (compareOp .Lt (.ref l) (.ref b)) Q E s := by
  obtain ⟨⟨cls, dd, data, sl⟩, ho, hc, n, hd⟩ := id hl
  obtain ⟨⟨cls2, dd2, data2, sl2⟩, ho2, hc2, n2, hd2⟩ := id hb
  simp only at hc hd hc2 hd2
  subst hc hd hc2 hd2
  exact richCompare_meets_room (op := .Lt) ⟨_, ho, rfl⟩ ⟨_, ho2, rfl⟩ PySem.F.slot_tuple_lt PySem.F.entry_tuple_lt (PySem.F.args_tuple_lt_2 _ _) (tuple_lt_ints l b items items2 n n2 dd dd2 sl sl2 ns ms hi hj)
    ⟨ho, ho2, show Value.bool (lexLt ns ms) ≠ Value.notImplemented ∧ Q (.bool (lexLt ns ms)) s from ⟨(fun x => nomatch x), h⟩⟩ hu
theorem cat_tup {t b : Addr} {vs ws : List Value} {Q : Value → Shared → Prop} (ht : IsTup s.heap t vs.toArray) (hb : IsTup s.heap b ws.toArray) (hv : vs ≠ [])
    (h1 : ws = [] → Q (.ref t) s) (h2 : ws ≠ [] → Q (.ref s.heap.objs.size) { s with heap := s.heap.push { cls := .type "tuple", data := .seq (vs ++ ws).toArray } })
    (hsz : vs.length + ws.length ≤ sizeLine) : wpAny (model prog w) A (binaryOp .Add (.ref t) (.ref b)) Q E s := by
  obtain ⟨⟨cls, dd, data, sl⟩, ho, hc, n, hd⟩ := id ht
  obtain ⟨⟨cls2, dd2, data2, sl2⟩, ho2, hc2, n2, hd2⟩ := id hb
  simp only at hc hd hc2 hd2
  subst hc hd hc2 hd2
  have e : vs.toArray ++ ws.toArray = (vs ++ ws).toArray := by simp
  by_cases hw : ws = []
  · exact concat_meets ⟨_, ho, rfl⟩ ⟨_, ho2, rfl⟩ noFill_tuple_add seq_tuple_add PySem.F.slot_tuple_add PySem.F.entry_tuple_add (PySem.F.args_tuple_add_2 _ _)
      (tuple_addW1 t b vs.toArray ws.toArray n n2 dd dd2 sl sl2 (by simpa using hv) (by simp [hw])) ⟨ho, ho2, h1 hw⟩
  · refine concat_meets ⟨_, ho, rfl⟩ ⟨_, ho2, rfl⟩ noFill_tuple_add seq_tuple_add PySem.F.slot_tuple_add PySem.F.entry_tuple_add (PySem.F.args_tuple_add_2 _ _)
      (tuple_addW2 t b vs.toArray ws.toArray n n2 dd dd2 sl sl2 (by simpa using hv) (by simpa using hw) (by rw [List.size_toArray, List.size_toArray]; exact hsz)) ⟨ho, ho2, ?_⟩
    rw [e]
    exact h2 hw
def sIx (n d : Nat) : Option Int → Nat
  | none => d
  | some v => if v < 0 then (v + (n : Int)).toNat else min v.toNat n
theorem sIx_none (n d : Nat) : sIx n d none = d := rfl
theorem sIx_nat (n d k : Nat) : sIx n d (some (k : Int)) = min k n := by
  show (if (k : Int) < 0 then ((k : Int) + (n : Int)).toNat else min (k : Int).toNat n) = min k n
  rw [if_neg (by omega), Int.toNat_natCast]
theorem sIx_le (n d : Nat) (hd : d ≤ n) (o : Option Int) : sIx n d o ≤ n := by
  cases o with
  | none => exact hd
  | some v =>
    show (if v < 0 then (v + (n : Int)).toNat else min v.toNat n) ≤ n
    by_cases hv : v < 0
    · rw [if_pos hv]; omega
    · rw [if_neg hv]; exact Nat.min_le_right _ _
theorem clip_eq (v : Int) (n d : Nat) : (if v < 0 then max (v + (n : Int)) 0 else min v (n : Int)) = ((sIx n d (some v) : Nat) : Int) := by
  show (if v < 0 then max (v + (n : Int)) 0 else min v (n : Int)) = (((if v < 0 then (v + (n : Int)).toNat else min v.toNat n) : Nat) : Int)
  by_cases hv : v < 0
  · simp only [if_pos hv]; omega
  · simp only [if_neg hv]; omega
theorem adjust_gen (lo hi : Option Int) (n : Nat) : Builtin.Slice.sliceAdjust lo hi 1 (n : Int) = (((sIx n 0 lo : Nat) : Int), ((sIx n n hi : Nat) : Int)) := by
  have h1 : ¬ ((1 : Int) < 0) := by omega
  unfold Builtin.Slice.sliceAdjust
  simp only [h1, if_false]
  refine Prod.ext ?_ ?_
  · cases lo with
    | none => rfl
    | some v => exact clip_eq v n 0
  · cases hi with
    | none => rfl
    | some v => exact clip_eq v n n
theorem places_gen (i j : Nat) : Builtin.Slice.slicePlaces (i : Int) (j : Int) 1 = j - i := by
  unfold Builtin.Slice.slicePlaces
  have h1 : (1 : Int) > 0 := by omega
  simp only [h1, if_true, Int.ediv_one]
  split <;> omega
theorem slicePart_ {v : Value} {o : Option Int} {Q : Option Int → Shared → Prop} (p : IsPart v o) (h : Q o s) : wpAny (model prog w) A (Builtin.Slice.slicePartIndex v) Q E s := by
  cases p with
  | none => exact slicePart_none h
  | int i t => exact slicePart_int h
theorem sliceApplied_gen {sl : Addr} {vl vu : Value} {lo hi : Option Int} {n : Nat} {Q : Int × Int × Nat → Shared → Prop} (hs : s.heap.IsSliceOf sl vl vu .none) (pl : IsPart vl lo) (pu : IsPart vu hi)
    (h : Q (((sIx n 0 lo : Nat) : Int), 1, sIx n n hi - sIx n 0 lo) s) : wpAny (model prog w) A (Builtin.Slice.sliceApplied (.ref sl) (pure (n : Int))) Q E s := by
  obtain ⟨os, hos, hcs, hds⟩ := id hs
  unfold Builtin.Slice.sliceApplied Builtin.Slice.sliceFields
  refine wpAny_bind (wpAny_bind (wpAny_field hos hds (x := vl) rfl (wpAny_bind (wpAny_field hos hds (x := vu) rfl (wpAny_bind (wpAny_field hos hds (x := .none) rfl (wpAny_pure ?_)))))))
  refine wpAny_bind (slicePart_none ?_)
  show wpAny _ _ (if ((1 : Int) == 0) = true then _ else _) _ _ s
  rw [if_neg (by decide)]
  refine wpAny_bind (slicePart_ pl (wpAny_bind (slicePart_ pu (wpAny_bind (wpAny_pure ?_)))))
  show wpAny _ _ (match Builtin.Slice.sliceAdjust lo hi 1 (n : Int) with | (lo, hi) => pure (lo, (1 : Int), Builtin.Slice.slicePlaces lo hi 1)) _ _ s
  rw [adjust_gen lo hi n]
  show wpAny _ _ (pure (((sIx n 0 lo : Nat) : Int), (1 : Int), Builtin.Slice.slicePlaces ((sIx n 0 lo : Nat) : Int) ((sIx n n hi : Nat) : Int) 1)) _ _ s
  rw [places_gen]
  exact wpAny_pure h
theorem pick_gen (xs : Array Value) (i k : Nat) : ((List.range k).filterMap fun (m : Nat) => xs[((i : Int) + (m : Int) * 1).toNat]?).toArray = ((xs.toList.drop i).take k).toArray := by
  have e : (fun (m : Nat) => xs[((i : Int) + (m : Int) * 1).toNat]?) = fun m => xs[i + m]? := by
    funext m
    have : ((i : Int) + (m : Int) * 1).toNat = i + m := by omega
    rw [this]
  rw [e]
  have := pick_run xs i k
  rw [List.filterMap_map] at this
  have e2 : ((fun x => xs[x]?) ∘ fun x => i + x) = fun m => xs[i + m]? := rfl
  rw [e2] at this
  rw [this]
theorem getItem_tuple_cut {t sl : Addr} {items : Array Value} {vl vu : Value} {lo hi : Option Int} {Q : Value → Shared → Prop} (ht : IsTup s.heap t items) (hs : s.heap.IsSliceOf sl vl vu .none) (pl : IsPart vl lo) (pu : IsPart vu hi)
    (hw : ¬ (sIx items.size 0 lo = 0 ∧ sIx items.size items.size hi = items.size))
    (h : Q (.ref s.heap.objs.size) { s with heap := s.heap.push { cls := .type "tuple", data := .seq ((items.toList.drop (sIx items.size 0 lo)).take (sIx items.size items.size hi - sIx items.size 0 lo)).toArray } })
    (hsz : items.size ≤ sizeLine) : wpAny (model prog w) A (getItem (.ref t) (.ref sl)) Q E s := by
  have htake : sizeOk (.seq ((items.toList.drop (sIx items.size 0 lo)).take (sIx items.size items.size hi - sIx items.size 0 lo)).toArray) := by
    show ((items.toList.drop (sIx items.size 0 lo)).take (sIx items.size items.size hi - sIx items.size 0 lo)).toArray.size ≤ sizeLine
    rw [List.size_toArray, List.length_take, List.length_drop, Array.length_toList]
    omega
  have hj : sIx items.size items.size hi ≤ items.size := sIx_le _ _ (Nat.le_refl _) hi
  obtain ⟨os, hos, hcs, hds⟩ := id hs
  have hTs : s.TypeIs (.ref sl) "slice" := ⟨os, hos, hcs⟩
  unfold getItem
  try with_reducible refine wpAny_holding ?_
  first | refine wpAny_bind (wpAny_pure ?_) | skip
  refine wpAny_bind (wpAny_sequenceKey ht.typeIs (by decide) ?_)
  refine wpAny_bind (wpAny_callSpecial?_slot (name := Str.ofString "__getitem__") ht.typeIs PyProof.Rows.slot_tuple_getitem
    (wpAny_call_entry PyProof.Rows.slot_tuple_getitem ht.typeIs entry_tuple_getitem ?_ (args_tuple_getitem _ _)))
  show wpAny _ _ (Builtin.Tuple.tupleItemsOf (.ref t) >>= _) _ _ s
  refine wpAny_bind (tupleItemsOf_ ht ?_)
  refine wpAny_bind (wpAny_typeOf hTs ?_)
  rw [if_pos (by decide)]
  refine wpAny_bind (sliceApplied_gen hs pl pu ?_)
  have hno : ¬ ((((sIx items.size 0 lo : Nat) : Int) == 0 && (1 : Int) == 1 && (sIx items.size items.size hi - sIx items.size 0 lo) == items.size) = true) := by
    intro q
    rw [Bool.and_eq_true, Bool.and_eq_true] at q
    have q1 : ((sIx items.size 0 lo : Nat) : Int) = 0 := eq_of_beq q.1.1
    have q2 : sIx items.size items.size hi - sIx items.size 0 lo = items.size := eq_of_beq q.2
    exact hw ⟨by omega, by omega⟩
  show wpAny _ _ (if (((sIx items.size 0 lo : Nat) : Int) == 0 && (1 : Int) == 1 && (sIx items.size items.size hi - sIx items.size 0 lo) == items.size) = true then _ else _) _ _ s
  rw [if_neg hno, pick_gen]
  first
    | exact wpAny_bind (m := Builtin.Tuple.tupleExact _) (wpAny_newObj_type (wpAny_pure ⟨_, rfl, wpAny_pure h⟩) htake)
    | exact wpAny_bind (m := Builtin.Tuple.tupleExact _) (wpAny_newObj_type (wpAny_bind (wpAny_pure (wpAny_pure ⟨_, rfl, wpAny_pure h⟩))) htake)
    | exact wpAny_bind (wpAny_bind (m := Builtin.Tuple.tupleExact _) (wpAny_newObj_type (wpAny_pure (wpAny_pure ⟨_, rfl, wpAny_pure h⟩)) htake))
    | exact wpAny_bind (wpAny_bind (m := Builtin.Tuple.tupleExact _) (wpAny_newObj_type (wpAny_pure ⟨_, rfl, wpAny_pure h⟩) htake))
end
end HT
namespace L2
open PySem PySem.Spec PyProof.Rows
abbrev TO := St → Hp → (Option Int → Hp → Prop) → Prop
def PO (X : Cx) (e : Option Expr) (t : TO) : Prop :=
  ∀ (pins : List (Addr × Obj)) (s : Shared) (σ : St) (H : Hp) (Q : Option Int → Hp → Prop), Inv X pins σ H s → t σ H Q →
    wpAny (model X.prog X.w) X.A (evalPart e X.env) (fun u s' => ∃ o H', Inv X pins σ H' s' ∧ IsPart u o ∧ Q o H') X.xe s
def tNoPart : TO := fun _ H Q => Q none H
def tPart (t : TE) : TO := fun σ H Q => t σ H fun x H1 => ∃ i, x = .int i ∧ Q (some i) H1
theorem intsAre_of {ns : List Int} : ∀ {us : List Value}, Vals (ns.map V.int) us → IntsAre us ns := by
  induction ns with
  | nil => intro us r; rw [List.map_nil] at r; cases r; exact .nil
  | cons n ns ih =>
    intro us r
    rw [List.map_cons] at r
    cases r with
    | cons r1 r2 =>
      obtain ⟨t, e⟩ := r1
      subst e
      exact .cons n t (ih r2)
section
variable {X : Cx} {e : Expr} {te : TE} {lo hi : Option Expr} {tl th : TO} {pos p2 : Pos}
theorem po_none : PO X none tNoPart := by
  intro pins s σ H Q I h
  rw [evalPart_none]
  exact wpAny_pure ⟨none, H, I, .none, h⟩
theorem po_some (h : PE X e te) : PO X (some e) (tPart te) := by
  intro pins s σ H Q I hw
  rw [evalPart_some]
  refine thn (h pins s σ H _ I hw) fun u s1 ⟨x, H1, I1, r1, q1⟩ => ?_
  obtain ⟨i, rfl, q⟩ := q1
  obtain ⟨t, rfl⟩ := r1
  exact ⟨some i, H1, I1, .int i t, q⟩
def SlR (X : Cx) (r : V → Option Int → Option Int → Hp → VK → Prop) : Prop :=
  ∀ (pins : List (Addr × Obj)) (s : Shared) (σ : St) (H : Hp) (x : V) (v vl vu : Value) (lo hi : Option Int) (sl : Addr) (Q : VK), Inv X pins σ H s → RelV x v → s.heap.IsSliceOf sl vl vu .none → IsPart vl lo → IsPart vu hi → r x lo hi H Q →
    ∃ T id, typeLookup (.type T) "__getitem__" = pure (some (.builtin id)) ∧ s.TypeIs v T ∧ wpAny (model X.prog X.w) X.A (getItem v (.ref sl)) (EP X pins σ Q) X.xe s
theorem SlR.or {r r' : V → Option Int → Option Int → Hp → VK → Prop} (h : SlR X r) (h' : SlR X r') : SlR X (fun x lo hi H Q => r x lo hi H Q ∨ r' x lo hi H Q) := by
  intro pins s σ H x v vl vu lo hi sl Q I rx hs pl pu q
  rcases q with q | q
  · exact h pins s σ H x v vl vu lo hi sl Q I rx hs pl pu q
  · exact h' pins s σ H x v vl vu lo hi sl Q I rx hs pl pu q
def tSl (r : V → Option Int → Option Int → Hp → VK → Prop) (te : TE) (tl th : TO) : TE := fun σ H Q => te σ H fun x H1 => tl σ H1 fun l H2 => th σ H2 fun u H3 => r x l u H3 Q
theorem pe_slice {r : V → Option Int → Option Int → Hp → VK → Prop} (hr : SlR X r) (he : PE X e te) (hl : PO X lo tl) (hu : PO X hi th) : PE X (.Subscript e (.Slice lo hi none p2) pos) (tSl r te tl th) := by
  intro pins s σ H Q I h
  refine Subscript_ (thn (he pins s σ H _ I h) fun v s1 ⟨x, H1, I1, r1, q1⟩ => ?_)
  refine wpAny_Slice (thn (hl pins s1 σ H1 _ I1 q1) fun vl s2 ⟨l, H2, I2, pl, q2⟩ => thn (hu pins s2 σ H2 _ I2 q2) fun vu s3 ⟨u, H3, I3, pu, q3⟩ => ?_)
  rw [evalPart_none]
  refine wpAny_pure ?_
  have I4 : Inv X pins σ H3 { s3 with heap := s3.heap.push { cls := .type "slice", data := .fields #[vl, vu, .none] } } := I3.kept (t' := s3.toks) fun b ob q => Heap.get?_push_of_some _ q
  obtain ⟨T, id, hT, ht, hg⟩ := hr pins { s3 with heap := s3.heap.push { cls := .type "slice", data := .fields #[vl, vu, .none] } } σ H3 x v vl vu l u s3.heap.objs.size Q I4 r1 (Heap.IsSliceOf.new ..) pl pu q3
  show wpAny (model X.prog X.w) X.A (subscriptTail e (.Slice lo hi none p2) v (.ref s3.heap.objs.size)) (EP X pins σ Q) X.xe { s3 with heap := s3.heap.push { cls := .type "slice", data := .fields #[vl, vu, .none] } }
  exact tail_any (ops := [.ref s3.heap.objs.size, v]) ht hT hg (by with_unfolding_all rfl)
def cutV (xs : List V) (lo hi : Option Int) : List V := (xs.drop (HT.sIx xs.length 0 lo)).take (HT.sIx xs.length xs.length hi - HT.sIx xs.length 0 lo)
theorem cutV_length (xs : List V) (lo hi : Option Int) : (cutV xs lo hi).length ≤ xs.length := by
  unfold cutV
  rw [List.length_take, List.length_drop]
  omega
def rSlT (K : PySem.W.Frag) : V → Option Int → Option Int → Hp → VK → Prop := fun x lo hi H Q => ∃ a xs, x = .ref a ∧ SqT K H a xs ∧
  ¬ (HT.sIx xs.length 0 lo = 0 ∧ HT.sIx xs.length xs.length hi = xs.length) ∧ ∀ p, H p = none → Q (.ref p) (upd H p (.tup (cutV xs lo hi)))
theorem sl_tup : SlR X (rSlT X.K) := by
  intro pins s σ H x v vl vu lo hi sl Q I rx hs pl pu h
  obtain ⟨a, xs, rfl, hx, hw, q⟩ := h
  cases rx
  obtain ⟨its, r, ht, hz⟩ := I.tuple hx
  have hlen : its.toArray.size = xs.length := by rw [List.size_toArray]; exact r.length.symm
  refine ⟨"tuple", _, PyProof.Rows.slot_tuple_getitem.lookup, ht.typeIs, ?_⟩
  refine HT.getItem_tuple_cut ht hs pl pu (by rw [hlen]; exact hw) ?_ (by rw [hlen]; exact hz)
  rw [hlen]
  refine ⟨.ref s.heap.objs.size, _, I.laid (t' := s.toks) (o := .tup (cutV xs lo hi)) (fun b ob q => Heap.get?_push_of_some _ q) (Nat.le_refl _) ?_, rfl, q _ (I.hok.fresh (Nat.le_refl _))⟩
  exact ⟨Nat.le_trans (cutV_length xs lo hi) hz, _, (r.drop (HT.sIx xs.length 0 lo)).take (HT.sIx xs.length xs.length hi - HT.sIx xs.length 0 lo), IsTup.new _ _⟩
def rLtT (K : PySem.W.Frag) : R2 := fun x y H Q => ∃ a b ns ms, x = .ref a ∧ y = .ref b ∧ SqT K H a (ns.map V.int) ∧ SqT K H b (ms.map V.int) ∧ Q (.bl (HT.lexLt ns ms)) H
theorem op_ltT (hu : X.A.units < cLine) : OpR X (compareOp .Lt) (rLtT X.K) := by
  intro pins s σ H x y v u Q I rx ry h
  obtain ⟨a, b, ns, ms, rfl, rfl, ha, hb, q⟩ := h
  cases rx
  cases ry
  obtain ⟨its, r1, p1, _⟩ := I.tuple ha
  obtain ⟨its2, r2, p2, _⟩ := I.tuple hb
  have i1 : IntsAre its.toArray.toList ns := intsAre_of r1
  have i2 : IntsAre its2.toArray.toList ms := intsAre_of r2
  exact HT.lt_tupInts p1 p2 i1 i2 hu ⟨.bl (HT.lexLt ns ms), H, I, rfl, q⟩
def rCatT (K : PySem.W.Frag) : R2 := fun x y H Q => ∃ a b xs ys, x = .ref a ∧ y = .ref b ∧ SqT K H a xs ∧ SqT K H b ys ∧ xs ≠ [] ∧ xs.length + ys.length ≤ sizeLine ∧
  (ys = [] → Q (.ref a) H) ∧ (ys ≠ [] → ∀ p, H p = none → Q (.ref p) (upd H p (.tup (xs ++ ys))))
theorem Vals.nil_iff {xs : List V} {us : List Value} (r : Vals xs us) : us = [] ↔ xs = [] := by
  cases r with
  | nil => simp
  | cons _ _ => simp
theorem op_catT : OpR X (binaryOp .Add) (rCatT X.K) := by
  intro pins s σ H x y v u Q I rx ry h
  obtain ⟨a, b, xs, ys, rfl, rfl, ha, hb, hx, hz, q1, q2⟩ := h
  cases rx
  cases ry
  obtain ⟨its, r1, p1, _⟩ := I.tuple ha
  obtain ⟨its2, r2, p2, _⟩ := I.tuple hb
  refine HT.cat_tup p1 p2 (fun z => hx (r1.nil_iff.mp z)) (fun z => ⟨.ref a, H, I, rfl, q1 (r2.nil_iff.mp z)⟩) (fun z => ?_) (by rw [← r1.length, ← r2.length]; exact hz)
  refine ⟨.ref s.heap.objs.size, _, I.laid (t' := s.toks) (o := .tup (xs ++ ys)) (fun b ob q => Heap.get?_push_of_some _ q) (Nat.le_refl _) ?_, rfl, q2 (fun w => z (r2.nil_iff.mpr w)) _ (I.hok.fresh (Nat.le_refl _))⟩
  exact ⟨by rw [List.length_append]; exact hz, _, r1.append r2, IsTup.new _ _⟩
end
end L2
namespace L2
open PySem PySem.Spec PyProof.Rows
def ixN (n : Nat) (i : Int) : Option Nat := if 0 ≤ i then (if i < n then some i.toNat else none) else if -(n : Int) ≤ i then some (i + n).toNat else none
def atI {α : Type} (xs : List α) (i : Int) : Option α := (ixN xs.length i).bind fun j => xs[j]?
theorem ixN_seq {n : Nat} {i : Int} {j : Nat} (h : ixN n i = some j) : seqIndex? i n = some j ∧ j < n ∧ -(n : Int) ≤ i ∧ i < n := by
  unfold ixN at h
  by_cases h0 : 0 ≤ i
  · rw [if_pos h0] at h
    by_cases h1 : i < n
    · rw [if_pos h1] at h
      have e : i.toNat = j := Option.some.inj h
      exact ⟨by rw [seqIndex_of h0 h1, e], by omega, by omega, h1⟩
    · rw [if_neg h1] at h; cases h
  · rw [if_neg h0] at h
    by_cases h1 : -(n : Int) ≤ i
    · rw [if_pos h1] at h
      have e : (i + n).toNat = j := Option.some.inj h
      exact ⟨by rw [seqIndex_neg (by omega) h1, e], by omega, h1, by omega⟩
    · rw [if_neg h1] at h; cases h
theorem atI_get {α : Type} {xs : List α} {i : Int} {v : α} (h : atI xs i = some v) : ∃ j, seqIndex? i xs.length = some j ∧ xs[j]? = some v ∧ j < xs.length ∧ -(xs.length : Int) ≤ i ∧ i < xs.length := by
  unfold atI at h
  cases e : ixN xs.length i with
  | none => rw [e] at h; cases h
  | some j =>
    rw [e] at h
    obtain ⟨h1, h2, h3, h4⟩ := ixN_seq e
    exact ⟨j, h1, h, h2, h3, h4⟩
def PlainIx (b : Expr) : Prop := ∀ o i, subscripted b false o i = operate [o, i] (getItem o i)
def IxR (X : Cx) (r : R2) : Prop :=
  ∀ (value slice : Expr) (pins : List (Addr × Obj)) (s : Shared) (σ : St) (H : Hp) (x y : V) (v u : Value) (Q : VK), Inv X pins σ H s → RelV x v → RelV y u → r x y H Q →
    subscripted slice false v u = operate [v, u] (getItem v u) → wpAny (model X.prog X.w) X.A (subscriptTail value slice v u) (EP X pins σ Q) X.xe s
def MtR (X : Cx) (id : String) (r : V → List V → Hp → VK → Prop) : Prop :=
  ∀ (pins : List (Addr × Obj)) (s : Shared) (σ : St) (H : Hp) (x : V) (xs : List V) (v : Value) (us : List Value) (Q : VK), Inv X pins σ H s → RelV x v → Vals xs us → r x xs H Q →
    wpAny (model X.prog X.w) X.A (call (.builtin id) (v :: us)) (EP X pins σ Q) X.xe s
section
variable {X : Cx} {a b : Expr} {ta tb : TE} {pos : Pos}
theorem IxR.or {r r' : R2} (h : IxR X r) (h' : IxR X r') : IxR X (fun x y H Q => r x y H Q ∨ r' x y H Q) := by
  intro value slice pins s σ H x y v u Q I rx ry q hs
  rcases q with q | q
  · exact h value slice pins s σ H x y v u Q I rx ry q hs
  · exact h' value slice pins s σ H x y v u Q I rx ry q hs
theorem MtR.or {id : String} {r r' : V → List V → Hp → VK → Prop} (h : MtR X id r) (h' : MtR X id r') : MtR X id (fun x xs H Q => r x xs H Q ∨ r' x xs H Q) := by
  intro pins s σ H x xs v us Q I rx rs q
  rcases q with q | q
  · exact h pins s σ H x xs v us Q I rx rs q
  · exact h' pins s σ H x xs v us Q I rx rs q
theorem pe_ix {r : R2} (hr : IxR X r) (ha : PE X a ta) (hb : PE X b tb) (hs : PlainIx b) : PE X (.Subscript a b pos) (tOp r ta tb) := by
  intro pins s σ H Q I h
  exact Subscript_ (binT ha hb I h fun v u s2 x y H2 I2 rx ry q => hr a b pins s2 σ H2 x y v u Q I2 rx ry q (hs _ _))
def rIxL (K : PySem.W.Frag) : R2 := fun x y H Q => ∃ p xs i v, x = .ref p ∧ y = .int i ∧ SqL K H p xs ∧ atI xs i = some v ∧ Q v H
def rIxT (K : PySem.W.Frag) : R2 := fun x y H Q => ∃ p xs i v, x = .ref p ∧ y = .int i ∧ SqT K H p xs ∧ atI xs i = some v ∧ Q v H
def rIxS : R2 := fun x y H Q => ∃ z i c, x = .str z ∧ y = .int i ∧ z.length ≤ sizeLine ∧ atI z.cps.toList i = some c ∧ Q (.str ⟨#[c]⟩) H
theorem ix_list : IxR X (rIxL X.K) := by
  intro value slice pins s σ H x y v u Q I rx ry h hs
  obtain ⟨p, xs, i, z, rfl, rfl, hq, he, q⟩ := h
  cases rx
  obtain ⟨t, rfl⟩ := ry
  obtain ⟨its, r, pl, hz⟩ := I.list hq
  obtain ⟨j, h1, h2, h3, h4, h5⟩ := atI_get he
  obtain ⟨w, ew, rw'⟩ := r.get h2
  have hl := r.length
  have hn := line63
  have fin : EP X pins σ Q w s := ⟨z, H, I, rw', q⟩
  by_cases h0 : 0 ≤ i
  · have hj : i.toNat = j := by
      rw [seqIndex_of h0 h5] at h1
      exact Option.some.inj h1
    exact item_listR pl.isList h0 (by omega) (by rw [hj]; simpa using ew) fin hs
  · have hj : (i + (its.toArray.size : Int)).toNat = j := by
      rw [seqIndex_neg (by omega) h4] at h1
      rw [List.size_toArray, ← hl]
      exact Option.some.inj h1
    exact subscriptTail_builtinR (x := w) pl.isList.typeIs slot_list_getitem.lookup
      (wpAny_getItem_list_neg (Q := fun r s' => r = w ∧ EP X pins σ Q r s') pl.isList (by omega) (by rw [List.size_toArray] <;> omega) (by omega) (by rw [hj]; simpa using ew) ⟨rfl, fin⟩) hs
theorem ix_tup : IxR X (rIxT X.K) := by
  intro value slice pins s σ H x y v u Q I rx ry h hs
  obtain ⟨p, xs, i, z, rfl, rfl, hq, he, q⟩ := h
  cases rx
  obtain ⟨t, rfl⟩ := ry
  obtain ⟨its, r, pl, hz⟩ := I.tuple hq
  obtain ⟨j, h1, h2, h3, h4, h5⟩ := atI_get he
  obtain ⟨w, ew, rw'⟩ := r.get h2
  have hl := r.length
  have hn := line63
  have fin : EP X pins σ Q w s := ⟨z, H, I, rw', q⟩
  exact subscriptTail_builtinR (x := w) pl.typeIs slot_tuple_getitem.lookup
    (getItem_tuple (j := j) (Q := fun r s' => r = w ∧ EP X pins σ Q r s') pl (by omega) (by omega) (by rw [List.size_toArray, ← hl]; exact h1) (by simpa using ew) ⟨rfl, fin⟩) hs
theorem ix_str : IxR X rIxS := by
  intro value slice pins s σ H x y v u Q I rx ry h hs
  obtain ⟨z, i, c, rfl, rfl, hz, he, q⟩ := h
  obtain ⟨t, rfl⟩ := rx
  obtain ⟨t', rfl⟩ := ry
  obtain ⟨j, h1, h2, h3, h4, h5⟩ := atI_get he
  have hl : z.cps.toList.length = z.length := by simp [Str.length]
  rw [hl] at h1 h4 h5
  have hn := line63
  exact tail_any (typeIs_str s z t) slot_str_getitem.lookup (getItem_str (c := c) (by
    have e1 : decide (i < -(2 ^ 63 : Int)) = false := decide_eq_false (by omega)
    have e2 : decide (i ≥ 2 ^ 63) = false := decide_eq_false (by omega)
    rw [e1, e2, Bool.or_false]) (by rw [h1]; simpa using h2) ⟨.str ⟨#[c]⟩, H, I.tok _, ⟨_, rfl⟩, q⟩) hs
def rIx (K : PySem.W.Frag) : R2 := fun x y H Q => rIxL K x y H Q ∨ rIxT K x y H Q ∨ rIxS x y H Q
theorem ix_seq : IxR X (rIx X.K) := ix_list.or (ix_tup.or ix_str)
theorem mapSeq_set (its : List Value) (n j : Nat) (u : Value) : Obj.mapSeq (·.setIfInBounds j u) { cls := .type "list", data := .seq its.toArray n } = { cls := .type "list", data := .seq (its.set j u).toArray n } := by
  simp [Obj.mapSeq]
theorem Inv.lst {pins : List (Addr × Obj)} {σ : St} {H : Hp} {s : Shared} {p : Addr} {xs : List V} (I : Inv X pins σ H s) (h : H p = some (.lst xs)) :
    ∃ (its : List Value) (n : Nat), Vals xs its ∧ s.heap.get? p = some { cls := .type "list", data := .seq its.toArray n } ∧ xs.length ≤ sizeLine := by
  obtain ⟨z, its, n, r, e⟩ := I.hok p _ h
  exact ⟨its, n, r, e, z⟩
theorem Inv.lstUpd {pins : List (Addr × Obj)} {σ : St} {H : Hp} {s : Shared} {p : Addr} {xs ys : List V} {its its' : List Value} {n n' : Nat} {f : Obj → Obj} (I : Inv X pins σ H s) (h : H p = some (.lst xs))
    (ho : s.heap.get? p = some { cls := .type "list", data := .seq its.toArray n }) (hf : f { cls := .type "list", data := .seq its.toArray n } = { cls := .type "list", data := .seq its'.toArray n' }) (r : Vals ys its') (hz : ys.length ≤ sizeLine) (t : Nat) :
    Inv X pins σ (upd H p (.lst ys)) { s with heap := s.heap.update p f, toks := t } := by
  have e : (s.heap.update p f).get? p = some { cls := .type "list", data := .seq its'.toArray n' } := by
    rw [Heap.get?_update_self f ho (by rw [hf] <;> rfl), hf]
  refine I.write (x := p) (e := p) (by rw [h]; trivial) (.inl rfl) (fun b u hb q => (Heap.get?_update_other _ _ (Ne.symm hb)).trans q) ⟨_, e⟩ ?_
  exact ⟨hz, its', n', r, e⟩
def rSetL : V → V → V → Hp → (Hp → Prop) → Prop := fun o i v H Q => ∃ p xs k j, o = .ref p ∧ i = .int k ∧ H p = some (.lst xs) ∧ ixN xs.length k = some j ∧ Q (upd H p (.lst (xs.set j v)))
theorem set_list : PSet X rSetL := by
  intro pins s σ H o i v ov iv u Q I ro ri rv h
  obtain ⟨p, xs, k, j, rfl, rfl, hp, hj, q⟩ := h
  cases ro
  obtain ⟨t, rfl⟩ := ri
  obtain ⟨its, n, r, ho, hz⟩ := I.lst hp
  obtain ⟨h1, h2, h3, h4⟩ := ixN_seq hj
  have hl := r.length
  have hn := line63
  have I' : Inv X pins σ (upd H p (.lst (xs.set j v))) { s with heap := s.heap.update p (Obj.mapSeq (·.setIfInBounds j u)) } :=
    I.lstUpd hp ho (mapSeq_set its n j u) (r.set rv j) (by rw [List.length_set]; exact hz) s.toks
  by_cases h0 : 0 ≤ k
  · have hk : k.toNat = j := by
      rw [seqIndex_of h0 h4] at h1
      exact Option.some.inj h1
    exact PySem.W.ki_setAt ho h0 (by omega) (by rw [List.size_toArray, ← hl]; exact h4) (by rw [hk]; exact ⟨_, I', q⟩)
  · have hk : (k + (its.toArray.size : Int)).toNat = j := by
      rw [seqIndex_neg (by omega) h3] at h1
      rw [List.size_toArray, ← hl]
      exact Option.some.inj h1
    exact PySem.W.ki_setBack ho (by omega) (by rw [List.size_toArray, ← hl]; exact h3) (by omega) (by rw [hk]; exact ⟨_, I', q⟩)
theorem slice_bounds (lo hi : Option Int) (n : Nat) : (sliceBounds lo hi none n).1 = ((HT.sIx n 0 lo : Nat) : Int) ∧ (sliceBounds lo hi none n).2.1 = ((HT.sIx n n hi : Nat) : Int) ∧ (sliceBounds lo hi none n).2.2 = 1 := by
  refine ⟨?_, ?_, rfl⟩
  · cases lo with
    | none => simp [sliceBounds, HT.sIx]
    | some i =>
      simp only [sliceBounds, HT.sIx, Option.getD_none, show (1 : Int) > 0 by decide, if_true]
      by_cases h : i < 0
      · simp only [h, if_true] <;> omega
      · simp only [h, if_false] <;> omega
  · cases hi with
    | none => simp [sliceBounds, HT.sIx]
    | some i =>
      simp only [sliceBounds, HT.sIx, Option.getD_none, show (1 : Int) > 0 by decide, if_true]
      by_cases h : i < 0
      · simp only [h, if_true] <;> omega
      · simp only [h, if_false] <;> omega
theorem slicePick_cut (its : List Value) (lo hi : Option Int) : slicePick its.toArray lo hi none = ((its.drop (HT.sIx its.length 0 lo)).take (HT.sIx its.length its.length hi - HT.sIx its.length 0 lo)).toArray := by
  obtain ⟨h1, h2, h3⟩ := slice_bounds lo hi its.toArray.size
  unfold slicePick
  rw [h1, h2, h3]
  simp only [sliceRange_one, pick_run, List.size_toArray] <;> rfl
def rSlL (K : PySem.W.Frag) : V → Option Int → Option Int → Hp → VK → Prop := fun x lo hi H Q => ∃ a xs, x = .ref a ∧ SqL K H a xs ∧ ∀ p, H p = none → Q (.ref p) (upd H p (.lst (cutV xs lo hi)))
theorem sl_list : SlR X (rSlL X.K) := by
  intro pins s σ H x v vl vu lo hi sl Q I rx hs pl pu h
  obtain ⟨a, xs, rfl, hx, q⟩ := h
  cases rx
  obtain ⟨its, r, ht, hz⟩ := I.list hx
  have hlen := r.length
  refine ⟨"list", _, slot_list_getitem.lookup, ht.isList.typeIs, ?_⟩
  refine wpAny_getItem_list_slice ht.isList hs pl pu .none (by simp) ?_ (by rw [List.size_toArray] <;> omega)
  rw [slicePick_cut, ← hlen]
  refine ⟨.ref s.heap.objs.size, _, I.laid (t' := s.toks) (o := .lst (cutV xs lo hi)) (fun b ob q => Heap.get?_push_of_some _ q) (Nat.le_refl _) ?_, rfl, q _ (I.hok.fresh (Nat.le_refl _))⟩
  exact ⟨Nat.le_trans (cutV_length xs lo hi) hz, _, 0, (r.drop (HT.sIx xs.length 0 lo)).take (HT.sIx xs.length xs.length hi - HT.sIx xs.length 0 lo), Heap.get?_push_size _ rfl⟩
theorem CallR.or {f : Value} {r r' : List V → Hp → VK → Prop} (h : CallR X f r) (h' : CallR X f r') : CallR X f (fun xs H Q => r xs H Q ∨ r' xs H Q) := by
  intro pins s σ H xs us Q I rs q
  rcases q with q | q
  · exact h pins s σ H xs us Q I rs q
  · exact h' pins s σ H xs us Q I rs q
theorem call_tuple_of : CallR X (.type "tuple") (fun xs H Q => ∃ p ys, xs = [.ref p] ∧ ((SqL X.K H p ys ∧ ∀ l, H l = none → Q (.ref l) (upd H l (.tup ys))) ∨ (SqT X.K H p ys ∧ Q (.ref p) H))) := by
  intro pins s σ H xs us Q I r h
  obtain ⟨p, ys, rfl, h⟩ := h
  obtain ⟨u, rfl, rx⟩ := vals1 r
  cases rx
  rcases h with ⟨hq, q⟩ | ⟨hq, q⟩
  · obtain ⟨its, r', pl, hz⟩ := I.list hq
    have hlen := r'.length
    refine call_tuple_list pl.isList (fun h' kp => ?_) (by simp only [List.size_toArray] <;> omega)
    have I1 : Inv X pins σ H { s with heap := h' } := I.kept (t' := s.toks) kp
    have I2 : Inv X pins σ (upd H h'.objs.size (.tup ys)) { s with heap := h'.push { cls := .type "tuple", data := .seq its.toArray } } :=
      I1.laid (t' := s.toks) (fun b o e => Heap.get?_push_of_some _ e) (Nat.le_refl _) (show ObjOk X.prog X.w _ _ _ (.tup ys) from ⟨hz, its, r', IsTup.new _ _⟩)
    exact ⟨.ref h'.objs.size, _, I2, rfl, q _ (I1.hok.fresh (Nat.le_refl _))⟩
  · obtain ⟨its, r', pl, hz⟩ := I.tuple hq
    exact call_tuple_same pl ⟨.ref p, H, I, rfl, q⟩
def tyV (K : PySem.W.Frag) (T : String) (x : V) (H : Hp) : Prop := match x with
  | .str _ => T = "str"
  | .int _ => T = "int"
  | .ref p => (T = "list" ∧ ∃ xs, SqL K H p xs) ∨ (T = "tuple" ∧ ∃ o, K.lookup p = some o ∧ o.cls = .type "tuple" ∧ o.dict = none) ∨
      (T = "dict" ∧ ((∃ kvs, H p = some (.dK kvs)) ∨ ∃ kvs, H p = some (.dT kvs))) ∨ (T = "set" ∧ ∃ S n, H p = some (.set S n))
  | _ => False
theorem tyV_is {pins : List (Addr × Obj)} {σ : St} {H : Hp} {s : Shared} {T : String} {x : V} {v : Value} (I : Inv X pins σ H s) (r : RelV x v) (ty : tyV X.K T x H) :
    s.TypeIs v T ∧ ∀ a, v = .ref a → ∃ ob, s.heap.get? a = some ob ∧ ob.dict = none := by
  cases x with
  | str z =>
    obtain ⟨t, rfl⟩ := r
    cases (show T = "str" from ty)
    exact ⟨typeIs_str s z t, fun _ e => nomatch e⟩
  | int i =>
    obtain ⟨t, rfl⟩ := r
    cases (show T = "int" from ty)
    exact ⟨typeIs_int s i t, fun _ e => nomatch e⟩
  | ref p =>
    cases r
    rcases ty with ⟨rfl, xs, hq⟩ | ⟨rfl, o, hk, hc, hd⟩ | ⟨rfl, hk⟩ | ⟨rfl, S, n, hk⟩
    · obtain ⟨its, _, pl, _⟩ := I.list hq
      refine ⟨pl.isList.typeIs, fun a e => ?_⟩
      cases e
      obtain ⟨o, n, e, c, hd, _⟩ := pl
      exact ⟨o, e, hd⟩
    · refine ⟨⟨o, I.kIn p o hk, hc⟩, fun a e => ?_⟩
      cases e
      exact ⟨o, I.kIn _ o hk, hd⟩
    · have z : ∃ o, s.heap.get? p = some o ∧ o.ExactDict := by
        rcases hk with ⟨kvs, hk⟩ | ⟨kvs, hk⟩
        · obtain ⟨_, _, _, _, o, _, _, e, ex, _⟩ := I.hok p _ hk
          exact ⟨o, e, ex⟩
        · obtain ⟨_, _, _, _, o, _, _, e, ex, _⟩ := I.hok p _ hk
          exact ⟨o, e, ex⟩
      obtain ⟨o, e, ex⟩ := z
      refine ⟨⟨o, e, ex.1⟩, fun a e2 => ?_⟩
      cases e2
      exact ⟨o, e, ex.2.1⟩
    · obtain ⟨o, _, _, _, e, ex, _⟩ := I.hok p _ hk
      refine ⟨⟨o, e, ex.1⟩, fun a e2 => ?_⟩
      cases e2
      exact ⟨o, e, ex.2.1⟩
  | _ => exact False.elim ty
def tBM (K : PySem.W.Frag) (T : String) (r : V → List V → Hp → VK → Prop) (to : TE) (t : TA) : TE := fun σ H Q => to σ H fun x H1 => tyV K T x H1 ∧ t σ H1 fun xs H2 => r x xs H2 Q
variable {o e : Expr} {es : List Expr} {to : TE} {t : TA} {name : Str} {apos cpos : Pos} {T id : String} {r : V → List V → Hp → VK → Prop}
theorem pe_bm (pa : PlainAttrs T) (slot : Slot T name id) (hty : typeOf (.builtin id) = pure (.type "method_descriptor")) (hm : MtR X id r) (ho : PE X o to) (ha : PA X (e :: es) t)
    (hbase : attributeBase o name X.env (eval o X.env) = eval o X.env := by rfl)
    (hfew : ((backTo cpos (starEach (e :: es) X.env)).all (fun x => !x.1) && (backToKw cpos (keywordEach [] X.env)).all (fun x => x.1.isSome)
      && decide ((e :: es).length + ([] : List Keyword).length + (if ([] : List Keyword).isEmpty then 0 else 1) < 30)) = true := by rfl)
    (hline : (apos.endLine == cpos.line) = true := by rfl) (hs : starEach (e :: es) X.env = (false, eval e X.env) :: starEach es X.env := by rfl) (hplain : (backTo cpos (starEach es X.env)).any (·.1) = false := by rfl) :
    PE X (.Call (.Attribute o name apos) (e :: es) [] cpos) (tBM X.K T r to t) := by
  intro pins s σ H Q I h
  refine wpAny_Call_method_late hbase hfew hline rfl (thn (ho pins s σ H _ I h) fun v s1 ⟨x, H1, I1, r1, ty, q1⟩ => ?_)
  obtain ⟨h1, h2⟩ := tyV_is I1 r1 ty
  refine ⟨T, id, pa, slot, hty, h1, h2, ?_⟩
  have hA := ha cpos pins s1 σ H1 _ I1 q1
  rw [hs] at hA ⊢
  refine Calls.callWith_builtin (by show (false || (backTo cpos (starEach es X.env)).any (·.1)) = false; rw [hplain] <;> rfl) (Calls.evalArgs_plain ?_)
  exact thn hA fun us s2 ⟨vs, H2, I2, r2, q2⟩ => hm pins s2 σ H2 x vs v us Q I2 r1 r2 q2
end
end L2
namespace L2
open PySem PySem.Spec PyProof.Rows
def MtM (X : Cx) (id : String) (r : V → List V → Hp → VK → Prop) : Prop :=
  ∀ (pins : List (Addr × Obj)) (s : Shared) (σ : St) (H : Hp) (x : V) (xs : List V) (v : Value) (us : List Value) (Q : VK), Inv X pins σ H s → RelV x v → Vals xs us → r x xs H Q →
    wpAny (model X.prog X.w) X.A (call (.builtin id) (v :: us)) (EP X pins σ Q) X.xe s
theorem Vals.one : ∀ {x : V} {us : List Value}, Vals [x] us → ∃ u, us = [u] ∧ RelV x u
  | _, _, .cons r .nil => ⟨_, rfl, r⟩
theorem Vals.two : ∀ {x y : V} {us : List Value}, Vals [x, y] us → ∃ u v, us = [u, v] ∧ RelV x u ∧ RelV y v
  | _, _, _, .cons r (.cons q .nil) => ⟨_, _, rfl, r, q⟩
theorem Vals.zero : ∀ {us : List Value}, Vals [] us → us = []
  | _, .nil => rfl
theorem Vals.dropLast {xs : List V} {us : List Value} (h : Vals xs us) : Vals xs.dropLast us.dropLast := by
  induction h with
  | nil => exact .nil
  | cons r t ih =>
    cases t with
    | nil => exact .nil
    | cons q t' => exact .cons r ih
theorem Vals.eraseIdx : ∀ {xs : List V} {us : List Value} (i : Nat), Vals xs us → Vals (xs.eraseIdx i) (us.eraseIdx i)
  | _, _, _, .nil => .nil
  | _, _, 0, .cons _ t => t
  | _, _, i + 1, .cons r t => .cons r (Vals.eraseIdx i t)
theorem Vals.reverse {xs : List V} {us : List Value} (h : Vals xs us) : Vals xs.reverse us.reverse := by
  induction h with
  | nil => exact .nil
  | cons r t ih => rw [List.reverse_cons, List.reverse_cons]; exact Vals.append ih (.cons r .nil)
theorem Vals.rep {xs : List V} {us : List Value} (h : Vals xs us) : ∀ k : Nat, Vals (List.replicate k xs).flatten (List.replicate k us).flatten
  | 0 => .nil
  | k + 1 => by
    rw [List.replicate_succ, List.replicate_succ, List.flatten_cons, List.flatten_cons]
    exact Vals.append h (Vals.rep h k)
theorem len_erase {α : Type} : ∀ (l : List α) (i : Nat), (l.eraseIdx i).length ≤ l.length
  | [], _ => Nat.le_refl _
  | _ :: _, 0 => Nat.le_succ _
  | _ :: r, i + 1 => Nat.succ_le_succ (len_erase r i)
theorem foldl_rep (its : List Value) : ∀ (k : Nat) (acc : List Value),
    List.foldl (fun x1 x2 => x1 ++ x2) acc.toArray (List.replicate k its.toArray) = (acc ++ (List.replicate k its).flatten).toArray
  | 0, acc => by simp
  | k + 1, acc => by
    have e : acc.toArray ++ its.toArray = (acc ++ its).toArray := by simp
    have e2 : (acc ++ its) ++ (List.replicate k its).flatten = acc ++ (List.replicate (k + 1) its).flatten := by
      rw [List.replicate_succ, List.flatten_cons, List.append_assoc]
    rw [← e2, ← foldl_rep its k (acc ++ its), ← e, List.replicate_succ, List.foldl_cons]
section
variable {X : Cx} {pins : List (Addr × Obj)} {σ : St} {H : Hp} {s : Shared} {l b : Addr} {xs ys zs : List V}
theorem Inv.lset {its its' : List Value} {n : Nat} {f : Array Value → Array Value} {t' : Nat} (I : Inv X pins σ H s) (hH : H l = some (.lst xs))
    (e : s.heap.get? l = some { cls := .type "list", data := .seq its.toArray n }) (hf : f its.toArray = its'.toArray) (hv : Vals ys its') (hz : ys.length ≤ sizeLine) :
    Inv X pins σ (upd H l (.lst ys)) { s with heap := s.heap.update l (Obj.mapSeq f), toks := t' } := by
  have q := PySem.IsL.update e f
  rw [hf] at q
  refine I.write (x := l) (e := l) (by rw [hH]; exact trivial) (.inl rfl) (fun b' u hb hu => (Heap.get?_update_other s.heap (Obj.mapSeq f) (Ne.symm hb)).trans hu) ⟨_, q⟩ ?_
  exact ⟨hz, its', _, hv, q⟩
theorem Inv.lnew {its : List Value} {t' : Nat} (I : Inv X pins σ H s) (hv : Vals ys its) (hz : ys.length ≤ sizeLine) :
    Inv X pins σ (upd H s.heap.objs.size (.lst ys)) { s with heap := s.heap.push { cls := .type "list", data := .seq its.toArray }, toks := t' } :=
  I.laid (fun _ _ q => Heap.get?_push_of_some _ q) (Nat.le_refl _) ⟨hz, its, 0, hv, Heap.get?_push_size _ rfl⟩
theorem Inv.fresh (I : Inv X pins σ H s) : H s.heap.objs.size = none := I.hok.fresh (Nat.le_refl _)
theorem Inv.lstM (I : Inv X pins σ H s) (hH : H l = some (.lst xs)) : xs.length ≤ sizeLine ∧ ∃ (its : List Value) (n : Nat), Vals xs its ∧ xs.length = its.length ∧ s.heap.get? l = some { cls := .type "list", data := .seq its.toArray n } := by
  obtain ⟨z, its, n, r, e⟩ := I.hok l _ hH
  exact ⟨z, its, n, r, r.length, e⟩
theorem notLongL {n : Nat} (h : n ≤ sizeLine) : Builtin.List.listTooLong n = false := by
  unfold Builtin.List.listTooLong
  exact decide_eq_false (by omega)
end
section
variable {X : Cx}
def rAppend : V → List V → Hp → VK → Prop := fun x vs H Q => ∃ l xs y, x = .ref l ∧ vs = [y] ∧ H l = some (.lst xs) ∧ xs.length < sizeLine ∧ Q .non (upd H l (.lst (xs ++ [y])))
theorem mt_append : MtM X "list.append" rAppend := by
  intro pins s σ H x vs v us Q I rx rv h
  obtain ⟨l, xs, y, rfl, rfl, hH, hz, q⟩ := h
  cases rx
  obtain ⟨u, rfl, ru⟩ := rv.one
  obtain ⟨z, its, n, r, hl, e⟩ := I.lstM hH
  refine call_meets F.slot_list_append ⟨_, e, rfl⟩ F.entry_list_append (F.args_list_append_2 _ _) (PySem.list_append l its.toArray n u (by rw [List.size_toArray]; omega)) ⟨e, ?_⟩
  refine ⟨.non, _, I.lset (its' := its ++ [u]) hH e (by simp) (r.append (.cons ru .nil)) ?_, rfl, q⟩
  rw [List.length_append, List.length_singleton]
  omega
def rPopAt : V → List V → Hp → VK → Prop := fun x vs H Q => ∃ l xs i k y, x = .ref l ∧ vs = [.int i] ∧ H l = some (.lst xs) ∧ -(2 ^ 63) ≤ i ∧ i < 2 ^ 63 ∧ seqIndex? i xs.length = some k ∧ xs[k]? = some y ∧ Q y (upd H l (.lst (xs.eraseIdx k)))
theorem mt_popAt : MtM X "list.pop" rPopAt := by
  intro pins s σ H x vs v us Q I rx rv h
  obtain ⟨l, xs, i, k, y, rfl, rfl, hH, h1, h2, hk, hy, q⟩ := h
  cases rx
  obtain ⟨u, rfl, ru⟩ := rv.one
  obtain ⟨t, rfl⟩ := ru
  obtain ⟨z, its, n, r, hl, e⟩ := I.lstM hH
  obtain ⟨w, hw, rw'⟩ := r.get hy
  refine call_meets F.slot_list_pop ⟨_, e, rfl⟩ F.entry_list_pop (F.args_list_pop_2 _ _)
    (MeetsSeq.list_pop_at l its.toArray n i t k w (fitsIndex_both h1 h2) (by rw [List.size_toArray, ← hl]; exact hk) (by rw [← Array.getElem?_toList]; exact hw) (by rw [List.size_toArray]; omega)) ⟨e, ?_⟩
  refine ⟨y, _, I.lset (its' := its.eraseIdx k) hH e ?_ (r.eraseIdx k) ?_, rw', q⟩
  · show its.toArray.eraseIdxIfInBounds k = (its.eraseIdx k).toArray
    rw [List.eraseIdxIfInBounds_toArray]
  · have := len_erase xs k
    omega
def rCat : R2 := fun x y H Q => ∃ l b xs zs, x = .ref l ∧ y = .ref b ∧ H l = some (.lst xs) ∧ H b = some (.lst zs) ∧ xs.length + zs.length ≤ sizeLine ∧ ∀ p, H p = none → Q (.ref p) (upd H p (.lst (xs ++ zs)))
theorem op_cat : OpR X (binaryOp .Add) rCat := by
  intro pins s σ H x y v u Q I rx ry h
  obtain ⟨l, b, xs, zs, rfl, rfl, hH, hB, hz, q⟩ := h
  cases rx
  cases ry
  obtain ⟨z, its, n, r, hl, e⟩ := I.lstM hH
  obtain ⟨z2, its2, n2, r2, hl2, e2⟩ := I.lstM hB
  refine PySem.P.add_list e e2 ?_ (by rw [List.size_toArray, List.size_toArray]; omega)
  have ea : its.toArray ++ its2.toArray = (its ++ its2).toArray := by simp
  rw [ea]
  exact ⟨.ref _, _, I.lnew (t' := s.toks) (r.append r2) (by rw [List.length_append]; omega), rfl, q _ I.fresh⟩
def rRep : R2 := fun x y H Q => ∃ l k xs, x = .ref l ∧ y = .int k ∧ H l = some (.lst xs) ∧ -(2 ^ 63) ≤ k ∧ k < 2 ^ 63 ∧ xs.length * k.toNat ≤ sizeLine ∧
  ∀ p, H p = none → Q (.ref p) (upd H p (.lst (List.replicate k.toNat xs).flatten))
theorem len_rep {α : Type} (xs : List α) (k : Nat) : (List.replicate k xs).flatten.length = k * xs.length := by
  induction k with
  | zero => simp
  | succ k ih => rw [List.replicate_succ, List.flatten_cons, List.length_append, ih, Nat.succ_mul, Nat.add_comm]
theorem op_rep : OpR X (binaryOp .Mult) rRep := by
  intro pins s σ H x y v u Q I rx ry h
  obtain ⟨l, k, xs, rfl, rfl, hH, h1, h2, hz, q⟩ := h
  cases rx
  obtain ⟨t, rfl⟩ := ry
  obtain ⟨z, its, n, r, hl, e⟩ := I.lstM hH
  have hlen : its.toArray.size * k.toNat ≤ sizeLine := by rw [List.size_toArray, ← hl]; exact hz
  have hcap : ¬ its.toArray.size * k.toNat > (2 ^ 63 - 1) / 8 := by
    have : (sizeLine : Nat) ≤ (2 ^ 63 - 1) / 8 := by decide
    omega
  have hfit : ¬ (!Builtin.List.listFitsIndex k) = true := by
    rw [fitsIndex_both h1 h2]
    exact Bool.false_ne_true
  have hlong : ¬ Builtin.List.listTooLong (its.toArray.size * k.toNat) = true := by
    rw [notLongL hlen]
    exact Bool.false_ne_true
  have hnew : List.foldl (fun x1 x2 => x1 ++ x2) #[] (List.replicate (if its.toArray.isEmpty = true then 0 else k.toNat) its.toArray) = (List.replicate k.toNat its).flatten.toArray := by
    have f0 : ∀ m : Nat, List.foldl (fun x1 x2 => x1 ++ x2) #[] (List.replicate m its.toArray) = (List.replicate m its).flatten.toArray := fun m => by
      have := foldl_rep its m []
      rw [List.nil_append] at this
      exact this
    rw [f0]
    cases its with
    | nil => simp
    | cons a r' => rw [if_neg (by simp)]
  refine wpAny_binaryOp_repeat_ref (T := "list") (U := "int") (by decide) ⟨_, e, rfl⟩ (fun s' => typeIs_int s' k t) noFill_list_mul F.fills_int_mul F.slot_int_rmul repeat_list F.slot_int_index.lookup
    (call_meets F.slot_int_rmul (typeIs_int s k t) F.entry_int_rmul (F.args_int_rmul_2 _ _) (int___rmul___int_list k t l its.toArray n)
      ⟨e, rfl, ⟨_, e, rfl⟩, call_meets F.slot_list_mul ⟨_, e, rfl⟩ F.entry_list_mul (F.args_list_mul_2 _ _) (AutoListH.list___mul___list_int_3 l its.toArray n k t hfit hcap hlong) ⟨e, ?_⟩⟩)
  rw [hnew]
  exact ⟨.ref _, _, I.lnew (t' := s.toks) (r.rep k.toNat) (by rw [len_rep, Nat.mul_comm]; exact hz), rfl, q _ I.fresh⟩
end
section
variable {prog : Program} {w : World} {A : Around} {E : Value → Shared → Prop} {s : Shared}
end
section
variable {X : Cx}
end
end L2
namespace Att
open PySem PySem.W PySem.Calls PyProof.Rows
theorem ints_of_wellAll {P : Params} {h : Heap} : ∀ (ns : List Int) (vs : List Value), WellAll P h vs (ns.map WData.int) → IntsAre vs ns := by
  intro ns
  induction ns with
  | nil =>
    intro vs w
    rw [List.map_nil] at w
    cases w
    exact .nil
  | cons n ns ih =>
    intro vs w
    rw [List.map_cons] at w
    cases w with
    | cons a b =>
      cases a
      exact .cons _ _ (ih _ b)
theorem script_of {l : OpenLaw} {n : Nat} (hn : l.most = some n) {P : Params} {h : Heap} {args : List WData} {vals : List Value}
    (hpre : l.row.toRowW.claim.pre args = true) (hwl : WellAll P h vals args) :
    ∃ a vs ns, vals = [Value.ref a] ∧ args = [WData.list (ns.map WData.int)] ∧ h.get? a = some { cls := .type "list", data := .seq vs.toArray } ∧ IntsAre vs ns ∧ ns.length ≤ n := by
  have hsh : WShape.hasAll [] args [.list .int] = true := (pre_splitW hpre).1
  have hc : l.pre.holds [] { args := args } = true := (pre_splitW hpre).2
  obtain ⟨d, r, rfl, h1, h2⟩ := hasAllW_cons hsh
  obtain rfl := hasAllW_nil h2
  obtain ⟨xs, rfl, h3⟩ := hasW_list h1
  obtain ⟨ns, rfl⟩ := items_int h3
  have hlen : ns.length ≤ n := by
    unfold OpenLaw.pre at hc
    have h4 : (WTm.not (.lt (.lit (.int (n : Int))) (.len (.arg 0)))).holds [] { args := [.list (ns.map .int)] } = true := by
      have h4 := (holds_andW hc).1
      rw [hn] at h4
      exact h4
    have h5 := condW_of h4 (w_not (w_lt w_lit (w_len_list (w_arg rfl))))
    rw [List.length_map] at h5
    refine Nat.le_of_not_lt fun q => ?_
    have q' : (n : Int) < ((ns.length : Nat) : Int) := by omega
    first
      | (rw [decide_eq_true q'] at h5; exact absurd h5 (by decide))
      | (simp at h5; omega)
  cases hwl with
  | cons w1 w2 =>
    cases w2
    cases w1 with
    | list ho hall => exact ⟨_, _, ns, rfl, rfl, ho, ints_of_wellAll ns _ hall, hlen⟩
theorem post_true (l : OpenLaw) (args : List WData) : l.row.toRowW.claim.post args (.bool true) args = true :=
  postW_of (r := l.row.toRowW) (X := (true == true))
    (show WShape.has [] (.bool true) .bool = true by first | rfl | decide | simp [WShape.has, WShape.arms, WShape.armsAll])
    (show (WTm.eq .res (.lit (.bool true))).value [] { args := args, res := some (.bool true), after := args } = some (.bool (true == true)) from w_eq_bool (w_res rfl) w_lit) rfl
theorem attach_call {l : OpenLaw} {n : Nat} {q : Program} {loose : List Str} {XP : (Str → Option Value) → Heap → Prop} {YP : World → Heap → Prop} {d : DefRec}
    (hn : l.most = some n) (hdf : d.params.defaults = [])
    (call : ∀ (w : World) (s₀ s₁ : Shared) (mg mb : Str → Option Value) (fa : Addr) (o : Obj) (pm cd doc : Value) (a : Addr) (vs : List Value) (ns : List Int),
      Ground q loose [] XP w s₀ mg mb s₁.heap → YP w s₁.heap →
      s₁.heap.get? fa = some o → o.data = .func (docDef d.name d.params d.body d.scope pm cd doc) → s₁.heap.CodeRec cd d.name → mg d.name = some (.ref fa) →
      s₁.heap.get? a = some { cls := .type "list", data := .seq vs.toArray } → IntsAre vs ns → ns.length ≤ n → s₁.gens = #[] →
      codeAny (model l.prog w) callerA (.call (.ref fa) ⟨[.ref a], []⟩) (fun r s' => r = .ok (.ret (.bool true)) ∧ OldK s₁.heap s'.heap ∧ s'.os = s₁.os ∧ AllBare s'.gens) s₁) :
    WalkO q loose XP YP l.row.toRowW d [] (fun f vs => PySem.call f vs) := by
  intro w s₀ s₁ mg mb G Y fa o pm cd doc dV kV ho hd hcd hD hmg hg args vals as hpre hlay hrd hwl hlo
  obtain rfl : dV = .none := Dflts.none hD hdf
  obtain rfl : kV = .none := Dflts.noKw hD
  obtain ⟨a, vs, ns, rfl, rfl, hobj, hints, hlen⟩ := script_of hn hpre hwl
  refine enter_call (codeAny_mono (call w s₀ s₁ mg mb fa o pm cd doc a vs ns G Y ho (fd_plain hd) hcd hmg hobj hints hlen hg) fun r s' hq => ?_)
  obtain ⟨rfl, h2, h3, h4⟩ := hq
  exact ⟨.inl ⟨.bool true, .bool true, [], rfl, fun _ => rfl, .bool true, post_true l _, fun _ => ⟨List.Pairwise.nil, fun _ hm => (nomatch hm)⟩⟩, h2, h3, h4⟩
section
variable {prog : Program} {w : World} {A : Around} {E : Value → Shared → Prop} {s : Shared} {K : Frag}
end
end Att
namespace L2
open PySem PySem.Spec PyProof.Rows
theorem vals_ints : ∀ {vs : List Value} {ns : List Int}, IntsAre vs ns → Vals (ns.map V.int) vs
  | _, _, .nil => .nil
  | _, _, .cons n t h => .cons ⟨t, rfl⟩ (vals_ints h)
def Only (H : Hp) : Prop := ∀ b, H b = none ∨ ∃ o xs, H b = some (.frz o (.lst xs))
theorem law_call {P : Program} {w : World} {K : PySem.W.Frag} {mg mb : Str → Option Value} {CX : CXT} {k : Nat} {fa a : Addr} {fd : FuncData} {x : Str} {sp : Sp} {s₁ : Shared} {vs : List Value} {ns : List Int}
    (KX : K.In s₁.heap) (hns : s₁.heap.Ns mainGlobals mg) (hb : s₁.heap.Ns builtinsNs mb) (hbb : ∀ x : Str, x ≠ "__name__" → mb x = bootBuiltins x) (hlim : s₁.heap.NoLimit) (hg : s₁.gens = #[])
    (ha : s₁.heap.get? a = some { cls := .type "list", data := .seq vs.toArray }) (hi : IntsAre vs ns) (hl : ns.length ≤ sizeLine) (hr : Room k callerA)
    (F : ∀ base : Heap, K.In base → base.Ns mainGlobals mg → FnOk P w K mg base CX k fa fd [x] sp) (hbind : ∀ (s : Shared) (u : Value), BindsTo s fd ⟨[u], []⟩ [(x, u)])
    (hsp : ∀ H : Hp, Only H → SqL K H a (ns.map V.int) → sp [.ref a] H (fun v _ => v = .bl true) fun _ _ _ => False)
    (hCX : ∀ H e s', CX [] H s₁ (fun _ _ _ => False) e s' → False) :
    codeAny (model P w) callerA (.call (.ref fa) ⟨[.ref a], []⟩) (fun r s' => r = .ok (.ret (.bool true)) ∧ OldK s₁.heap s'.heap ∧ s'.os = s₁.os ∧ AllBare s'.gens) s₁ := by
  have rv := vals_ints hi
  have lenV := hi.length
  have core : ∀ H : Hp, Only H → SqL K H a (ns.map V.int) → HOk P w H s₁.heap → (∀ b, H b ≠ none → b = a) → (H a ≠ none → K.lookup a = none) →
      codeAny (model P w) callerA (.call (.ref fa) ⟨[.ref a], []⟩) (fun r s' => r = .ok (.ret (.bool true)) ∧ OldK s₁.heap s'.heap ∧ s'.os = s₁.os ∧ AllBare s'.gens) s₁ := by
    intro H hO hS hok hA hK
    have base_of : ∀ {b : Addr} {o : Obj}, s₁.heap.get? b = some o → H b = none → (hidT s₁.heap H).get? b = some o := fun e n => hidT_get e n
    have noA : ∀ {b : Addr} {o : Obj} {es : Array DictEntry} {ep : Nat}, s₁.heap.get? b = some o → o.data = .dict es ep → H b = none := fun {b o es ep} e d => by
      cases q : H b with
      | none => rfl
      | some u =>
        have e' : b = a := hA b (by rw [q]; simp)
        subst e'
        rw [ha] at e; cases e
        have d' : Data.seq vs.toArray _ = Data.dict es ep := d
        cases d'
    have nsK : ∀ {b : Addr} {m : Str → Option Value}, s₁.heap.Ns b m → (hidT s₁.heap H).Ns b m := fun {b m} ⟨o, es, ep, e, d, r⟩ => ⟨o, es, ep, base_of e (noA e d), d, r⟩
    have hKb : K.In (hidT s₁.heap H) := fun b o e => base_of (KX b o e) (by
      cases q : H b with
      | none => rfl
      | some u =>
        have e' : b = a := hA b (by rw [q]; simp)
        subst e'
        rw [hK (by rw [q]; simp)] at e; cases e)
    have hM : Mod K mg (hidT s₁.heap H) := ⟨hKb, nsK hns, ⟨mb, nsK hb, hbb⟩, let ⟨mc, h1, h2⟩ := hlim; ⟨mc, nsK h1, h2⟩⟩
    have e0 : Env0 P w K mg (hidT s₁.heap H) callerA [] s₁ H := ⟨rfl, hM, fun b o e => of_hidT e, Nat.le_of_eq (hidT_size _ _), trivial, fun b hb => absurd (show b ∈ ([] : List Addr) from hb) (by simp), hok, .of_eq hg⟩
    refine codeAny_mono ((F _ hKb (nsK hns)).run callerA [] s₁ H ⟨[.ref a], []⟩ [.ref a] [.ref a] _ _ hr e0 (hbind s₁ (.ref a)) (.cons rfl .nil) (hsp H hO hS)) fun r s' h => ?_
    cases r with
    | error e => exact (hCX H e s' h).elim
    | ok fl =>
      cases fl with
      | next => exact False.elim h
      | brk => exact False.elim h
      | cont => exact False.elim h
      | ret u =>
        obtain ⟨v, H', os, bare, un, hok', r', q⟩ := h
        have q' : v = .bl true := q
        subst q'
        obtain rfl : u = Value.bool true := r'
        refine ⟨rfl, OldK.of_keep fun b o e => ?_, os, bare⟩
        cases q : H b with
        | none => exact un.keep b o e q (by intro z; exact absurd (show b ∈ ([] : List Addr) from z) (by simp)) (by simp)
        | some u =>
          rcases hO b with z | ⟨ob, xs, z⟩
          · rw [q] at z; cases z
          · have z2 := un.frzs b ob _ z
            obtain ⟨e1, _⟩ := hok b _ z
            obtain ⟨e2, _⟩ := hok' b _ z2
            rw [e] at e1; cases e1
            exact e2
  cases hk : K.lookup a with
  | some o =>
    have e := KX a o hk
    rw [ha] at e
    cases e
    refine core (fun _ => none) (fun _ => .inl rfl) (.inr ⟨_, vs.toArray, _, hk, rfl, rfl, rfl, by rw [List.size_toArray, lenV]; exact hl, by simpa using rv⟩) (fun b u z => by have z' : (none : Option HO) = some u := z; cases z') (fun b z => absurd rfl z) fun z => absurd rfl z
  | none =>
    refine core (fun b => if b = a then some (.frz { cls := .type "list", data := .seq vs.toArray } (.lst (ns.map V.int))) else none) (fun b => ?_) (.inl (.inr ⟨{ cls := .type "list", data := .seq vs.toArray }, if_pos rfl⟩)) (fun b u z => ?_) (fun b z => ?_) fun _ => hk
    · by_cases hb : b = a
      · exact .inr ⟨_, _, if_pos hb⟩
      · exact .inl (if_neg hb)
    · by_cases hb : b = a
      · have z' := (if_pos hb).symm.trans z
        cases z'
        subst hb
        exact ⟨ha, by rw [List.length_map]; exact hl, vs, _, rv, ha⟩
      · have z' := (if_neg hb).symm.trans z
        cases z'
    · by_cases hb : b = a
      · exact hb
      · exact absurd (if_neg hb) z
end L2
namespace L2
open PySem PySem.Spec PyProof.Rows
theorem walk_of {l : PySem.W.OpenLaw} {n k : Nat} {q : Program} {loose : List Str} {XP : (Str → Option Value) → Heap → Prop} {YP : World → Heap → Prop} {d : DefRec} {K : Params → PySem.W.Frag} {CX : World → CXT} {sp : World → Sp} {x : Str}
    (hn : l.most = some n) (hn2 : n ≤ sizeLine) (hdf : d.params.defaults = []) (hr : Room k callerA)
    (hY : ∀ (w : World) (h : Heap), YP w h → (K w.params).In h)
    (F : ∀ (w : World) (mg : Str → Option Value) (fa : Addr) (h : Heap), (K w.params).In h → h.Ns mainGlobals mg → mg d.name = some (.ref fa) →
      ∃ fd : FuncData, (∀ (s : Shared) (u : Value), BindsTo s fd ⟨[u], []⟩ [(x, u)]) ∧
        ∀ base : Heap, (K w.params).In base → base.Ns mainGlobals mg → FnOk l.prog w (K w.params) mg base (CX w) k fa fd [x] (sp w))
    (hsp : ∀ (w : World) (H : Hp) (a : Addr) (ns : List Int), ns.length ≤ n → Only H → SqL (K w.params) H a (ns.map V.int) → sp w [.ref a] H (fun v _ => v = .bl true) fun _ _ _ => False)
    (hCX : ∀ (w : World) (H : Hp) (s : Shared) (e : Value) (s' : Shared), CX w [] H s (fun _ _ _ => False) e s' → False) :
    PySem.W.WalkO q loose XP YP l.row.toRowW d [] (fun f vs => PySem.call f vs) := by
  refine Att.attach_call hn hdf fun w s₀ s₁ mg mb fa o pm cd doc a vs ns G Y ho hd hcd hmg hobj hints hlen hg => ?_
  have KX := hY w _ Y
  obtain ⟨fd, hb, hF⟩ := F w mg fa _ KX G.T.g hmg
  exact law_call KX G.T.g G.T.b G.T.builtins G.T.nolimit hg hobj hints (Nat.le_trans hlen hn2) hr hF hb (fun H hO hS => hsp w H a ns hlen hO hS) fun H e s' => hCX w H s₁ e s'
end L2
namespace L2
open PySem PySem.Spec PyProof.Rows
def inClass (s : Stmt) (j : Nat) : Stmt := match s with
  | .ClassDef _ _ _ body _ _ _ _ _ _ _ => body.getD j (.Pass ⟨0, 0, 0, 0⟩)
  | _ => .Pass ⟨0, 0, 0, 0⟩
def defArgs (s : Stmt) : Arguments := match s with
  | .FunctionDef _ a _ _ _ _ _ _ _ _ => a
  | _ => { posonlyargs := [], args := [], vararg := none, kwonlyargs := [], kw_defaults := [], kwarg := none, defaults := [] }
def defBody (s : Stmt) : List Stmt := match s with
  | .FunctionDef _ _ b _ _ _ _ _ _ _ => b
  | _ => []
def defScope (s : Stmt) : Scope := match s with
  | .FunctionDef _ _ _ _ _ _ sc _ _ _ => sc
  | _ => { kind := .function, names := [], isGenerator := false, isCoroutine := false }
abbrev CX0 : CXT := fun _ _ _ _ _ _ => False
abbrev E0 : XK := fun _ _ _ => False
theorem pass0 {X : Cx} : Passes CX0 X E0 := fun _ _ _ _ _ _ _ h => h.elim
structure Fun (K : PySem.W.Frag) (x qual : Str) (st : Stmt) (f : Addr) (fd : FuncData) : Prop where
  ex : ∃ (oc : Value) (od : Option Addr) (kV doc pm : Value) (an : Option Addr) (cdv ct : Value) (osl : Array (Option Value)),
    fd = PySem.W.fnOf x qual (defArgs st) (defBody st) (defScope st) .none kV doc pm an cdv ct ∧ K.lookup f = some ⟨oc, od, .func fd, osl⟩ ∧ PySem.W.codeIn K cdv qual = true
  kp : PySem.W.keepIn K (.ref f) = true
section
variable {P : Program} {w : World} {K : PySem.W.Frag} {mg : Str → Option Value} {base : Heap}
theorem Fun.ok {x qual : Str} {st : Stmt} {f : Addr} {fd : FuncData} {N ps : List Str} {k : Nat} {sp : Sp} (F : Fun K x qual st f fd) (S : FnScope N ps (defScope st)) (len : ∀ vs H Q E, sp vs H Q E → vs.length = ps.length)
    (hbody : ∀ (cdv : Value) (A : Around) (outer : List Env) (s : Shared) (H : Hp) (vs : List V) (Q : VK) (E : XK), Room k (A.deeper (envOfC qual (defScope st) s.heap.objs.size f cdv)) → sp vs H Q E →
      ∃ t, PSs (cxOf CX0 P w K mg base N qual (defScope st) f cdv A outer s H E).nox (defBody st) t ∧ t { nx := fun _ H' => Q .non H', rt := Q } (start N vs) H) : FnOk P w K mg base CX0 (k + 1) f fd ps sp := by
  obtain ⟨oc, od, kV, doc, pm, an, cdv, ct, osl, rfl, lk, hcd⟩ := F.ex
  refine fn_of lk hcd S len fun A outer s H vs Q E hr hsp => ?_
  obtain ⟨t, h, q⟩ := hbody cdv A outer s H vs Q E hr hsp
  exact ⟨t, h.nox, q⟩
theorem Fun.binds {x qual : Str} {st : Stmt} {f : Addr} {fd : FuncData} {ps : List Str} (F : Fun K x qual st f fd)
    (h : ∀ (kV doc pm : Value) (an : Option Addr) (cdv ct : Value) (us : List Value), us.length = ps.length → bindArgs (PySem.W.fnOf x qual (defArgs st) (defBody st) (defScope st) .none kV doc pm an cdv ct) ⟨us, []⟩ = pure (ps.zip us)) : Binds K fd ps [] := by
  obtain ⟨oc, od, kV, doc, pm, an, cdv, ct, osl, rfl, lk, hcd⟩ := F.ex
  exact .all (h kV doc pm an cdv ct)
theorem fun_mk {x qual : Str} {st : Stmt} {f : Addr} {oc : Value} {od an : Option Addr} {osl : Array (Option Value)} {kV doc pm cdv ct : Value} (l : K.lookup f = some ⟨oc, od, .func (PySem.W.fnOf x qual (defArgs st) (defBody st) (defScope st) .none kV doc pm an cdv ct), osl⟩)
    (c : PySem.W.codeIn K cdv qual = true) (k : PySem.W.keepIn K (.ref f) = true) : Fun K x qual st f (PySem.W.fnOf x qual (defArgs st) (defBody st) (defScope st) .none kV doc pm an cdv ct) := ⟨⟨oc, od, kV, doc, pm, an, cdv, ct, osl, rfl, l, c⟩, k⟩
end
theorem small1000 {n : Nat} (h : n ≤ 1000) : n < sizeLine := Nat.lt_of_le_of_lt h (by decide)
section
variable {X : Cx}
end
theorem iteF {A B : Prop} (h : B) : if false = true then A else B := by
  rw [if_neg Bool.false_ne_true]
  exact h
theorem iteT {A B : Prop} (h : A) : if true = true then A else B := by
  rw [if_pos rfl]
  exact h
def Same (H H' : Hp) : Prop := ∀ b o, H b = some o → H' b = some o
theorem Same.refl (H : Hp) : Same H H := fun _ _ h => h
theorem Same.trans {H H1 H2 : Hp} (a : Same H H1) (b : Same H1 H2) : Same H H2 := fun c o h => b c o (a c o h)
theorem Same.free {H H' : Hp} (e : Same H H') {l : Addr} (h : H' l = Option.none) : H l = Option.none := by
  cases q : H l with
  | none => rfl
  | some o =>
    rw [e l o q] at h
    cases h
theorem Same.seq {K : PySem.W.Frag} {H H' : Hp} {a : Addr} {xs : List V} (e : Same H H') (h : SqL K H a xs) : SqL K H' a xs := by
  rcases h with (h | ⟨o, h⟩) | h
  · exact .inl (.inl (e _ _ h))
  · exact .inl (.inr ⟨o, e _ _ h⟩)
  · exact .inr h
end L2
set_option Elab.async false
set_option linter.all false
set_option maxRecDepth 100000
set_option maxHeartbeats 4000000
namespace L2
open PySem PySem.Spec PyProof.Rows
section
variable {κ : Type} [DecidableEq κ]
def valV (kvs : List (κ × V)) (k : κ) : Option V := (kvs.find? fun kv => decide (kv.1 = k)).map (·.2)
def putK (kvs : List (κ × V)) (k : κ) (v : V) : List (κ × V) :=
  if (kvs.any fun kv => decide (kv.1 = k)) = true then kvs.map (fun kv => if kv.1 = k then (kv.1, v) else kv) else kvs ++ [(k, v)]
def dropK (kvs : List (κ × V)) (k : κ) : List (κ × V) := kvs.filter fun kv => decide (kv.1 ≠ k)
theorem valV_pos {p : κ × V} {r : List (κ × V)} {k : κ} (e : p.1 = k) : valV (p :: r) k = some p.2 := by simp [valV, List.find?_cons, e]
theorem valV_neg {p : κ × V} {r : List (κ × V)} {k : κ} (e : ¬ p.1 = k) : valV (p :: r) k = valV r k := by simp [valV, List.find?_cons, e]
theorem valV_any (k : κ) : ∀ kvs : List (κ × V), (kvs.any fun kv => decide (kv.1 = k)) = (valV kvs k).isSome
  | [] => rfl
  | p :: r => by
    rw [List.any_cons]
    by_cases e : p.1 = k
    · simp only [valV_pos e, decide_eq_true e, Bool.true_or, Option.isSome_some]
    · rw [valV_neg e, decide_eq_false e, Bool.false_or]; exact valV_any k r
theorem RelO.isSome_eq {o : Option V} {u : Option Value} (r : RelO o u) : o.isSome = u.isSome := by
  cases o with
  | none => cases u with
    | none => rfl
    | some _ => exact (show False from r).elim
  | some _ => cases u with
    | none => exact (show False from r).elim
    | some _ => rfl
theorem RelO.getD {o : Option V} {u : Option Value} {d : V} {d' : Value} (r : RelO o u) (rd : RelV d d') : RelV (o.getD d) (u.getD d') := by
  cases o with
  | none => cases u with
    | none => exact rd
    | some _ => exact (show False from r).elim
  | some _ => cases u with
    | none => exact (show False from r).elim
    | some _ => exact r
theorem KV.val {kvs : List (κ × V)} {vs : List (κ × Value)} (r : KV kvs vs) (k : κ) : RelO (valV kvs k) (valueAt vs k) := by
  unfold KV at r
  induction r with
  | nil => exact True.intro
  | @cons p q ps qs h t ih =>
    obtain ⟨h1, h2⟩ := h
    by_cases e : p.1 = k
    · have e' : q.1 = k := h1.symm.trans e
      have b : valueAt (q :: qs) k = some q.2 := by simp [valueAt, List.find?_cons, e']
      rw [valV_pos e, b]; exact h2
    · have e' : ¬ q.1 = k := fun z => e (h1.trans z)
      have b : valueAt (q :: qs) k = valueAt qs k := by simp [valueAt, List.find?_cons, e']
      rw [valV_neg e, b]; exact ih
theorem KV.any {kvs : List (κ × V)} {vs : List (κ × Value)} (r : KV kvs vs) (k : κ) : (kvs.any fun kv => decide (kv.1 = k)) = vs.any fun kv => decide (kv.1 = k) := by
  unfold KV at r
  induction r with
  | nil => rfl
  | cons h t ih => rw [List.any_cons, List.any_cons, ih, h.1]
theorem KV.repl {kvs : List (κ × V)} {vs : List (κ × Value)} (r : KV kvs vs) (k : κ) {y : V} {u : Value} (ry : RelV y u) :
    KV (kvs.map fun kv => if kv.1 = k then (kv.1, y) else kv) (vs.map fun kv => if kv.1 = k then (kv.1, u) else kv) := by
  unfold KV at r ⊢
  induction r with
  | nil => exact .nil
  | @cons p q ps qs h t ih =>
    rw [List.map_cons, List.map_cons]
    refine .cons ?_ ih
    obtain ⟨h1, h2⟩ := h
    by_cases e : p.1 = k
    · rw [if_pos e, if_pos (h1.symm.trans e)]; exact ⟨h1, ry⟩
    · rw [if_neg e, if_neg (fun z => e (h1.trans z))]; exact ⟨h1, h2⟩
theorem KV.put {kvs : List (κ × V)} {vs : List (κ × Value)} (r : KV kvs vs) (k : κ) {y : V} {u : Value} (ry : RelV y u) : KV (putK kvs k y) (stored vs k u) := by
  unfold putK stored
  rw [r.any k]
  by_cases e : (vs.any fun kv => decide (kv.1 = k)) = true
  · rw [if_pos e, if_pos e]; exact r.repl k ry
  · rw [if_neg e, if_neg e]; exact Paired.snoc r ⟨rfl, ry⟩
theorem KV.drop {kvs : List (κ × V)} {vs : List (κ × Value)} (r : KV kvs vs) (k : κ) : KV (dropK kvs k) (without vs k) := by
  unfold KV at r ⊢
  unfold dropK without
  induction r with
  | nil => exact .nil
  | @cons p q ps qs h t ih =>
    obtain ⟨h1, h2⟩ := h
    rw [List.filter_cons, List.filter_cons]
    by_cases e : p.1 = k
    · have a : ¬ decide (p.1 ≠ k) = true := by simp [e]
      have b : ¬ decide (q.1 ≠ k) = true := by simp [h1.symm.trans e]
      rw [if_neg a, if_neg b]; exact ih
    · have e' : ¬ q.1 = k := fun z => e (h1.trans z)
      have a : decide (p.1 ≠ k) = true := by simp [e]
      have b : decide (q.1 ≠ k) = true := by simp [e']
      rw [if_pos a, if_pos b]; exact .cons ⟨h1, h2⟩ ih
theorem KV.keys {kvs : List (κ × V)} {vs : List (κ × Value)} (r : KV kvs vs) : kvs.map (·.1) = vs.map (·.1) := by
  unfold KV at r
  induction r with
  | nil => rfl
  | cons h t ih => rw [List.map_cons, List.map_cons, ih, h.1]
theorem KV.length {kvs : List (κ × V)} {vs : List (κ × Value)} (r : KV kvs vs) : kvs.length = vs.length := Paired.length r
end
abbrev KT (H : Hp) : List (List Key × V) → List (List Key × Addr × Value) → Prop := Paired fun p q => p.1 = q.1 ∧ H q.2.1 = some (.tup (p.1.map kV)) ∧ RelV p.2 q.2.2
theorem KT.val {H : Hp} {kvs : List (List Key × V)} {xs : List (List Key × Addr × Value)} (r : KT H kvs xs) (k : List Key) : RelO (valV kvs k) ((atKey xs k).map (·.2)) := by
  induction r with
  | nil => exact True.intro
  | @cons p q ps qs h t ih =>
    obtain ⟨h1, _, h2⟩ := h
    by_cases e : p.1 = k
    · have e' : q.1 = k := h1.symm.trans e
      have b : atKey (q :: qs) k = some q.2 := by simp [atKey, List.find?_cons, e']
      rw [valV_pos e, b]; exact h2
    · have e' : ¬ q.1 = k := fun z => e (h1.trans z)
      have b : atKey (q :: qs) k = atKey qs k := by simp [atKey, List.find?_cons, e']
      rw [valV_neg e, b]; exact ih
theorem KT.repl {H : Hp} {kvs : List (List Key × V)} {xs : List (List Key × Addr × Value)} (r : KT H kvs xs) (k : List Key) {y : V} {u : Value} (ry : RelV y u) :
    KT H (kvs.map fun kv => if kv.1 = k then (kv.1, y) else kv) (xs.map (putAt k u)) := by
  induction r with
  | nil => exact .nil
  | @cons p q ps qs h t ih =>
    rw [List.map_cons, List.map_cons]
    refine .cons ?_ ih
    obtain ⟨h1, h2, h3⟩ := h
    unfold putAt
    by_cases e : p.1 = k
    · rw [if_pos e, if_pos (h1.symm.trans e)]; exact ⟨h1, h2, ry⟩
    · rw [if_neg e, if_neg (fun z => e (h1.trans z))]; exact ⟨h1, h2, h3⟩
theorem KT.put {H : Hp} {kvs : List (List Key × V)} {xs : List (List Key × Addr × Value)} (r : KT H kvs xs) (k : List Key) {b : Addr} {y : V} {u : Value} (hb : H b = some (.tup (k.map kV))) (ry : RelV y u) :
    KT H (putK kvs k y) (storedH xs k b u) := by
  have e : (kvs.any fun kv => decide (kv.1 = k)) = (atKey xs k).isSome := by
    rw [valV_any, (r.val k).isSome_eq, Option.isSome_map]
  unfold putK storedH
  rw [e]
  by_cases q : (atKey xs k).isSome = true
  · rw [if_pos q, if_pos q]; exact r.repl k ry
  · rw [if_neg q, if_neg q]; exact Paired.snoc r ⟨rfl, hb, ry⟩
theorem KT.keeps {H H' : Hp} {kvs : List (List Key × V)} {xs : List (List Key × Addr × Value)} (r : KT H kvs xs) (ht : ∀ b ys, H b = some (.tup ys) → H' b = some (.tup ys)) : KT H' kvs xs :=
  Paired.mapP r fun _ _ z => ⟨z.1, ht _ _ z.2.1, z.2.2⟩
section
variable {P : Program} {w : World} {H : Hp} {h : Heap} {a : Addr}
end
def DGet (H : Hp) (a : Addr) (y : V) (r : Option V) : Prop :=
  (∃ kvs k, Rd H a (.dK kvs) ∧ y = kV k ∧ r = valV kvs k) ∨ ∃ kvs k b, Rd H a (.dT kvs) ∧ y = .ref b ∧ H b = some (.tup (k.map kV)) ∧ r = valV kvs k
def DPut (H : Hp) (a : Addr) (y v : V) (H' : Hp) : Prop :=
  (∃ kvs k, H a = some (.dK kvs) ∧ y = kV k ∧ kvs.length < sizeLine ∧ H' = upd H a (.dK (putK kvs k v))) ∨
  ∃ kvs k b, H a = some (.dT kvs) ∧ y = .ref b ∧ H b = some (.tup (k.map kV)) ∧ kvs.length < sizeLine ∧ H' = upd H a (.dT (putK kvs k v))
theorem DGet.k {H : Hp} {a : Addr} {kvs : List (Key × V)} {k : Key} (e : H a = some (.dK kvs)) : DGet H a (kV k) (valV kvs k) := .inl ⟨kvs, k, .inl e, rfl, rfl⟩
theorem DGet.t {H : Hp} {a b : Addr} {kvs : List (List Key × V)} {k : List Key} (e : H a = some (.dT kvs)) (eb : H b = some (.tup (k.map kV))) : DGet H a (.ref b) (valV kvs k) := .inr ⟨kvs, k, b, .inl e, rfl, eb, rfl⟩
theorem DPut.k {H : Hp} {a : Addr} {kvs : List (Key × V)} {k : Key} {v : V} (e : H a = some (.dK kvs)) (hl : kvs.length < sizeLine) : DPut H a (kV k) v (upd H a (.dK (putK kvs k v))) := .inl ⟨kvs, k, e, rfl, hl, rfl⟩
theorem DPut.t {H : Hp} {a b : Addr} {kvs : List (List Key × V)} {k : List Key} {v : V} (e : H a = some (.dT kvs)) (eb : H b = some (.tup (k.map kV))) (hl : kvs.length < sizeLine) :
    DPut H a (.ref b) v (upd H a (.dT (putK kvs k v))) := .inr ⟨kvs, k, b, e, rfl, eb, hl, rfl⟩
section
variable {X : Cx} {pins : List (Addr × Obj)} {σ : St} {H : Hp} {s : Shared} {a : Addr} {y v : V} {u r : Value} {o : Option V} {A : Around} {E : Value → Shared → Prop}
end
section
variable {X : Cx} {pins : List (Addr × Obj)} {σ : St} {H : Hp} {s : Shared} {a : Addr} {kvs : List (Key × V)} {k : Key} {u : Value} {A : Around} {E : Value → Shared → Prop}
end
section
variable {X : Cx} {o i e value : Expr} {pos pos' tpos : Pos} {td ty tv : TE}
end
section
variable {X : Cx} {pos : Pos}
end
structure M1 (X : Cx) (o : Expr) (m : Str) (apos : Pos) (e : Expr) (cpos : Pos) : Prop where
  base : attributeBase o m X.env (eval o X.env) = eval o X.env
  few : ((backTo cpos (starEach [e] X.env)).all (fun x => !x.1) && (backToKw cpos (keywordEach [] X.env)).all (fun x => x.1.isSome)
    && decide (([e] : List Expr).length + ([] : List Keyword).length + (if ([] : List Keyword).isEmpty then 0 else 1) < 30)) = true
  line : (apos.endLine == cpos.line) = true
  trees : backTo cpos (starEach [e] X.env) = [(false, eval e X.env)]
structure M2 (X : Cx) (o : Expr) (m : Str) (apos : Pos) (e f : Expr) (cpos : Pos) : Prop where
  base : attributeBase o m X.env (eval o X.env) = eval o X.env
  few : ((backTo cpos (starEach [e, f] X.env)).all (fun x => !x.1) && (backToKw cpos (keywordEach [] X.env)).all (fun x => x.1.isSome)
    && decide (([e, f] : List Expr).length + ([] : List Keyword).length + (if ([] : List Keyword).isEmpty then 0 else 1) < 30)) = true
  line : (apos.endLine == cpos.line) = true
  trees : backTo cpos (starEach [e, f] X.env) = [(false, eval e X.env), (false, eval f X.env)]
section
variable {X : Cx} {pins : List (Addr × Obj)} {σ : St} {H : Hp} {s : Shared} {a : Addr} {y d : V} {u r : Value} {o : Option V} {A : Around} {E : Value → Shared → Prop}
end
section
variable {X : Cx} {o e f : Expr} {apos cpos : Pos} {td ty tx : TE}
end
section
variable {X : Cx} {pins : List (Addr × Obj)} {σ : St} {H : Hp} {s : Shared} {a : Addr} {kvs : List (Key × V)} {A : Around} {E : Value → Shared → Prop}
end
section
variable {X : Cx} {pins : List (Addr × Obj)} {σ : St} {H : Hp} {s : Shared} {a : Addr} {y : V} {u : Value} {A : Around} {E : Value → Shared → Prop}
end
end L2
set_option Elab.async false
set_option linter.all false
set_option maxRecDepth 100000
set_option maxHeartbeats 1000000
namespace MR
open PySem PySem.Spec PyProof.Rows L2
inductive U where
  | non | bl (b : Bool) | int (i : Int) | str (x : Str) | tup (l : List U) | ref (n : Nat)
inductive HU where
  | lst (xs : List U) | ro (xs : List U) | dic (kvs : List (Key × U)) | rod (kvs : List (Key × U)) | ins (C : Str) (fs : List (Str × U)) | exc (C : Str) (fr : Bool) (fs : List (Str × U))
noncomputable abbrev UH := List HU
noncomputable abbrev UE := List (Option U)
section
variable (K : PySem.W.Frag) (H : Hp) (α : List Addr)
mutual
noncomputable def RepU : U → V → Prop
  | .non, v => v = .non
  | .bl b, v => v = .bl b
  | .int i, v => v = .int i
  | .str x, v => v = .str x
  | .tup l, v => ∃ a xs, v = .ref a ∧ SqT K H a xs ∧ RepL l xs
  | .ref n, v => ∃ a, α[n]? = some a ∧ v = .ref a
noncomputable def RepL : List U → List V → Prop
  | [], xs => xs = []
  | u :: l, xs => ∃ x r, xs = x :: r ∧ RepU u x ∧ RepL l r
end
end
noncomputable def Stay (H H' : Hp) : Prop := (∀ b xs, H b = some (.tup xs) → H' b = some (.tup xs)) ∧ ∀ b o u, H b = some (.frz o u) → H' b = some (.frz o u)
theorem Stay.refl (H : Hp) : Stay H H := ⟨fun _ _ q => q, fun _ _ _ q => q⟩
theorem Stay.trans {H H1 H2 : Hp} (a : Stay H H1) (b : Stay H1 H2) : Stay H H2 := ⟨fun c xs q => b.1 c xs (a.1 c xs q), fun c o u q => b.2 c o u (a.2 c o u q)⟩
theorem Stay.sqT {K : PySem.W.Frag} {H H' : Hp} {a : Addr} {xs : List V} (e : Stay H H') (h : SqT K H a xs) : SqT K H' a xs := by
  rcases h with (h | ⟨o, h⟩) | h
  · exact .inl (.inl (e.1 _ _ h))
  · exact .inl (.inr ⟨o, e.2 _ _ _ h⟩)
  · exact .inr h
theorem Stay.new {H : Hp} {p : Addr} (h : H p = none) (o : HO) : Stay H (upd H p o) := ⟨fun b u q => by rw [upd_ne (ne_of_none q h)]; exact q, fun b o u q => by rw [upd_ne (ne_of_none q h)]; exact q⟩
theorem Stay.write {H : Hp} {p : Addr} {o : HO} (h : H p = some o) (m : Mut (some o)) (o' : HO) : Stay H (upd H p o') :=
  ⟨fun b u q => by rw [upd_ne (ne_of q h (fun z => by subst z; exact m))]; exact q, fun b w u q => by rw [upd_ne (ne_of q h (fun z => by subst z; exact m))]; exact q⟩
structure Gr (H : Hp) (α : List Addr) (H' : Hp) (α' : List Addr) : Prop where
  pre : ∃ β, α' = α ++ β
  st : Stay H H'
theorem Gr.refl (H : Hp) (α : List Addr) : Gr H α H α := ⟨⟨[], by simp⟩, .refl H⟩
theorem Gr.trans {H H1 H2 : Hp} {α α1 α2 : List Addr} (a : Gr H α H1 α1) (b : Gr H1 α1 H2 α2) : Gr H α H2 α2 := by
  obtain ⟨⟨β, e⟩, s⟩ := a
  obtain ⟨⟨γ, e'⟩, s'⟩ := b
  exact ⟨⟨β ++ γ, by rw [e', e, List.append_assoc]⟩, s.trans s'⟩
theorem Gr.at {H H' : Hp} {α α' : List Addr} (g : Gr H α H' α') {n : Nat} {a : Addr} (h : α[n]? = some a) : α'[n]? = some a := by
  obtain ⟨β, e⟩ := g.pre
  have hn : n < α.length := (List.getElem?_eq_some_iff.mp h).1
  rw [e, List.getElem?_append_left hn]; exact h
section
variable {K : PySem.W.Frag} {H H' : Hp} {α α' : List Addr}
mutual
theorem RepU.mono (g : Gr H α H' α') : ∀ (u : U) (v : V), RepU K H α u v → RepU K H' α' u v
  | .non, _, h => h
  | .bl _, _, h => h
  | .int _, _, h => h
  | .str _, _, h => h
  | .tup l, v, h => by
    unfold RepU at h ⊢
    obtain ⟨a, xs, e, s, r⟩ := h
    exact ⟨a, xs, e, g.st.sqT s, RepL.mono g l xs r⟩
  | .ref n, v, h => by
    unfold RepU at h ⊢
    obtain ⟨a, e, q⟩ := h
    exact ⟨a, g.at e, q⟩
theorem RepL.mono (g : Gr H α H' α') : ∀ (l : List U) (xs : List V), RepL K H α l xs → RepL K H' α' l xs
  | [], xs, h => h
  | u :: l, xs, h => by
    unfold RepL at h ⊢
    obtain ⟨x, r, e, h1, h2⟩ := h
    exact ⟨x, r, e, RepU.mono g u x h1, RepL.mono g l r h2⟩
end
theorem RepL.length : ∀ {l : List U} {xs : List V}, RepL K H α l xs → l.length = xs.length
  | [], xs, h => by unfold RepL at h; subst h; rfl
  | u :: l, xs, h => by
    unfold RepL at h
    obtain ⟨x, r, e, _, h2⟩ := h
    subst e
    simp [RepL.length h2]
theorem RepL.get : ∀ {l : List U} {xs : List V} {i : Nat} {u : U}, RepL K H α l xs → l[i]? = some u → ∃ x, xs[i]? = some x ∧ RepU K H α u x
  | [], xs, i, u, h, e => by simp at e
  | w :: l, xs, i, u, h, e => by
    unfold RepL at h
    obtain ⟨x, r, e', h1, h2⟩ := h
    subst e'
    cases i with
    | zero => simp at e; subst e; exact ⟨x, rfl, h1⟩
    | succ i => simpa using RepL.get (i := i) h2 (by simpa using e)
theorem RepL.get' {l : List U} {xs : List V} {i : Nat} {x : V} (h : RepL K H α l xs) (e : xs[i]? = some x) : ∃ u, l[i]? = some u ∧ RepU K H α u x := by
  have hi : i < l.length := by rw [h.length]; exact (List.getElem?_eq_some_iff.mp e).1
  obtain ⟨y, e2, r⟩ := h.get (List.getElem?_eq_getElem hi)
  rw [e] at e2; cases e2
  exact ⟨_, List.getElem?_eq_getElem hi, r⟩
theorem RepL.nil : RepL K H α [] [] := by unfold RepL; rfl
theorem RepL.cons {u : U} {l : List U} {x : V} {xs : List V} (h : RepU K H α u x) (t : RepL K H α l xs) : RepL K H α (u :: l) (x :: xs) := by
  unfold RepL; exact ⟨x, xs, rfl, h, t⟩
theorem RepL.append : ∀ {l l' : List U} {xs ys : List V}, RepL K H α l xs → RepL K H α l' ys → RepL K H α (l ++ l') (xs ++ ys)
  | [], l', xs, ys, h, t => by unfold RepL at h; subst h; exact t
  | u :: l, l', xs, ys, h, t => by
    unfold RepL at h
    obtain ⟨x, r, e, h1, h2⟩ := h
    subst e
    exact .cons h1 (RepL.append h2 t)
theorem RepL.take : ∀ {l : List U} {xs : List V} (n : Nat), RepL K H α l xs → RepL K H α (l.take n) (xs.take n)
  | [], xs, n, h => by unfold RepL at h; subst h; simp [RepL.nil]
  | u :: l, xs, 0, h => by simp [RepL.nil]
  | u :: l, xs, n + 1, h => by
    unfold RepL at h
    obtain ⟨x, r, e, h1, h2⟩ := h
    subst e
    exact .cons h1 (RepL.take n h2)
theorem RepL.drop : ∀ {l : List U} {xs : List V} (n : Nat), RepL K H α l xs → RepL K H α (l.drop n) (xs.drop n)
  | [], xs, n, h => by unfold RepL at h; subst h; simp [RepL.nil]
  | u :: l, xs, 0, h => h
  | u :: l, xs, n + 1, h => by
    unfold RepL at h
    obtain ⟨x, r, e, h1, h2⟩ := h
    subst e
    exact RepL.drop n h2
theorem RepL.set {u : U} {x : V} (q : RepU K H α u x) : ∀ {l : List U} {xs : List V} (n : Nat), RepL K H α l xs → RepL K H α (l.set n u) (xs.set n x)
  | [], xs, n, h => by unfold RepL at h; subst h; exact .nil
  | w :: l, xs, 0, h => by
    unfold RepL at h
    obtain ⟨y, r, e, h1, h2⟩ := h
    subst e
    exact .cons q h2
  | w :: l, xs, n + 1, h => by
    unfold RepL at h
    obtain ⟨y, r, e, h1, h2⟩ := h
    subst e
    exact .cons h1 (RepL.set q n h2)
theorem RepL.erase : ∀ {l : List U} {xs : List V} (n : Nat), RepL K H α l xs → RepL K H α (l.eraseIdx n) (xs.eraseIdx n)
  | [], xs, n, h => by unfold RepL at h; subst h; exact .nil
  | w :: l, xs, 0, h => by
    unfold RepL at h
    obtain ⟨y, r, e, h1, h2⟩ := h
    subst e
    exact h2
  | w :: l, xs, n + 1, h => by
    unfold RepL at h
    obtain ⟨y, r, e, h1, h2⟩ := h
    subst e
    exact .cons h1 (RepL.erase n h2)
theorem RepL.reverse : ∀ {l : List U} {xs : List V}, RepL K H α l xs → RepL K H α l.reverse xs.reverse
  | [], xs, h => by unfold RepL at h; subst h; exact .nil
  | w :: l, xs, h => by
    unfold RepL at h
    obtain ⟨y, r, e, h1, h2⟩ := h
    subst e
    rw [List.reverse_cons, List.reverse_cons]
    exact (RepL.reverse h2).append (.cons h1 .nil)
theorem RepL.ints : ∀ (ns : List Int), RepL K H α (ns.map U.int) (ns.map V.int)
  | [] => .nil
  | n :: r => .cons rfl (RepL.ints r)
end
noncomputable def RO (K : PySem.W.Frag) (H : Hp) (a : Addr) (xs : List V) : Prop :=
  (∃ o, H a = some (.frz o (.lst xs))) ∨ ∃ (o : Obj) (its : Array Value) (n : Nat), K.lookup a = some o ∧ o.cls = .type "list" ∧ o.dict = none ∧ o.data = .seq its n ∧ its.size ≤ sizeLine ∧ Vals xs its.toList
theorem RO.sq {K : PySem.W.Frag} {H : Hp} {a : Addr} {xs : List V} (h : RO K H a xs) : SqL K H a xs := by
  rcases h with ⟨o, h⟩ | h
  · exact .inl (.inr ⟨o, h⟩)
  · exact .inr h
theorem RO.stay {K : PySem.W.Frag} {H H' : Hp} {a : Addr} {xs : List V} (st : Stay H H') (h : RO K H a xs) : RO K H' a xs := by
  rcases h with ⟨o, h⟩ | h
  · exact .inl ⟨o, st.2 _ _ _ h⟩
  · exact .inr h
noncomputable def ExcIs (a Ca : Addr) (dd : Option Addr) (fr : Bool) (h : Heap) : Prop := ∃ (o : Obj) (vs : Array Value), h.get? a = some o ∧ o.cls = .ref Ca ∧ o.dict = dd ∧ o.data = .fields vs ∧ 1 < vs.size ∧ o.slots = #[] ∧ (fr = true → vs[1]? = some .none)
noncomputable def DictIs (H : Hp) (dd : Option Addr) (vs : List (Str × V)) : Prop := match dd with
  | none => vs = []
  | some dx => vs ≠ [] ∧ ∃ od, H dx = some (.frz od (.xd vs))
theorem DictIs.stay {H H' : Hp} {dd : Option Addr} {vs : List (Str × V)} (st : ∀ b o ws, H b = some (.frz o (.xd ws)) → H' b = some (.frz o (.xd ws))) (h : DictIs H dd vs) : DictIs H' dd vs := by
  cases dd with
  | none => exact h
  | some dx => obtain ⟨ne, od, q⟩ := h; exact ⟨ne, od, st _ _ _ q⟩
noncomputable def HRep (K : PySem.W.Frag) (H : Hp) (α : List Addr) (a : Addr) : HU → Prop
  | .lst us => ∃ xs, H a = some (.lst xs) ∧ RepL K H α us xs
  | .ro us => ∃ xs, RO K H a xs ∧ RepL K H α us xs
  | .dic kvs => ∃ vs, H a = some (.dK vs) ∧ kvs.map (·.1) = vs.map (·.1) ∧ RepL K H α (kvs.map (·.2)) (vs.map (·.2))
  | .rod kvs => ∃ o vs, H a = some (.frz o (.dK vs)) ∧ kvs.map (·.1) = vs.map (·.1) ∧ RepL K H α (kvs.map (·.2)) (vs.map (·.2))
  | .ins C fs => ∃ Ca dx vs, PySem.W.nsIn K mainGlobals C = some (some (.ref Ca)) ∧ H a = some (.ins Ca dx vs) ∧ fs.map (·.1) = vs.map (·.1) ∧ RepL K H α (fs.map (·.2)) (vs.map (·.2))
  | .exc C fr fs => ∃ Ca dd vs, PySem.W.nsIn K mainGlobals C = some (some (.ref Ca)) ∧ H a = some (.ext (ExcIs a Ca dd fr)) ∧ DictIs H dd vs ∧ fs.map (·.1) = vs.map (·.1) ∧ RepL K H α (fs.map (·.2)) (vs.map (·.2))
noncomputable def HU.isRo : HU → Bool
  | .ro _ => true
  | _ => false
structure Abs (K : PySem.W.Frag) (H : Hp) (α : List Addr) (L : UH) : Prop where
  len : α.length = L.length
  inj : ∀ (i j : Nat) (a : Addr) (o o' : HU), α[i]? = some a → α[j]? = some a → L[i]? = some o → L[j]? = some o' → i = j ∨ o.isRo = true ∨ o'.isRo = true
  rep : ∀ (i : Nat) (a : Addr) (o : HU), α[i]? = some a → L[i]? = some o → HRep K H α a o
theorem Abs.addr {K : PySem.W.Frag} {H : Hp} {α : List Addr} {L : UH} (A : Abs K H α L) {n : Nat} {o : HU} (h : L[n]? = some o) : ∃ a, α[n]? = some a ∧ HRep K H α a o := by
  have hn : n < α.length := by rw [A.len]; exact (List.getElem?_eq_some_iff.mp h).1
  exact ⟨α[n], List.getElem?_eq_getElem hn, A.rep n _ o (List.getElem?_eq_getElem hn) h⟩
theorem HRep.other {K : PySem.W.Frag} {H H' : Hp} {α α' : List Addr} {a : Addr} {o : HU} (g : Gr H α H' α') (hs : o.isRo = true ∨ ∀ u, H a = some u → H' a = some u) (h : HRep K H α a o) : HRep K H' α' a o := by
  cases o with
  | lst us => obtain ⟨xs, e, r⟩ := h; exact ⟨xs, (hs.resolve_left (by simp [HU.isRo])) _ e, r.mono g⟩
  | ro us => obtain ⟨xs, e, r⟩ := h; exact ⟨xs, e.stay g.st, r.mono g⟩
  | dic kvs => obtain ⟨vs, e, k, r⟩ := h; exact ⟨vs, (hs.resolve_left (by simp [HU.isRo])) _ e, k, r.mono g⟩
  | rod kvs => obtain ⟨o, vs, e, k, r⟩ := h; exact ⟨o, vs, (hs.resolve_left (by simp [HU.isRo])) _ e, k, r.mono g⟩
  | ins C fs => obtain ⟨Ca, dx, vs, n, e, k, r⟩ := h; exact ⟨Ca, dx, vs, n, (hs.resolve_left (by simp [HU.isRo])) _ e, k, r.mono g⟩
  | exc C fr fs => obtain ⟨Ca, dd, vs, n, e, d, k, r⟩ := h; exact ⟨Ca, dd, vs, n, (hs.resolve_left (by simp [HU.isRo])) _ e, d.stay fun b o ws q => g.st.2 b o _ q, k, r.mono g⟩
theorem HRep.some {K : PySem.W.Frag} {H : Hp} {α : List Addr} {a : Addr} {o : HU} (h : HRep K H α a o) (n : o.isRo = false) : ∃ u, H a = some u := by
  cases o with
  | lst us => obtain ⟨xs, e, r⟩ := h; exact ⟨_, e⟩
  | ro us => simp [HU.isRo] at n
  | dic kvs => obtain ⟨vs, e, k, r⟩ := h; exact ⟨_, e⟩
  | rod kvs => obtain ⟨o, vs, e, k, r⟩ := h; exact ⟨_, e⟩
  | ins C fs => obtain ⟨Ca, dx, vs, n', e, k, r⟩ := h; exact ⟨_, e⟩
  | exc C fr fs => obtain ⟨Ca, dd, vs, n', e, k, r⟩ := h; exact ⟨_, e⟩
theorem Abs.new {K : PySem.W.Frag} {H : Hp} {α : List Addr} {L : UH} {p : Addr} {o : HO} {u : HU} (A : Abs K H α L) (hp : H p = none) (hr : HRep K (upd H p o) (α ++ [p]) p u) :
    Abs K (upd H p o) (α ++ [p]) (L ++ [u]) ∧ Gr H α (upd H p o) (α ++ [p]) := by
  have g : Gr H α (upd H p o) (α ++ [p]) := ⟨⟨[p], rfl⟩, .new hp o⟩
  have hl := A.len
  refine ⟨⟨by simp [hl], fun i j a o1 o2 e1 e2 e3 e4 => ?_, fun i a o1 e1 e2 => ?_⟩, g⟩
  · have fresh : ∀ (k : Nat) (o3 : HU), α[k]? = some p → L[k]? = some o3 → o3.isRo = true := fun k o3 q1 q2 => by
      cases hh : o3.isRo with
      | true => rfl
      | false =>
        obtain ⟨u3, q⟩ := (A.rep k p o3 q1 q2).some hh
        rw [hp] at q; cases q
    by_cases hi : i < α.length
    · rw [List.getElem?_append_left hi] at e1
      rw [List.getElem?_append_left (by omega)] at e3
      by_cases hj : j < α.length
      · rw [List.getElem?_append_left hj] at e2
        rw [List.getElem?_append_left (by omega)] at e4
        exact A.inj i j a o1 o2 e1 e2 e3 e4
      · rw [List.getElem?_append_right (by omega)] at e2
        have : a = p := by
          cases hk : j - α.length with
          | zero => rw [hk] at e2; simp at e2; exact e2.symm
          | succ k => rw [hk] at e2; simp at e2
        subst this
        exact .inr (.inl (fresh i o1 e1 e3))
    · rw [List.getElem?_append_right (by omega)] at e1
      have hia : a = p ∧ i = α.length := by
        cases hk : i - α.length with
        | zero => rw [hk] at e1; simp at e1; exact ⟨e1.symm, by omega⟩
        | succ k => rw [hk] at e1; simp at e1
      obtain ⟨rfl, hi'⟩ := hia
      by_cases hj : j < α.length
      · rw [List.getElem?_append_left hj] at e2
        rw [List.getElem?_append_left (by omega)] at e4
        exact .inr (.inr (fresh j o2 e2 e4))
      · rw [List.getElem?_append_right (by omega)] at e2
        have : j = α.length := by
          cases hk : j - α.length with
          | zero => omega
          | succ k => rw [hk] at e2; simp at e2
        exact .inl (by omega)
  · by_cases hi : i < α.length
    · rw [List.getElem?_append_left hi] at e1
      rw [List.getElem?_append_left (by omega)] at e2
      refine (A.rep i a o1 e1 e2).other g ?_
      exact .inr fun u3 q => by rw [upd_ne (ne_of_none q hp)]; exact q
    · rw [List.getElem?_append_right (by omega)] at e1
      rw [List.getElem?_append_right (by omega)] at e2
      have h1 : i - α.length = 0 := by
        cases hk : i - α.length with
        | zero => rfl
        | succ k => rw [hk] at e1; simp at e1
      rw [h1] at e1
      rw [show i - L.length = 0 by omega] at e2
      simp at e1 e2
      subst e1; subst e2
      exact hr
theorem Abs.put {K : PySem.W.Frag} {H : Hp} {α : List Addr} {L : UH} {p : Addr} {n : Nat} {o0 o : HO} {u0 u : HU} (A : Abs K H α L) (hn : α[n]? = some p) (hL : L[n]? = some u0) (hro : u0.isRo = false) (hro' : u.isRo = false) (hp : H p = some o0) (hm : Mut (some o0)) (hr : HRep K (upd H p o) α p u) :
    Abs K (upd H p o) α (L.set n u) ∧ Gr H α (upd H p o) α := by
  have g : Gr H α (upd H p o) α := ⟨⟨[], by simp⟩, .write hp hm o⟩
  have hl := A.len
  have hlt : n < L.length := (List.getElem?_eq_some_iff.mp hL).1
  have look : ∀ (i : Nat) (o1 : HU), (L.set n u)[i]? = some o1 → ∃ o2, L[i]? = some o2 ∧ o2.isRo = o1.isRo ∧ (i ≠ n → o2 = o1) := fun i o1 e => by
    by_cases hi : n = i
    · subst hi
      rw [List.getElem?_set_self hlt] at e
      cases e
      exact ⟨u0, hL, by rw [hro, hro'], fun z => absurd rfl z⟩
    · rw [List.getElem?_set_ne hi] at e
      exact ⟨o1, e, rfl, fun _ => rfl⟩
  refine ⟨⟨by simp [hl], fun i j a o1 o2 e1 e2 e3 e4 => ?_, fun i a o1 e1 e2 => ?_⟩, g⟩
  · obtain ⟨x1, q1, r1, _⟩ := look i o1 e3
    obtain ⟨x2, q2, r2, _⟩ := look j o2 e4
    rw [← r1, ← r2]
    exact A.inj i j a x1 x2 e1 e2 q1 q2
  · by_cases hi : n = i
    · subst hi
      rw [List.getElem?_set_self hlt] at e2
      cases e2
      rw [hn] at e1; cases e1
      exact hr
    · rw [List.getElem?_set_ne hi] at e2
      refine (A.rep i a o1 e1 e2).other g ?_
      by_cases hap : a = p
      · subst hap
        rcases A.inj i n a o1 u0 e1 hn e2 hL with z | z | z
        · exact absurd z.symm hi
        · exact .inl z
        · rw [hro] at z; cases z
      · exact .inr fun u3 q => by rw [upd_ne hap]; exact q
structure RepS (K : PySem.W.Frag) (H : Hp) (α : List Addr) (δ : UE) (σ : L2.St) : Prop where
  len : δ.length = σ.length
  at_ : ∀ (i : Nat) (u : U), δ[i]? = some (some u) → ∃ v, σ[i]? = some (some v) ∧ RepU K H α u v
theorem RepS.mono {K : PySem.W.Frag} {H H' : Hp} {α α' : List Addr} {δ : UE} {σ : L2.St} (g : Gr H α H' α') (h : RepS K H α δ σ) : RepS K H' α' δ σ :=
  ⟨h.len, fun i u e => let ⟨v, q, r⟩ := h.at_ i u e; ⟨v, q, r.mono g⟩⟩
theorem RepS.set {K : PySem.W.Frag} {H : Hp} {α : List Addr} {δ : UE} {σ : L2.St} (h : RepS K H α δ σ) (i : Nat) {u : U} {v : V} (r : RepU K H α u v) : RepS K H α (δ.set i (some u)) (σ.set i (some v)) :=
  ⟨by simp [h.len], fun j w e => by
    by_cases hj : i = j
    · subst hj
      by_cases hi : i < δ.length
      · rw [List.getElem?_set_self hi] at e
        cases e
        exact ⟨v, List.getElem?_set_self (by rw [← h.len]; exact hi), r⟩
      · rw [List.getElem?_eq_none (by simpa using hi)] at e; cases e
    · rw [List.getElem?_set_ne hj] at e
      obtain ⟨v', q, r'⟩ := h.at_ j w e
      exact ⟨v', by rw [List.getElem?_set_ne hj]; exact q, r'⟩⟩
theorem RepS.start {K : PySem.W.Frag} {H : Hp} {α : List Addr} (N : List Str) {us : List U} {vs : List V} (h : RepL K H α us vs) : RepS K H α (us.map some ++ List.replicate (N.length - us.length) none) (start N vs) := by
  have hl := h.length
  refine ⟨by simp [L2.start, hl], fun i u e => ?_⟩
  by_cases hi : i < us.length
  · rw [List.getElem?_append_left (by simpa using hi), List.getElem?_map] at e
    cases q : us[i]? with
    | none => rw [q] at e; simp at e
    | some w =>
      rw [q] at e
      simp at e
      subst e
      obtain ⟨x, e2, r⟩ := h.get q
      refine ⟨x, ?_, r⟩
      unfold L2.start
      rw [List.getElem?_append_left (by simp; omega), List.getElem?_map, e2]; rfl
  · rw [List.getElem?_append_right (by simpa using hi)] at e
    have := List.mem_of_getElem? e
    simp at this
noncomputable abbrev FE := UE → UH → Option (U × UH)
noncomputable abbrev FT := UE → UH → Option (Bool × UH)
noncomputable abbrev FA := UE → UH → Option (List U × UH)
noncomputable def lE (K : PySem.W.Frag) (f : FE) : TE := fun σ H Q => ∃ α δ L, Abs K H α L ∧ RepS K H α δ σ ∧ ∃ u L', f δ L = some (u, L') ∧ ∀ v H' α', Gr H α H' α' → Abs K H' α' L' → RepU K H' α' u v → Q v H'
noncomputable def lT (K : PySem.W.Frag) (f : FT) : TT := fun σ H Q => ∃ α δ L, Abs K H α L ∧ RepS K H α δ σ ∧ ∃ b L', f δ L = some (b, L') ∧ ∀ H' α', Gr H α H' α' → Abs K H' α' L' → Q b H'
noncomputable def lA (K : PySem.W.Frag) (f : FA) : TA := fun σ H Q => ∃ α δ L, Abs K H α L ∧ RepS K H α δ σ ∧ ∃ us L', f δ L = some (us, L') ∧ ∀ vs H' α', Gr H α H' α' → Abs K H' α' L' → RepL K H' α' us vs → Q vs H'
noncomputable def PEF (X : Cx) (e : Expr) (f : FE) : Prop := PE X e (lE X.K f)
noncomputable def PTF (X : Cx) (e : Expr) (f : FT) : Prop := PT X e (lT X.K f)
noncomputable def PWF (X : Cx) (e : Expr) (f : FT) : Prop := PW X e (lT X.K f)
noncomputable def PAF (X : Cx) (es : List Expr) (f : FA) : Prop := PA X es (lA X.K f)
section
variable {X : Cx} {e : Expr} {es : List Expr}
theorem PE.imp {t t' : TE} (h : PE X e t) (hi : ∀ σ H Q, t' σ H Q → t σ H Q) : PE X e t' := fun pins s σ H Q I q => h pins s σ H Q I (hi σ H Q q)
theorem PT.imp {t t' : TT} (h : PT X e t) (hi : ∀ σ H Q, t' σ H Q → t σ H Q) : PT X e t' := fun pins s σ H Q I q => h pins s σ H Q I (hi σ H Q q)
theorem PW.imp {t t' : TT} (h : PW X e t) (hi : ∀ σ H Q, t' σ H Q → t σ H Q) : PW X e t' := fun wh pins s σ H Q I q => h wh pins s σ H Q I (hi σ H Q q)
theorem PA.imp {t t' : TA} (h : PA X es t) (hi : ∀ σ H Q, t' σ H Q → t σ H Q) : PA X es t' := fun pos pins s σ H Q I q => h pos pins s σ H Q I (hi σ H Q q)
end
noncomputable def fVar (i : Nat) : FE := fun δ L => (δ[i]?).join.map fun u => (u, L)
noncomputable def fC (u : U) : FE := fun _ L => some (u, L)
section
variable {X : Cx} {a b c e : Expr} {pos : Pos}
theorem pf_v (i : Nat) {x : Str} {pos : Pos} (hN : X.N[i]? = some x := by rfl) (hv : Vis X.env.scope x := by first | exact Or.inl rfl | exact Or.inr (Or.inl rfl) | exact Or.inr (Or.inr rfl))
    (hd : (x == ("__debug__" : Str)) = false := by decide) (hcd : (x == ("__classdict__" : Str)) = false := by decide) : PEF X (.Name x pos) (fVar i) := by
  refine PE.imp (pe_var hN hv hd hcd) ?_
  rintro σ H Q ⟨α, δ, L, A, S, u, L', e, q⟩
  unfold fVar at e
  cases h : δ[i]? with
  | none => rw [h] at e; simp at e
  | some o =>
    cases o with
    | none => rw [h] at e; simp at e
    | some w =>
      rw [h] at e
      simp at e
      obtain ⟨rfl, rfl⟩ := e
      obtain ⟨v, hv, r⟩ := S.at_ i w h
      exact ⟨v, hv, q v H α (.refl _ _) A r⟩
theorem pf_c {v : V} {u : U} (h : PE X e (tC v)) (r : ∀ H α, RepU X.K H α u v) : PEF X e (fC u) := by
  refine PE.imp h ?_
  rintro σ H Q ⟨α, δ, L, A, S, w, L', e, q⟩
  unfold fC at e
  cases e
  exact q v H α (.refl _ _) A (r H α)
theorem pf_int {i : Int} {j pos} : PEF X (.Constant (.int i) j pos) (fC (.int i)) := pf_c pe_int fun _ _ => rfl
theorem pf_bl {b : Bool} {j pos} : PEF X (.Constant (.bool b) j pos) (fC (.bl b)) := pf_c pe_bl fun _ _ => rfl
theorem pf_non {j pos} : PEF X (.Constant .none j pos) (fC .non) := pf_c pe_non fun _ _ => rfl
theorem pf_str {x : Str} {j pos} : PEF X (.Constant (.str x) j pos) (fC (.str x)) := pf_c pe_str fun _ _ => rfl
noncomputable abbrev S2 := U → U → UH → Option (U × UH)
noncomputable def SemR2 (K : PySem.W.Frag) (r : R2) (sem : S2) : Prop := ∀ (H : Hp) (α : List Addr) (L : UH) (u w : U) (x y : V) (z : U) (L' : UH) (Q : VK), Abs K H α L → RepU K H α u x → RepU K H α w y → sem u w L = some (z, L') →
  (∀ v H' α', Gr H α H' α' → Abs K H' α' L' → RepU K H' α' z v → Q v H') → r x y H Q
noncomputable def f2 (sem : S2) (fa fb : FE) : FE := fun δ L => (fa δ L).bind fun p => (fb δ p.2).bind fun q => sem p.1 q.1 q.2
theorem lE_op {K : PySem.W.Frag} {r : R2} {sem : S2} {fa fb : FE} (h : SemR2 K r sem) : ∀ σ H Q, lE K (f2 sem fa fb) σ H Q → tOp r (lE K fa) (lE K fb) σ H Q := by
  rintro σ H Q ⟨α, δ, L, A, S, z, L3, e, q⟩
  obtain ⟨⟨u, L1⟩, e1, e⟩ := Option.bind_eq_some_iff.mp e
  obtain ⟨⟨w, L2⟩, e2, e3⟩ := Option.bind_eq_some_iff.mp e
  refine ⟨α, δ, L, A, S, u, L1, e1, fun x H1 α1 g1 A1 r1 => ⟨α1, δ, L1, A1, S.mono g1, w, L2, e2, fun y H2 α2 g2 A2 r2 => ?_⟩⟩
  exact h H2 α2 L2 u w x y z L3 Q A2 (r1.mono g2) r2 e3 fun v H3 α3 g3 A3 r3 => q v H3 α3 (g1.trans (g2.trans g3)) A3 r3
theorem pf_op {op : Operator} {r : R2} {sem : S2} {fa fb : FE} (ho : OpR X (binaryOp op) r) (h : SemR2 X.K r sem) (ha : PEF X a fa) (hb : PEF X b fb) : PEF X (.BinOp a op b pos) (f2 sem fa fb) := PE.imp (pe_op ho ha hb) (lE_op h)
theorem pf_cmp {op : CmpOp} {r : R2} {sem : S2} {fa fb : FE} (ho : OpR X (compareOp op) r) (h : SemR2 X.K r sem) (ha : PEF X a fa) (hb : PEF X b fb) (hm : behindInMarks op b = false) : PEF X (.Compare a [op] [b] pos) (f2 sem fa fb) := PE.imp (pe_cmpR ho ha hb hm) (lE_op h)
noncomputable def fTest (f : FE) : FT := fun δ L => (f δ L).bind fun p => match p.1 with | .bl k => some (k, p.2) | _ => none
theorem lT_test {K : PySem.W.Frag} {t : TE} {f : FE} (ht : ∀ σ H Q, lE K f σ H Q → t σ H Q) : ∀ σ H Q, lT K (fTest f) σ H Q → tTest t σ H Q := by
  rintro σ H Q ⟨α, δ, L, A, S, b, L1, e, q⟩
  obtain ⟨⟨u, L2⟩, e1, e⟩ := Option.bind_eq_some_iff.mp e
  refine ht σ H _ ⟨α, δ, L, A, S, u, L2, e1, fun x H1 α1 g1 A1 r1 => ?_⟩
  cases u with
  | bl k => simp at e; obtain ⟨rfl, rfl⟩ := e; exact ⟨k, r1, q H1 α1 g1 A1⟩
  | _ => simp at e
theorem ptf_cmp {op : CmpOp} {r : R2} {sem : S2} {fa fb : FE} (ho : OpR X (compareOp op) r) (h : SemR2 X.K r sem) (ha : PEF X a fa) (hb : PEF X b fb) (hm : behindInMarks op b = false) : PTF X (.Compare a [op] [b] pos) (fTest (f2 sem fa fb)) := PT.imp (pt_cmpR ho ha hb hm) (lT_test (lE_op h))
end
end MR
set_option Elab.async false
set_option linter.all false
set_option maxRecDepth 100000
set_option maxHeartbeats 1000000
namespace MR
open PySem PySem.Spec PyProof.Rows L2
section
variable {X : Cx} {a b c e : Expr} {pos : Pos} {rest : List Expr}
noncomputable def fAnd (f g : FT) : FT := fun δ L => (f δ L).bind fun p => if p.1 = true then g δ p.2 else some (false, p.2)
noncomputable def fOr (f g : FT) : FT := fun δ L => (f δ L).bind fun p => if p.1 = true then some (true, p.2) else g δ p.2
noncomputable def fNot (f : FT) : FT := fun δ L => (f δ L).map fun p => (!p.1, p.2)
noncomputable def fAndV (f g : FE) : FE := fun δ L => (f δ L).bind fun p => match p.1 with | .bl k => if k = true then g δ p.2 else some (.bl false, p.2) | _ => none
noncomputable def fOrV (f g : FE) : FE := fun δ L => (f δ L).bind fun p => match p.1 with | .bl k => if k = true then some (.bl true, p.2) else g δ p.2 | _ => none
noncomputable def fNotV (f : FE) : FE := fun δ L => (f δ L).bind fun p => match p.1 with | .bl k => some (.bl (!k), p.2) | _ => none
noncomputable def fIf (c : FT) (f g : FE) : FE := fun δ L => (c δ L).bind fun p => if p.1 = true then f δ p.2 else g δ p.2
theorem pwf_and1 {f : FT} (ha : PTF X a f) : PWF X (.BoolOp .And [a] pos) f := pw_and1 ha
theorem pwf_or1 {f : FT} (ha : PTF X a f) : PWF X (.BoolOp .Or [a] pos) f := pw_or1 ha
theorem pwf_and {f g : FT} (ha : PTF X a f) (hb : PWF X (.BoolOp .And (b :: rest) pos) g) : PWF X (.BoolOp .And (a :: b :: rest) pos) (fAnd f g) := by
  refine PW.imp (pw_and ha hb) ?_
  rintro σ H Q ⟨α, δ, L, A, S, z, L3, e, q⟩
  obtain ⟨⟨u, L1⟩, e1, e⟩ := Option.bind_eq_some_iff.mp e
  refine ⟨α, δ, L, A, S, u, L1, e1, fun H1 α1 g1 A1 => ?_⟩
  cases u with
  | true => exact iteT ⟨α1, δ, L1, A1, S.mono g1, z, L3, e, fun H2 α2 g2 A2 => q H2 α2 (g1.trans g2) A2⟩
  | false => cases e; exact iteF (q H1 α1 g1 A1)
theorem pwf_or {f g : FT} (ha : PTF X a f) (hb : PWF X (.BoolOp .Or (b :: rest) pos) g) : PWF X (.BoolOp .Or (a :: b :: rest) pos) (fOr f g) := by
  refine PW.imp (pw_or ha hb) ?_
  rintro σ H Q ⟨α, δ, L, A, S, z, L3, e, q⟩
  obtain ⟨⟨u, L1⟩, e1, e⟩ := Option.bind_eq_some_iff.mp e
  refine ⟨α, δ, L, A, S, u, L1, e1, fun H1 α1 g1 A1 => ?_⟩
  cases u with
  | false => exact iteF ⟨α1, δ, L1, A1, S.mono g1, z, L3, e, fun H2 α2 g2 A2 => q H2 α2 (g1.trans g2) A2⟩
  | true => cases e; exact iteT (q H1 α1 g1 A1)
theorem PWF.pt {f : FT} (h : PWF X e f) : PTF X e f := PW.pt h
theorem ptf_not {f : FT} (ha : PTF X a f) : PTF X (.UnaryOp .Not a pos) (fNot f) := by
  refine PT.imp (pt_not ha) ?_
  rintro σ H Q ⟨α, δ, L, A, S, z, L3, e, q⟩
  obtain ⟨⟨u, L1⟩, e1, e⟩ := Option.map_eq_some_iff.mp e
  cases e
  exact ⟨α, δ, L, A, S, u, L1, e1, fun H1 α1 g1 A1 => q H1 α1 g1 A1⟩
theorem pf_one {op} {f : FE} (h : PEF X a f) : PEF X (.BoolOp op [a] pos) f := pe_one h
theorem pf_and {f g : FE} (ha : PEF X a f) (hb : PEF X (.BoolOp .And (b :: rest) pos) g) : PEF X (.BoolOp .And (a :: b :: rest) pos) (fAndV f g) := by
  refine PE.imp (pe_and ha hb) ?_
  rintro σ H Q ⟨α, δ, L, A, S, z, L3, e, q⟩
  obtain ⟨⟨u, L1⟩, e1, e⟩ := Option.bind_eq_some_iff.mp e
  refine ⟨α, δ, L, A, S, u, L1, e1, fun v H1 α1 g1 A1 r1 => ?_⟩
  cases u with
  | bl k =>
    cases k with
    | true => exact ⟨true, r1, iteT ⟨α1, δ, L1, A1, S.mono g1, z, L3, e, fun v H2 α2 g2 A2 r => q v H2 α2 (g1.trans g2) A2 r⟩⟩
    | false => cases e; exact ⟨false, r1, iteF (q _ H1 α1 g1 A1 rfl)⟩
  | _ => simp at e
theorem pf_not {f : FE} (ha : PEF X a f) : PEF X (.UnaryOp .Not a pos) (fNotV f) := by
  refine PE.imp (pe_not ha) ?_
  rintro σ H Q ⟨α, δ, L, A, S, z, L3, e, q⟩
  obtain ⟨⟨u, L1⟩, e1, e⟩ := Option.bind_eq_some_iff.mp e
  refine ⟨α, δ, L, A, S, u, L1, e1, fun v H1 α1 g1 A1 r1 => ?_⟩
  cases u with
  | bl k => cases e; exact ⟨k, r1, q _ H1 α1 g1 A1 rfl⟩
  | _ => simp at e
noncomputable def fNil : FA := fun _ L => some ([], L)
noncomputable def fCons (f : FE) (g : FA) : FA := fun δ L => (f δ L).bind fun p => (g δ p.2).map fun q => (p.1 :: q.1, q.2)
theorem paf_nil : PAF X [] fNil := by
  refine PA.imp pa_nil ?_
  rintro σ H Q ⟨α, δ, L, A, S, z, L3, e, q⟩
  cases e
  exact q [] H α (.refl _ _) A .nil
theorem paf_cons {es : List Expr} {f : FE} {g : FA} (ha : PEF X e f) (hr : PAF X es g) (hs : starEach (e :: es) X.env = (false, eval e X.env) :: starEach es X.env := by rfl) : PAF X (e :: es) (fCons f g) := by
  refine PA.imp (pa_cons ha hr hs) ?_
  rintro σ H Q ⟨α, δ, L, A, S, z, L3, e, q⟩
  obtain ⟨⟨u, L1⟩, e1, e⟩ := Option.bind_eq_some_iff.mp e
  obtain ⟨⟨us, L2⟩, e2, e⟩ := Option.map_eq_some_iff.mp e
  cases e
  exact ⟨α, δ, L, A, S, u, L1, e1, fun x H1 α1 g1 A1 r1 => ⟨α1, δ, L1, A1, S.mono g1, us, L2, e2, fun xs H2 α2 g2 A2 r2 => q (x :: xs) H2 α2 (g1.trans g2) A2 (.cons (r1.mono g2) r2)⟩⟩
noncomputable def small (n : Nat) : Bool := decide (n ≤ sizeLine)
noncomputable def fTup (g : FA) : FE := fun δ L => (g δ L).bind fun p => if small p.1.length = true then some (.tup p.1, p.2) else none
noncomputable def fLst (g : FA) : FE := fun δ L => (g δ L).bind fun p => if small p.1.length = true then some (.ref p.2.length, p.2 ++ [.lst p.1]) else none
theorem small_le {n : Nat} (h : small n = true) : n ≤ sizeLine := of_decide_eq_true h
theorem Abs.tup {K : PySem.W.Frag} {H : Hp} {α : List Addr} {L : UH} {p : Addr} {us : List U} {xs : List V} (A : Abs K H α L) (r : RepL K H α us xs) (hp : H p = none) :
    Gr H α (upd H p (.tup xs)) α ∧ Abs K (upd H p (.tup xs)) α L ∧ RepU K (upd H p (.tup xs)) α (.tup us) (.ref p) := by
  have g : Gr H α (upd H p (.tup xs)) α := ⟨⟨[], by simp⟩, .new hp _⟩
  refine ⟨g, ⟨A.len, A.inj, fun i a o e1 e2 => (A.rep i a o e1 e2).other g (.inr fun u q => by rw [upd_ne (ne_of_none q hp)]; exact q)⟩, ?_⟩
  unfold RepU
  exact ⟨p, xs, rfl, .of upd_same, r.mono g⟩
theorem Abs.lst {K : PySem.W.Frag} {H : Hp} {α : List Addr} {L : UH} {p : Addr} {us : List U} {xs : List V} (A : Abs K H α L) (r : RepL K H α us xs) (hp : H p = none) :
    Gr H α (upd H p (.lst xs)) (α ++ [p]) ∧ Abs K (upd H p (.lst xs)) (α ++ [p]) (L ++ [.lst us]) ∧ RepU K (upd H p (.lst xs)) (α ++ [p]) (.ref L.length) (.ref p) := by
  have g : Gr H α (upd H p (.lst xs)) (α ++ [p]) := ⟨⟨[p], rfl⟩, .new hp _⟩
  obtain ⟨A', _⟩ := A.new (o := .lst xs) (u := .lst us) hp ⟨xs, upd_same, r.mono g⟩
  refine ⟨g, A', ?_⟩
  unfold RepU
  exact ⟨p, by rw [← A.len]; simp, rfl⟩
theorem pf_tup {es : List Expr} {g : FA} {x1} (h : PAF X es g) : PEF X (.Tuple es x1 pos) (fTup g) := by
  refine PE.imp (pe_tup h) ?_
  rintro σ H Q ⟨α, δ, L, A, S, z, L3, e, q⟩
  obtain ⟨⟨us, L1⟩, e1, e⟩ := Option.bind_eq_some_iff.mp e
  refine ⟨α, δ, L, A, S, us, L1, e1, fun xs H1 α1 g1 A1 r1 => ?_⟩
  simp only at e
  split at e
  · rename_i hs
    cases e
    refine ⟨by rw [← r1.length]; exact small_le hs, fun p hp => ?_⟩
    obtain ⟨g2, A2, r2⟩ := A1.tup r1 hp
    exact q _ _ α1 (g1.trans g2) A2 r2
  · cases e
theorem pf_lst {es : List Expr} {g : FA} (h : PAF X es g) : PEF X (.List es pos) (fLst g) := by
  refine PE.imp (pe_lst h) ?_
  rintro σ H Q ⟨α, δ, L, A, S, z, L3, e, q⟩
  obtain ⟨⟨us, L1⟩, e1, e⟩ := Option.bind_eq_some_iff.mp e
  refine ⟨α, δ, L, A, S, us, L1, e1, fun xs H1 α1 g1 A1 r1 => ?_⟩
  simp only at e
  split at e
  · rename_i hs
    cases e
    refine ⟨by rw [← r1.length]; exact small_le hs, fun p hp => ?_⟩
    obtain ⟨g2, A2, r2⟩ := A1.lst r1 hp
    exact q _ _ _ (g1.trans g2) A2 r2
  · cases e
noncomputable abbrev SC := List U → UH → Option (U × UH)
noncomputable def SemC (K : PySem.W.Frag) (r : List V → Hp → VK → Prop) (sem : SC) : Prop := ∀ (H : Hp) (α : List Addr) (L : UH) (us : List U) (xs : List V) (z : U) (L' : UH) (Q : VK), Abs K H α L → RepL K H α us xs → sem us L = some (z, L') →
  (∀ v H' α', Gr H α H' α' → Abs K H' α' L' → RepU K H' α' z v → Q v H') → r xs H Q
noncomputable def fCall (sem : SC) (g : FA) : FE := fun δ L => (g δ L).bind fun p => sem p.1 p.2
theorem lE_cb {K : PySem.W.Frag} {r : List V → Hp → VK → Prop} {sem : SC} {g : FA} (h : SemC K r sem) : ∀ σ H Q, lE K (fCall sem g) σ H Q → tCB r (lA K g) σ H Q := by
  rintro σ H Q ⟨α, δ, L, A, S, z, L3, e, q⟩
  obtain ⟨⟨us, L1⟩, e1, e⟩ := Option.bind_eq_some_iff.mp e
  exact ⟨α, δ, L, A, S, us, L1, e1, fun xs H1 α1 g1 A1 r1 => h H1 α1 L1 us xs z L3 Q A1 r1 e fun v H2 α2 g2 A2 r2 => q v H2 α2 (g1.trans g2) A2 r2⟩
variable {x : Str} {p : Pos} {es : List Expr} {id T : String} {r : List V → Hp → VK → Prop} {sem : SC} {g : FA}
theorem pf_callB (hc : CallR X (.builtin id) r) (h : SemC X.K r sem) (hg : Gl X x) (hm : X.mg x = none) (hv : bootBuiltins x = some (.builtin id)) (ha : PAF X (e :: es) g) (hn : x ≠ "__name__" := by decide) (hdb : (x == ("__debug__" : Str)) = false := by decide)
    (he : starEach (e :: es) X.env = (false, eval e X.env) :: starEach es X.env := by rfl) (hpl : (backTo pos (starEach es X.env)).any (·.1) = false := by rfl) :
    PEF X (.Call (.Name x p) (e :: es) [] pos) (fCall sem g) := PE.imp (pe_callB hc hg hm hv ha hn hdb he hpl) (lE_cb h)
theorem pf_callTy (hc : CallR X (.type T) r) (h : SemC X.K r sem) (hg : Gl X x) (hm : X.mg x = none) (hv : bootBuiltins x = some (.type T)) (ha : PAF X (e :: es) g) (hn : x ≠ "__name__" := by decide) (hdb : (x == ("__debug__" : Str)) = false := by decide)
    (he : starEach (e :: es) X.env = (false, eval e X.env) :: starEach es X.env := by rfl) (hpl : (backTo pos (starEach es X.env)).any (·.1) = false := by rfl) :
    PEF X (.Call (.Name x p) (e :: es) [] pos) (fCall sem g) := PE.imp (pe_callTy hc hg hm hv ha hn hdb he hpl) (lE_cb h)
noncomputable abbrev SM := U → List U → UH → Option (U × UH)
noncomputable def SemM (K : PySem.W.Frag) (r : V → List V → Hp → VK → Prop) (sem : SM) : Prop := ∀ (H : Hp) (α : List Addr) (L : UH) (u : U) (us : List U) (x : V) (xs : List V) (z : U) (L' : UH) (Q : VK), Abs K H α L → RepU K H α u x → RepL K H α us xs → sem u us L = some (z, L') →
  (∀ v H' α', Gr H α H' α' → Abs K H' α' L' → RepU K H' α' z v → Q v H') → r x xs H Q
noncomputable def tyU (T : String) (u : U) (L : UH) : Bool := match u with
  | .str _ => T == "str"
  | .int _ => T == "int"
  | .ref n => match L[n]? with
    | some (.lst _) => T == "list"
    | some (.ro _) => T == "list"
    | some (.dic _) => T == "dict"
    | _ => false
  | _ => false
theorem tyU_ok {K : PySem.W.Frag} {H : Hp} {α : List Addr} {L : UH} {u : U} {x : V} (A : Abs K H α L) (r : RepU K H α u x) (h : tyU T u L = true) : tyV K T x H := by
  cases u with
  | str y => unfold RepU at r; subst r; simpa [tyU, tyV] using h
  | int i => unfold RepU at r; subst r; simpa [tyU, tyV] using h
  | ref n =>
    unfold RepU at r
    obtain ⟨a, ea, rfl⟩ := r
    unfold tyU at h
    simp only at h
    cases q : L[n]? with
    | none => rw [q] at h; simp at h
    | some o =>
      have hr := A.rep n a o ea q
      rw [q] at h
      cases o with
      | lst us => simp at h; obtain ⟨xs, e, _⟩ := hr; exact .inl ⟨h, xs, .of e⟩
      | ro us => simp at h; obtain ⟨xs, e, _⟩ := hr; exact .inl ⟨h, xs, e.sq⟩
      | dic kvs => simp at h; obtain ⟨vs, e, _⟩ := hr; exact .inr (.inr (.inl ⟨h, .inl ⟨vs, e⟩⟩))
      | rod kvs => simp at h
      | ins C fs => simp at h
      | exc C fr fs => simp at h
  | non => simp [tyU] at h
  | bl b => simp [tyU] at h
  | tup l => simp [tyU] at h
noncomputable def fMeth (T : String) (sem : SM) (f : FE) (g : FA) : FE := fun δ L => (f δ L).bind fun p => if tyU T p.1 p.2 = true then (g δ p.2).bind fun q => sem p.1 q.1 q.2 else none
theorem lE_bm {K : PySem.W.Frag} {r : V → List V → Hp → VK → Prop} {sem : SM} {f : FE} {g : FA} (h : SemM K r sem) : ∀ σ H Q, lE K (fMeth T sem f g) σ H Q → tBM K T r (lE K f) (lA K g) σ H Q := by
  rintro σ H Q ⟨α, δ, L, A, S, z, L3, e, q⟩
  obtain ⟨⟨u, L1⟩, e1, e⟩ := Option.bind_eq_some_iff.mp e
  simp only at e
  split at e
  · rename_i ht
    obtain ⟨⟨us, L2⟩, e2, e⟩ := Option.bind_eq_some_iff.mp e
    refine ⟨α, δ, L, A, S, u, L1, e1, fun x H1 α1 g1 A1 r1 => ⟨tyU_ok A1 r1 ht, α1, δ, L1, A1, S.mono g1, us, L2, e2, fun xs H2 α2 g2 A2 r2 => ?_⟩⟩
    exact h H2 α2 L2 u us x xs z L3 Q A2 (r1.mono g2) r2 e fun v H3 α3 g3 A3 r3 => q v H3 α3 (g1.trans (g2.trans g3)) A3 r3
  · cases e
section
variable {o e : Expr} {es : List Expr} {f : FE} {g : FA} {name : Str} {apos cpos : Pos} {T id : String} {r : V → List V → Hp → VK → Prop} {sem : SM}
theorem pf_bm (pa : PlainAttrs T) (slot : Slot T name id) (hty : typeOf (.builtin id) = pure (.type "method_descriptor")) (hm : MtR X id r) (h : SemM X.K r sem) (ho : PEF X o f) (ha : PAF X (e :: es) g)
    (hbase : attributeBase o name X.env (eval o X.env) = eval o X.env := by rfl)
    (hfew : ((backTo cpos (starEach (e :: es) X.env)).all (fun x => !x.1) && (backToKw cpos (keywordEach [] X.env)).all (fun x => x.1.isSome) && decide ((e :: es).length + ([] : List Keyword).length + (if ([] : List Keyword).isEmpty then 0 else 1) < 30)) = true := by rfl)
    (hline : (apos.endLine == cpos.line) = true := by rfl) (hst : starEach (e :: es) X.env = (false, eval e X.env) :: starEach es X.env := by rfl) (hpl : (backTo cpos (starEach es X.env)).any (·.1) = false := by rfl) :
    PEF X (.Call (.Attribute o name apos) (e :: es) [] cpos) (fMeth T sem f g) :=
  PE.imp (pe_bm pa slot hty hm ho ha hbase hfew hline hst hpl) (lE_bm h)
end
end
end MR
set_option Elab.async false
set_option linter.all false
set_option maxRecDepth 100000
set_option maxHeartbeats 1000000
namespace MR
open PySem PySem.Spec PyProof.Rows L2
noncomputable abbrev FN := List U → UH → Option (U × UH)
noncomputable def spF (K : PySem.W.Frag) (n : Nat) (f : FN) : Sp := fun vs H Q _ => ∃ α L us, Abs K H α L ∧ RepL K H α us vs ∧ us.length = n ∧ ∃ u L', f us L = some (u, L') ∧ ∀ v H' α', Gr H α H' α' → Abs K H' α' L' → RepU K H' α' u v → Q v H'
section
variable {X : Cx} {a b c e o : Expr} {es : List Expr} {pos p : Pos} {x : Str} {k : Nat} {f : Addr} {fd : FuncData} {ps : List Str} {F : FN} {g : FA} {fa fb fc : FE}
noncomputable def fOwn (n : Nat) (F : FN) (g : FA) : FE := fun δ L => (g δ L).bind fun p => if p.1.length = n then F p.1 p.2 else none
theorem pf_call {n : Nat} (hF : FnOk X.prog X.w X.K X.mg X.base CX0 k f fd ps (spF X.K n F)) (hr : Room k X.A) (hg : Gl X x) (hm : X.mg x = some (.ref f)) (hk : PySem.W.keepIn X.K (.ref f) = true) (hb : Binds X.K fd ps [])
    (ha : PAF X (e :: es) g) (hdb : (x == ("__debug__" : Str)) = false := by decide) (he : starEach (e :: es) X.env = (false, eval e X.env) :: starEach es X.env := by rfl) (hpl : (backTo pos (starEach es X.env)).any (·.1) = false := by rfl) :
    PEF X (.Call (.Name x p) (e :: es) [] pos) (fOwn n F g) := by
  refine PE.imp (pe_call hF hr hg hm hk hb .nil pass0 ha hdb he hpl) ?_
  rintro σ H Q ⟨α, δ, L, A, S, z, L3, e, q⟩
  obtain ⟨⟨us, L1⟩, e1, e⟩ := Option.bind_eq_some_iff.mp e
  simp only at e
  split at e
  · rename_i hl
    refine ⟨α, δ, L, A, S, us, L1, e1, fun xs H1 α1 g1 A1 r1 => ?_⟩
    exact ⟨α1, L1, us, A1, by rw [List.append_nil]; exact r1, hl, z, L3, e, fun v H2 α2 g2 A2 r2 => q v H2 α2 (g1.trans g2) A2 r2⟩
  · cases e
theorem pf_ix {r : R2} {sem : S2} (hr : IxR X r) (h : SemR2 X.K r sem) (ha : PEF X a fa) (hb : PEF X b fb) (hs : PlainIx b) : PEF X (.Subscript a b pos) (f2 sem fa fb) := PE.imp (pe_ix hr ha hb hs) (lE_op h)
noncomputable abbrev FO := UE → UH → Option (Option Int × UH)
noncomputable def lO (K : PySem.W.Frag) (f : FO) : TO := fun σ H Q => ∃ α δ L, Abs K H α L ∧ RepS K H α δ σ ∧ ∃ i L', f δ L = some (i, L') ∧ ∀ H' α', Gr H α H' α' → Abs K H' α' L' → Q i H'
noncomputable def POF (X : Cx) (e : Option Expr) (f : FO) : Prop := PO X e (lO X.K f)
noncomputable def fNoPart : FO := fun _ L => some (none, L)
noncomputable def fPart (f : FE) : FO := fun δ L => (f δ L).bind fun p => match p.1 with | .int i => some (some i, p.2) | _ => none
theorem PO.imp {e : Option Expr} {t t' : TO} (h : PO X e t) (hi : ∀ σ H Q, t' σ H Q → t σ H Q) : PO X e t' := fun pins s σ H Q I q => h pins s σ H Q I (hi σ H Q q)
theorem pof_none : POF X none fNoPart := by
  refine PO.imp po_none ?_
  rintro σ H Q ⟨α, δ, L, A, S, z, L3, e, q⟩
  cases e
  exact q H α (.refl _ _) A
theorem pof_some (h : PEF X e fa) : POF X (some e) (fPart fa) := by
  refine PO.imp (po_some h) ?_
  rintro σ H Q ⟨α, δ, L, A, S, z, L3, e, q⟩
  obtain ⟨⟨u, L1⟩, e1, e⟩ := Option.bind_eq_some_iff.mp e
  refine ⟨α, δ, L, A, S, u, L1, e1, fun x H1 α1 g1 A1 r1 => ?_⟩
  cases u with
  | int i => cases e; exact ⟨i, r1, q H1 α1 g1 A1⟩
  | _ => simp at e
noncomputable abbrev SS := U → Option Int → Option Int → UH → Option (U × UH)
noncomputable def SemSl (K : PySem.W.Frag) (r : V → Option Int → Option Int → Hp → VK → Prop) (sem : SS) : Prop := ∀ (H : Hp) (α : List Addr) (L : UH) (u : U) (x : V) (lo hi : Option Int) (z : U) (L' : UH) (Q : VK), Abs K H α L → RepU K H α u x → sem u lo hi L = some (z, L') →
  (∀ v H' α', Gr H α H' α' → Abs K H' α' L' → RepU K H' α' z v → Q v H') → r x lo hi H Q
noncomputable def fSl (sem : SS) (f : FE) (l h : FO) : FE := fun δ L => (f δ L).bind fun p => (l δ p.2).bind fun q => (h δ q.2).bind fun r => sem p.1 q.1 r.1 r.2
theorem pf_slice {r : V → Option Int → Option Int → Hp → VK → Prop} {sem : SS} {lo hi : Option Expr} {fl fh : FO} {p2 : Pos} (hr : SlR X r) (h : SemSl X.K r sem) (he : PEF X e fa) (hl : POF X lo fl) (hu : POF X hi fh) : PEF X (.Subscript e (.Slice lo hi none p2) pos) (fSl sem fa fl fh) := by
  refine PE.imp (pe_slice hr he hl hu) ?_
  rintro σ H Q ⟨α, δ, L, A, S, z, L3, e, q⟩
  obtain ⟨⟨u, L1⟩, e1, e⟩ := Option.bind_eq_some_iff.mp e
  obtain ⟨⟨i, L2⟩, e2, e⟩ := Option.bind_eq_some_iff.mp e
  obtain ⟨⟨j, L4⟩, e3, e⟩ := Option.bind_eq_some_iff.mp e
  refine ⟨α, δ, L, A, S, u, L1, e1, fun x H1 α1 g1 A1 r1 => ⟨α1, δ, L1, A1, S.mono g1, i, L2, e2, fun H2 α2 g2 A2 => ⟨α2, δ, L2, A2, (S.mono g1).mono g2, j, L4, e3, fun H3 α3 g3 A3 => ?_⟩⟩⟩
  exact h H3 α3 L4 u x i j z L3 Q A3 ((r1.mono g2).mono g3) e fun v H4 α4 g4 A4 r4 => q v H4 α4 (g1.trans (g2.trans (g3.trans g4))) A4 r4
noncomputable def fNeg (f : FE) : FE := fun δ L => (f δ L).bind fun p => match p.1 with | .int i => some (.int (-i), p.2) | _ => none
theorem pf_neg (ha : PEF X a fa) : PEF X (.UnaryOp .USub a pos) (fNeg fa) := by
  refine PE.imp (pe_un un_neg ha) ?_
  rintro σ H Q ⟨α, δ, L, A, S, z, L3, e, q⟩
  obtain ⟨⟨u, L1⟩, e1, e⟩ := Option.bind_eq_some_iff.mp e
  refine ⟨α, δ, L, A, S, u, L1, e1, fun x H1 α1 g1 A1 r1 => ?_⟩
  cases u with
  | int i => cases e; exact ⟨i, r1, q _ H1 α1 g1 A1 rfl⟩
  | _ => simp at e
noncomputable def fChain (s1 s2 : S2) (fa fb fc : FE) : FE := fun δ L => (fa δ L).bind fun p => (fb δ p.2).bind fun q => (s1 p.1 q.1 q.2).bind fun r => match r.1 with
  | .bl k => if k = true then (fc δ r.2).bind fun t => s2 q.1 t.1 t.2 else some (.bl false, r.2)
  | _ => none
theorem lE_chain {K : PySem.W.Frag} {r r' : R2} {s1 s2 : S2} (h1 : SemR2 K r s1) (h2 : SemR2 K r' s2) : ∀ σ H Q, lE K (fChain s1 s2 fa fb fc) σ H Q → tChain r r' (lE K fa) (lE K fb) (lE K fc) σ H Q := by
  rintro σ H Q ⟨α, δ, L, A, S, z, L3, e, q⟩
  obtain ⟨⟨u, L1⟩, e1, e⟩ := Option.bind_eq_some_iff.mp e
  obtain ⟨⟨w, L2⟩, e2, e⟩ := Option.bind_eq_some_iff.mp e
  obtain ⟨⟨t, L4⟩, e3, e⟩ := Option.bind_eq_some_iff.mp e
  refine ⟨α, δ, L, A, S, u, L1, e1, fun x H1 α1 g1 A1 r1 => ⟨α1, δ, L1, A1, S.mono g1, w, L2, e2, fun y H2 α2 g2 A2 r2 => ?_⟩⟩
  refine h1 H2 α2 L2 u w x y t L4 _ A2 (r1.mono g2) r2 e3 fun v H3 α3 g3 A3 r3 => ?_
  cases t with
  | bl k =>
    refine ⟨k, r3, ?_⟩
    cases k with
    | true =>
      obtain ⟨⟨s, L5⟩, e4, e⟩ := Option.bind_eq_some_iff.mp e
      refine iteT ⟨α3, δ, L4, A3, ((S.mono g1).mono g2).mono g3, s, L5, e4, fun y' H4 α4 g4 A4 r4 => ?_⟩
      exact h2 H4 α4 L5 w s y y' z L3 Q A4 ((r2.mono g3).mono g4) r4 e fun v H5 α5 g5 A5 r5 => q v H5 α5 (g1.trans (g2.trans (g3.trans (g4.trans g5)))) A5 r5
    | false => cases e; exact iteF (q _ H3 α3 (g1.trans (g2.trans g3)) A3 rfl)
  | _ => simp at e
theorem pf_chain {op op' : CmpOp} {r r' : R2} {s1 s2 : S2} (ho : OpR X (compareOp op) r) (ho' : OpR X (compareOp op') r') (h1 : SemR2 X.K r s1) (h2 : SemR2 X.K r' s2) (ha : PEF X a fa) (hb : PEF X b fb) (hc : PEF X c fc) (hm : lastMarks [op, op'] [b, c] = false := by with_unfolding_all rfl) :
    PEF X (.Compare a [op, op'] [b, c] pos) (fChain s1 s2 fa fb fc) := PE.imp (pe_chain ho ho' ha hb hc hm) (lE_chain h1 h2)
theorem ptf_chain {op op' : CmpOp} {r r' : R2} {s1 s2 : S2} (ho : OpR X (compareOp op) r) (ho' : OpR X (compareOp op') r') (h1 : SemR2 X.K r s1) (h2 : SemR2 X.K r' s2) (ha : PEF X a fa) (hb : PEF X b fb) (hc : PEF X c fc) (hm : lastMarks [op, op'] [b, c] = false := by with_unfolding_all rfl) :
    PTF X (.Compare a [op, op'] [b, c] pos) (fTest (fChain s1 s2 fa fb fc)) := PT.imp (pt_chain ho ho' ha hb hc hm) (lT_test (lE_chain h1 h2))
noncomputable def truU (u : U) (L : UH) : Option Bool := match u with
  | .non => some false
  | .bl b => some b
  | .int i => some (i != 0)
  | .str y => if small y.length = true then some ((y.length : Int) != 0) else none
  | .tup l => some (!l.isEmpty)
  | .ref n => match L[n]? with
    | some (.lst xs) => some (!xs.isEmpty)
    | some (.ro xs) => some (!xs.isEmpty)
    | some (.dic kvs) => some (!kvs.isEmpty)
    | _ => none
theorem isEmpty_len {α β : Type} {l : List α} {m : List β} (h : l.length = m.length) : l.isEmpty = m.isEmpty := by
  cases l <;> cases m <;> simp_all
theorem truU_ok {K : PySem.W.Frag} {H : Hp} {α : List Addr} {L : UH} {u : U} {x : V} {k : Bool} (A : Abs K H α L) (r : RepU K H α u x) (h : truU u L = some k) : TruV K x H k := by
  cases u with
  | non => unfold RepU at r; subst r; exact (Option.some.inj h).symm
  | bl b => unfold RepU at r; subst r; exact (Option.some.inj h).symm
  | int i => unfold RepU at r; subst r; exact (Option.some.inj h).symm
  | str y =>
    unfold RepU at r; subst r
    unfold truU at h
    simp only at h
    split at h
    · rename_i hs; cases h; exact ⟨small_le hs, rfl⟩
    · cases h
  | tup l =>
    unfold RepU at r
    obtain ⟨a, xs, rfl, s, r⟩ := r
    exact .inr (.inl ⟨xs, s, by rw [← isEmpty_len r.length]; exact (Option.some.inj h).symm⟩)
  | ref n =>
    unfold RepU at r
    obtain ⟨a, ea, rfl⟩ := r
    unfold truU at h
    simp only at h
    cases q : L[n]? with
    | none => rw [q] at h; simp at h
    | some o =>
      have hr := A.rep n a o ea q
      rw [q] at h
      cases o with
      | lst us => obtain ⟨xs, e, r⟩ := hr; exact .inl ⟨xs, .of e, by rw [← isEmpty_len r.length]; exact (Option.some.inj h).symm⟩
      | ro us => obtain ⟨xs, e, r⟩ := hr; exact .inl ⟨xs, e.sq, by rw [← isEmpty_len r.length]; exact (Option.some.inj h).symm⟩
      | dic kvs => obtain ⟨vs, e, ek, _⟩ := hr; exact .inr (.inr ⟨vs, e, by rw [← isEmpty_len (show kvs.length = vs.length by simpa using congrArg List.length ek)]; exact (Option.some.inj h).symm⟩)
      | rod kvs => simp at h
      | ins C fs => simp at h
      | exc C fr fs => simp at h
noncomputable def fTru (f : FE) : FT := fun δ L => (f δ L).bind fun p => (truU p.1 p.2).map fun k => (k, p.2)
theorem ptf_tru (ha : PEF X a fa) (he : ∀ whole, isTrue a X.env whole = (do let v ← whole; standAt a.pos; holding [v] (truthy v)) := by intro _; rfl) : PTF X a (fTru fa) := by
  refine PT.imp (pt_truth ha he) ?_
  rintro σ H Q ⟨α, δ, L, A, S, z, L3, e, q⟩
  obtain ⟨⟨u, L1⟩, e1, e⟩ := Option.bind_eq_some_iff.mp e
  obtain ⟨k, e2, e⟩ := Option.map_eq_some_iff.mp e
  cases e
  exact ⟨α, δ, L, A, S, u, _, e1, fun x H1 α1 g1 A1 r1 => ⟨_, truU_ok A1 r1 e2, q H1 α1 g1 A1⟩⟩
end
inductive Fl where
  | nx (δ : UE) | rt (u : U) | bk (δ : UE) | ct (δ : UE)
noncomputable abbrev FS := UE → UH → Option (Fl × UH)
noncomputable def Post (K : PySem.W.Frag) (D : Ends) (H : Hp) (α : List Addr) (fl : Fl) (L' : UH) : Prop := match fl with
  | .nx δ' => ∀ σ' H' α', Gr H α H' α' → Abs K H' α' L' → RepS K H' α' δ' σ' → D.nx σ' H'
  | .bk δ' => ∀ σ' H' α', Gr H α H' α' → Abs K H' α' L' → RepS K H' α' δ' σ' → D.bk σ' H'
  | .ct δ' => ∀ σ' H' α', Gr H α H' α' → Abs K H' α' L' → RepS K H' α' δ' σ' → D.ct σ' H'
  | .rt u => ∀ v H' α', Gr H α H' α' → Abs K H' α' L' → RepU K H' α' u v → D.rt v H'
theorem Post.from {K : PySem.W.Frag} {D : Ends} {H H1 : Hp} {α α1 : List Addr} {fl : Fl} {L' : UH} (g : Gr H α H1 α1) (p : Post K D H α fl L') : Post K D H1 α1 fl L' := by
  cases fl with
  | nx δ => exact fun σ' H' α' g' => p σ' H' α' (g.trans g')
  | bk δ => exact fun σ' H' α' g' => p σ' H' α' (g.trans g')
  | ct δ => exact fun σ' H' α' g' => p σ' H' α' (g.trans g')
  | rt u => exact fun v H' α' g' => p v H' α' (g.trans g')
noncomputable def lS (K : PySem.W.Frag) (f : FS) : TS := fun D σ H => ∃ α δ L, Abs K H α L ∧ RepS K H α δ σ ∧ ∃ fl L', f δ L = some (fl, L') ∧ Post K D H α fl L'
noncomputable def PSF (X : Cx) (st : Stmt) (f : FS) : Prop := PS X st (lS X.K f)
noncomputable def PSsF (X : Cx) (st : List Stmt) (f : FS) : Prop := PSs X st (lS X.K f)
section
variable {X : Cx} {st : Stmt} {rest : List Stmt} {e : Expr} {pos : Pos} {f g : FS} {fe : FE}
theorem PS.imp {t t' : TS} (h : PS X st t) (hi : ∀ D σ H, t' D σ H → t D σ H) : PS X st t' := fun pins s σ H D I q => h pins s σ H D I (hi D σ H q)
theorem PSs.imp {sts : List Stmt} {t t' : TS} (h : PSs X sts t) (hi : ∀ D σ H, t' D σ H → t D σ H) : PSs X sts t' := fun pins s σ H D I q => h pins s σ H D I (hi D σ H q)
noncomputable def fNext : FS := fun δ L => some (.nx δ, L)
noncomputable def fSeq (f g : FS) : FS := fun δ L => (f δ L).bind fun p => match p.1 with | .nx δ' => g δ' p.2 | fl => some (fl, p.2)
theorem psf_nil : PSsF X [] fNext := by
  refine PSs.imp pss_nil ?_
  rintro D σ H ⟨α, δ, L, A, S, fl, L', e, q⟩
  cases e
  exact q σ H α (.refl _ _) A S
theorem psf_cons (h1 : PSF X st f) (h2 : PSsF X rest g) : PSsF X (st :: rest) (fSeq f g) := by
  refine PSs.imp (pss_cons h1 h2) ?_
  rintro D σ H ⟨α, δ, L, A, S, fl, L', e, q⟩
  obtain ⟨⟨fl1, L1⟩, e1, e⟩ := Option.bind_eq_some_iff.mp e
  refine ⟨α, δ, L, A, S, fl1, L1, e1, ?_⟩
  cases fl1 with
  | nx δ1 => exact fun σ1 H1 α1 g1 A1 S1 => ⟨α1, δ1, L1, A1, S1, fl, L', e, q.from g1⟩
  | rt u => cases e; exact q
  | bk δ1 => cases e; exact q
  | ct δ1 => cases e; exact q
theorem psf_one (h1 : PSF X st f) : PSsF X [st] f := pss_one h1
noncomputable def fRet (f : FE) : FS := fun δ L => (f δ L).map fun p => (.rt p.1, p.2)
noncomputable def fDrop (f : FE) : FS := fun δ L => (f δ L).map fun p => (.nx δ, p.2)
noncomputable def fRetN : FS := fun _ L => some (.rt .non, L)
theorem psf_ret (he : PEF X e fe) : PSF X (.Return (some e) pos) (fRet fe) := by
  refine PS.imp (ps_ret he) ?_
  rintro D σ H ⟨α, δ, L, A, S, fl, L', e, q⟩
  obtain ⟨⟨u, L1⟩, e1, e⟩ := Option.map_eq_some_iff.mp e
  cases e
  exact ⟨α, δ, L, A, S, u, _, e1, fun v H1 α1 g1 A1 r1 => q v H1 α1 g1 A1 r1⟩
theorem psf_expr (he : PEF X e fe) (hs : swapsWith e none pos.line X.env = pure false := by rfl) : PSF X (.Expr e pos) (fDrop fe) := by
  refine PS.imp (ps_expr he hs) ?_
  rintro D σ H ⟨α, δ, L, A, S, fl, L', e, q⟩
  obtain ⟨⟨u, L1⟩, e1, e⟩ := Option.map_eq_some_iff.mp e
  cases e
  exact ⟨α, δ, L, A, S, u, _, e1, fun v H1 α1 g1 A1 r1 => q σ H1 α1 g1 A1 (S.mono g1)⟩
noncomputable def fIfS (c : FT) (f g : FS) : FS := fun δ L => (c δ L).bind fun p => if p.1 = true then f δ p.2 else g δ p.2
theorem psf_if {c : Expr} {a b : List Stmt} {tc : FT} (hc : PTF X c tc) (ha : PSsF X a f) (hb : PSsF X b g) : PSF X (.If c a b pos) (fIfS tc f g) := by
  refine PS.imp (ps_if hc ha hb) ?_
  rintro D σ H ⟨α, δ, L, A, S, fl, L', e, q⟩
  obtain ⟨⟨u, L1⟩, e1, e⟩ := Option.bind_eq_some_iff.mp e
  refine ⟨α, δ, L, A, S, u, L1, e1, fun H1 α1 g1 A1 => ?_⟩
  cases u with
  | true => exact iteT ⟨α1, δ, L1, A1, S.mono g1, fl, L', e, q.from g1⟩
  | false => exact iteF ⟨α1, δ, L1, A1, S.mono g1, fl, L', e, q.from g1⟩
noncomputable def fNever : FS := fun _ _ => none
theorem psf_never : PSF X st fNever := by
  refine PS.imp ps_never ?_
  rintro D σ H ⟨α, δ, L, A, S, fl, L', e, q⟩
  cases e
end
noncomputable abbrev FG := U → UE → UH → Option (UE × UH)
noncomputable abbrev FGs := List U → UE → UH → Option (UE × UH)
noncomputable def lG (K : PySem.W.Frag) (f : FG) : TG := fun v σ H Q => ∃ α δ L u, Abs K H α L ∧ RepS K H α δ σ ∧ RepU K H α u v ∧ ∃ δ' L', f u δ L = some (δ', L') ∧ ∀ σ' H' α', Gr H α H' α' → Abs K H' α' L' → RepS K H' α' δ' σ' → Q σ' H'
noncomputable def lGs (K : PySem.W.Frag) (f : FGs) : TGs := fun vs σ H Q => ∃ α δ L us, Abs K H α L ∧ RepS K H α δ σ ∧ RepL K H α us vs ∧ ∃ δ' L', f us δ L = some (δ', L') ∧ ∀ σ' H' α', Gr H α H' α' → Abs K H' α' L' → RepS K H' α' δ' σ' → Q σ' H'
noncomputable def PGF (X : Cx) (e : Expr) (f : FG) : Prop := PG X e (lG X.K f)
noncomputable def PGsF (X : Cx) (es : List Expr) (f : FGs) : Prop := PGs X es (lGs X.K f)
section
variable {X : Cx} {e : Expr} {es : List Expr} {pos : Pos}
theorem PG.imp {t t' : TG} (h : PG X e t) (hi : ∀ v σ H Q, t' v σ H Q → t v σ H Q) : PG X e t' := fun pins s σ H v u Q I r q => h pins s σ H v u Q I r (hi v σ H Q q)
theorem PGs.imp {t t' : TGs} (h : PGs X es t) (hi : ∀ v σ H Q, t' v σ H Q → t v σ H Q) : PGs X es t' := fun pins s σ H v u Q I r q => h pins s σ H v u Q I r (hi v σ H Q q)
noncomputable def gN (i : Nat) : FG := fun u δ L => some (δ.set i (some u), L)
theorem pgf_name {i : Nat} {x : Str} (hN : X.N.Nodup) (hi : X.N[i]? = some x := by rfl) (hx : Loc X.env.scope x := by first | exact Or.inl rfl | exact Or.inr rfl) (hf : X.fn x = true ∨ X.env.scope.names.lookup x = some .local := by first | exact .inl rfl | exact .inr rfl) : PGF X (.Name x pos) (gN i) := by
  refine PG.imp (pg_name (i := i) hN hi hx hf) ?_
  rintro v σ H Q ⟨α, δ, L, u, A, S, r, δ', L', e, q⟩
  cases e
  exact q _ H α (.refl _ _) A (S.set i r)
noncomputable def gNil : FGs := fun us δ L => match us with | [] => some (δ, L) | _ => none
noncomputable def gCons (f : FG) (g : FGs) : FGs := fun us δ L => match us with | [] => none | u :: r => (f u δ L).bind fun p => g r p.1 p.2
theorem pgsf_nil : PGsF X [] MR.gNil := by
  refine PGs.imp pgs_nil ?_
  rintro vs σ H Q ⟨α, δ, L, us, A, S, r, δ', L', e, q⟩
  cases us with
  | nil => cases e; exact ⟨by unfold RepL at r; exact r, q σ H α (.refl _ _) A S⟩
  | cons u us => cases e
theorem pgsf_cons {f : FG} {g : FGs} (h1 : PGF X e f) (h2 : PGsF X es g) (hs : (assignEach (e :: es) X.env).map (·.2) = assign e X.env :: (assignEach es X.env).map (·.2) := by rfl) : PGsF X (e :: es) (MR.gCons f g) := by
  refine PGs.imp (pgs_cons h1 h2 hs) ?_
  rintro vs σ H Q ⟨α, δ, L, us, A, S, r, δ', L', e, q⟩
  cases us with
  | nil => cases e
  | cons u us =>
    unfold RepL at r
    obtain ⟨x, xs, rfl, r1, r2⟩ := r
    obtain ⟨⟨δ1, L1⟩, e1, e⟩ := Option.bind_eq_some_iff.mp e
    refine ⟨x, xs, rfl, α, δ, L, u, A, S, r1, δ1, L1, e1, fun σ1 H1 α1 g1 A1 S1 => ?_⟩
    exact ⟨α1, δ1, L1, us, A1, S1, r2.mono g1, δ', L', e, fun σ2 H2 α2 g2 A2 S2 => q σ2 H2 α2 (g1.trans g2) A2 S2⟩
noncomputable def gTup (n : Nat) (g : FGs) : FG := fun u δ L => match u with | .tup us => if us.length = n then g us δ L else none | _ => none
theorem pgf_tup {k : Nat} {g : FGs} {n : Nat} (hc : X.calm = true) (h : PGsF X es g) (hn : (assignEach es X.env).length = n := by rfl) (hst : (assignEach es X.env).findIdx? (·.1) = none := by rfl) : PGF X (.Tuple es k pos) (MR.gTup n g) := by
  refine PG.imp (pg_tup hc h hn hst) ?_
  rintro v σ H Q ⟨α, δ, L, u, A, S, r, δ', L', e, q⟩
  cases u with
  | tup us =>
    unfold RepU at r
    obtain ⟨a, xs, rfl, s, r⟩ := r
    unfold MR.gTup at e
    simp only at e
    split at e
    · rename_i hl
      exact ⟨a, xs, rfl, s, by rw [← r.length]; exact hl, α, δ, L, us, A, S, r, δ', L', e, q⟩
    · cases e
  | _ => simp [MR.gTup] at e
noncomputable def fAsg (fe : FE) (g : FG) : FS := fun δ L => (fe δ L).bind fun p => (g p.1 δ p.2).map fun q => (.nx q.1, q.2)
theorem psf_asg {tg : Expr} {fe : FE} {g : FG} (he : PEF X e fe) (hg : PGF X tg g) (hs : swapsWithSole [tg] e pos.line X.env = pure false := by rfl) (hw : swappedStores [tg] e X.env = pure none := by rfl) (h1 : (assignEach [tg] X.env).map (·.2) = [assign tg X.env] := by rfl) :
    PSF X (.Assign [tg] e pos) (fAsg fe g) := by
  refine PS.imp (ps_asg he hg hs hw h1) ?_
  rintro D σ H ⟨α, δ, L, A, S, fl, L', e, q⟩
  obtain ⟨⟨u, L1⟩, e1, e⟩ := Option.bind_eq_some_iff.mp e
  obtain ⟨⟨δ2, L2⟩, e2, e⟩ := Option.map_eq_some_iff.mp e
  cases e
  exact ⟨α, δ, L, A, S, u, L1, e1, fun v H1 α1 g1 A1 r1 => ⟨α1, δ, L1, u, A1, S.mono g1, r1, δ2, _, e2, fun σ2 H2 α2 g2 A2 S2 => q σ2 H2 α2 (g1.trans g2) A2 S2⟩⟩
theorem psf_set {i : Nat} {x : Str} {fe : FE} {pos' : Pos} (hN : X.N.Nodup) (he : PEF X e fe) (hi : X.N[i]? = some x := by rfl) (hx : Loc X.env.scope x := by first | exact Or.inl rfl | exact Or.inr rfl)
    (hs : swapsWith e (some (.Name x pos')) pos.line X.env = pure false := by rfl) (hf : X.fn x = true ∨ X.env.scope.names.lookup x = some .local := by first | exact .inl rfl | exact .inr rfl) :
    PSF X (.Assign [.Name x pos'] e pos) (fAsg fe (gN i)) := by
  refine PS.imp (ps_set (i := i) hN hi hx he hs hf) ?_
  rintro D σ H ⟨α, δ, L, A, S, fl, L', e, q⟩
  obtain ⟨⟨u, L1⟩, e1, e⟩ := Option.bind_eq_some_iff.mp e
  obtain ⟨⟨δ2, L2⟩, e2, e⟩ := Option.map_eq_some_iff.mp e
  cases e
  cases e2
  exact ⟨α, δ, L, A, S, u, _, e1, fun v H1 α1 g1 A1 r1 => q _ H1 α1 g1 A1 ((S.mono g1).set i r1)⟩
end
end MR
set_option Elab.async false
set_option linter.all false
set_option maxRecDepth 100000
set_option maxHeartbeats 1000000
namespace MR
open PySem PySem.Spec PyProof.Rows L2
noncomputable def lstAt (L : UH) (n : Nat) : Option (List U) := match L[n]? with
  | some (.lst us) => some us
  | _ => none
noncomputable def seqAt (L : UH) (n : Nat) : Option (List U) := match L[n]? with
  | some (.lst us) => some us
  | some (.ro us) => some us
  | _ => none
inductive IU where
  | seq (us : List U) | ref (n : Nat) | enm (n : Nat) | zip2 (n m : Nat) | zipT (us : List U) (m : Nat) | zipL (n : Nat) (ws : List U)
noncomputable def pairU : Option U → Option U → Option U
  | some x, some y => some (.tup [x, y])
  | _, _ => none
noncomputable def IU.at (i : IU) (k : Nat) (L : UH) : Option (Option U) := match i with
  | .seq us => some us[k]?
  | .ref n => match L[n]? with
    | some (.lst us) => some us[k]?
    | some (.ro us) => some us[k]?
    | _ => none
  | .enm n => (seqAt L n).map fun us => (us[k]?).map fun u => .tup [.int k, u]
  | .zip2 n m => (seqAt L n).bind fun us => (seqAt L m).map fun ws => pairU us[k]? ws[k]?
  | .zipT us m => (seqAt L m).map fun ws => pairU us[k]? ws[k]?
  | .zipL n ws => (seqAt L n).map fun us => pairU us[k]? ws[k]?
noncomputable def IU.size (i : IU) (L : UH) : Nat := match i with
  | .seq us => us.length
  | .ref n => match L[n]? with
    | some (.lst us) => us.length
    | some (.ro us) => us.length
    | _ => 0
  | .enm n => match seqAt L n with
    | some us => us.length
    | none => 0
  | .zip2 n m => match seqAt L n, seqAt L m with
    | some us, some ws => min us.length ws.length
    | _, _ => 0
  | .zipT us m => match seqAt L m with
    | some ws => min us.length ws.length
    | none => 0
  | .zipL n ws => match seqAt L n with
    | some us => min us.length ws.length
    | none => 0
noncomputable abbrev FI := UE → UH → Option (IU × UH)
noncomputable def ItRep (K : PySem.W.Frag) (J : It) (i : IU) (H : Hp) (α : List Addr) : Prop := ∀ (H2 : Hp) (α2 : List Addr) (L2 : UH), Gr H α H2 α2 → Abs K H2 α2 L2 → ∀ k : Nat,
  (∀ u, i.at k L2 = some (some u) → J.go k H2 ∧ ∀ x H3, J.yld k H2 x H3 → Gr H2 α2 H3 α2 ∧ Abs K H3 α2 L2 ∧ RepU K H3 α2 u x) ∧ (i.at k L2 = some none → J.stop k H2)
noncomputable def lI (K : PySem.W.Frag) (f : FI) : TI := fun σ H R => ∃ α δ L, Abs K H α L ∧ RepS K H α δ σ ∧ ∃ i L', f δ L = some (i, L') ∧ ∀ J H' α', Gr H α H' α' → Abs K H' α' L' → ItRep K J i H' α' → R J H'
noncomputable def PIF (X : Cx) (tg iter : Expr) (f : FI) : Prop := PI X tg iter (lI X.K f)
section
variable {X : Cx} {tg iter l : Expr} {pos : Pos} {fe : FE}
theorem PI.imp {t t' : TI} (h : PI X tg iter t) (hi : ∀ σ H R, t' σ H R → t σ H R) : PI X tg iter t' := fun pins s σ H R I q => h pins s σ H R I (hi σ H R q)
theorem PI.or {t t' : TI} (h : PI X tg iter t) (h' : PI X tg iter t') : PI X tg iter (fun σ H R => t σ H R ∨ t' σ H R) := fun pins s σ H R I q => by
  rcases q with q | q
  · exact h pins s σ H R I q
  · exact h' pins s σ H R I q
noncomputable def iSeqU (u : U) (L : UH) : Option IU := match u with
  | .tup us => some (.seq us)
  | .ref n => match L[n]? with
    | some (.lst _) => some (.ref n)
    | some (.ro _) => some (.ref n)
    | _ => none
  | _ => none
theorem itl_rep {K : PySem.W.Frag} {H : Hp} {α : List Addr} {n : Nat} {a : Addr} (ea : α[n]? = some a) : ItRep K (Itl K a) (.ref n) H α := by
  intro H2 α2 L2 g A2 k
  have ea2 := g.at ea
  have go : ∀ (us : List U) (xs : List V), SqL K H2 a xs → RepL K H2 α2 us xs → (∀ ys, SqL K H2 a ys → True) → (∀ u, us[k]? = some u → (Itl K a).go k H2 ∧ ∀ x H3, (Itl K a).yld k H2 x H3 → Gr H2 α2 H3 α2 ∧ Abs K H3 α2 L2 ∧ RepU K H3 α2 u x) ∧ (us[k]? = none → (Itl K a).stop k H2) := by
    intro us xs sq r _
    refine ⟨fun u eu => ?_, fun eu => ?_⟩
    · obtain ⟨x, ex, rx⟩ := r.get eu
      refine ⟨⟨xs, x, sq, ex⟩, ?_⟩
      rintro y H3 ⟨rfl, hy⟩
      have := hy xs sq
      rw [ex] at this; cases this
      exact ⟨.refl _ _, A2, rx⟩
    · exact ⟨xs, sq, by rw [← r.length]; exact List.getElem?_eq_none_iff.mp eu⟩
  unfold IU.at
  simp only
  cases q : L2[n]? with
  | none => simp
  | some o =>
    have hr := A2.rep n a o ea2 q
    cases o with
    | lst us =>
      obtain ⟨xs, e, r⟩ := hr
      obtain ⟨h1, h2⟩ := go us xs (.of e) r fun _ _ => trivial
      exact ⟨fun u eu => h1 u (Option.some.inj eu), fun eu => h2 (Option.some.inj eu)⟩
    | ro us =>
      obtain ⟨xs, e, r⟩ := hr
      obtain ⟨h1, h2⟩ := go us xs e.sq r fun _ _ => trivial
      exact ⟨fun u eu => h1 u (Option.some.inj eu), fun eu => h2 (Option.some.inj eu)⟩
    | dic kvs => simp
    | rod kvs => simp
    | ins C fs => simp
    | exc C fr fs => simp
theorem itt_rep {K : PySem.W.Frag} {H : Hp} {α : List Addr} {us : List U} {xs : List V} {a : Addr} (sq : SqT K H a xs) (r : RepL K H α us xs) : ItRep K (Itt K a) (.seq us) H α := by
  intro H2 α2 L2 g A2 k
  have sq2 := g.st.sqT (K := K) sq
  have r2 := r.mono g
  refine ⟨fun u eu => ?_, fun eu => ?_⟩
  · obtain ⟨x, ex, rx⟩ := r2.get (Option.some.inj eu)
    refine ⟨⟨xs, x, sq2, ex⟩, ?_⟩
    rintro y H3 ⟨rfl, hy⟩
    have := hy xs sq2
    rw [ex] at this; cases this
    exact ⟨.refl _ _, A2, rx⟩
  · exact ⟨xs, sq2, by rw [← r2.length]; exact List.getElem?_eq_none_iff.mp (Option.some.inj eu)⟩
theorem itr_rep {K : PySem.W.Frag} {H : Hp} {α : List Addr} (lo : Int) (n : Nat) : ItRep K (Itr lo n) (.seq ((List.range n).map fun i => U.int (lo + (i : Nat)))) H α := by
  intro H2 α2 L2 g A2 k
  refine ⟨fun u eu => ?_, fun eu => ?_⟩
  · have eu := Option.some.inj eu
    rw [List.getElem?_map] at eu
    by_cases hk : k < n
    · rw [List.getElem?_range hk] at eu
      simp at eu
      refine ⟨hk, ?_⟩
      rintro x H3 ⟨rfl, rfl⟩
      subst eu
      exact ⟨.refl _ _, A2, rfl⟩
    · rw [List.getElem?_eq_none (by simpa using hk)] at eu
      simp at eu
  · have := List.getElem?_eq_none_iff.mp (Option.some.inj eu)
    show n ≤ k
    simpa using this
noncomputable def fSeqI (f : FE) : FI := fun δ L => (f δ L).bind fun p => (iSeqU p.1 p.2).map fun i => (i, p.2)
theorem pif_seq (h : PEF X l fe) : PIF X tg l (fSeqI fe) := by
  refine PI.imp (PI.or (pi_list h) (pi_tup h)) ?_
  rintro σ H R ⟨α, δ, L, A, S, i, L3, e, q⟩
  obtain ⟨⟨u, L1⟩, e1, e⟩ := Option.bind_eq_some_iff.mp e
  obtain ⟨j, e2, e⟩ := Option.map_eq_some_iff.mp e
  cases e
  cases u with
  | tup us =>
    cases e2
    refine .inr ⟨α, δ, L, A, S, _, _, e1, fun x H1 α1 g1 A1 r1 => ?_⟩
    unfold RepU at r1
    obtain ⟨a, xs, rfl, sq, r⟩ := r1
    exact ⟨a, rfl, ⟨xs, sq⟩, q _ H1 α1 g1 A1 (itt_rep sq r)⟩
  | ref n =>
    refine .inl ⟨α, δ, L, A, S, _, _, e1, fun x H1 α1 g1 A1 r1 => ?_⟩
    unfold RepU at r1
    obtain ⟨a, ea, rfl⟩ := r1
    refine ⟨a, rfl, ?_⟩
    unfold iSeqU at e2
    simp only at e2
    cases w : L1[n]? with
    | none => simp only [w] at e2; cases e2
    | some o =>
      have hr := A1.rep n a o ea w
      cases o with
      | lst us => simp only [w] at e2; cases e2; obtain ⟨xs, e, r⟩ := hr; exact ⟨⟨xs, .of e⟩, q _ H1 α1 g1 A1 (itl_rep ea)⟩
      | ro us => simp only [w] at e2; cases e2; obtain ⟨xs, e, r⟩ := hr; exact ⟨⟨xs, e.sq⟩, q _ H1 α1 g1 A1 (itl_rep ea)⟩
      | dic kvs => simp only [w] at e2; cases e2
      | rod kvs => simp only [w] at e2; cases e2
      | ins C fs => simp only [w] at e2; cases e2
      | exc C fr fs => simp only [w] at e2; cases e2
  | _ => cases e2
noncomputable def rangeU (lo : Int) (n : Nat) : List U := (List.range n).map fun i => U.int (lo + (i : Nat))
noncomputable def fRng1 (g : FA) : FI := fun δ L => (g δ L).bind fun p => match p.1 with
  | [.int j] => if -(2 ^ 62) ≤ j ∧ j < 2 ^ 62 then some (.seq (rangeU 0 j.toNat), p.2) else none
  | _ => none
noncomputable def fRng2 (g : FA) : FI := fun δ L => (g δ L).bind fun p => match p.1 with
  | [.int i, .int j] => if (-(2 ^ 62) ≤ i ∧ i < 2 ^ 62) ∧ -(2 ^ 62) ≤ j ∧ j < 2 ^ 62 then some (.seq (rangeU i (j - i).toNat), p.2) else none
  | _ => none
theorem RepL.one {K : PySem.W.Frag} {H : Hp} {α : List Addr} {u : U} {xs : List V} (h : RepL K H α [u] xs) : ∃ x, xs = [x] ∧ RepU K H α u x := by
  unfold RepL at h
  obtain ⟨x, r, e, h1, h2⟩ := h
  unfold RepL at h2
  subst h2
  exact ⟨x, e, h1⟩
theorem RepL.two {K : PySem.W.Frag} {H : Hp} {α : List Addr} {u w : U} {xs : List V} (h : RepL K H α [u, w] xs) : ∃ x y, xs = [x, y] ∧ RepU K H α u x ∧ RepU K H α w y := by
  unfold RepL at h
  obtain ⟨x, r, e, h1, h2⟩ := h
  obtain ⟨y, e2, h3⟩ := h2.one
  subst e2
  exact ⟨x, y, e, h1, h3⟩
theorem pif_range1 {a : Expr} {g : FA} {p pos : Pos} (hg : Gl X "range") (hm : X.mg "range" = none) (ha : PAF X [a] g) (hs : starEach [a] X.env = [(false, eval a X.env)] := by rfl) : PIF X tg (.Call (.Name "range" p) [a] [] pos) (fRng1 g) := by
  refine PI.imp (pi_range1 hg hm ha hs) ?_
  rintro σ H R ⟨α, δ, L, A, S, i, L3, e, q⟩
  obtain ⟨⟨us, L1⟩, e1, e⟩ := Option.bind_eq_some_iff.mp e
  refine ⟨α, δ, L, A, S, us, L1, e1, fun xs H1 α1 g1 A1 r1 => ?_⟩
  simp only at e
  split at e
  · rename_i _ j
    split at e
    · rename_i hj
      cases e
      obtain ⟨x, rfl, rx⟩ := r1.one
      unfold RepU at rx
      subst rx
      exact ⟨j, rfl, hj.1, hj.2, q _ H1 α1 g1 A1 (itr_rep 0 _)⟩
    · cases e
  · cases e
noncomputable def loopU (i : IU) (g : FG) (body : FS) : Nat → Nat → UE → UH → Option (Fl × UH)
  | 0, _, _, _ => none
  | m + 1, k, δ, L => match i.at k L with
    | none => none
    | some none => some (.nx δ, L)
    | some (some u) => (g u δ L).bind fun p => (body p.1 p.2).bind fun q => match q.1 with
      | .nx δ' => loopU i g body m (k + 1) δ' q.2
      | .ct δ' => loopU i g body m (k + 1) δ' q.2
      | .bk δ' => some (.nx δ', q.2)
      | .rt w => some (.rt w, q.2)
noncomputable def fFor (fi : FI) (g : FG) (body : FS) : FS := fun δ L => (fi δ L).bind fun p => loopU p.1 g body (p.1.size p.2 + 1) 0 δ p.2
theorem psf_for {body : List Stmt} {fi : FI} {g : FG} {fb : FS} (hp : PassesOwn (model X.prog X.w) X.A X.env X.xe) (hc : X.calm = true) (hi : PIF X tg iter fi) (hg : PGF X tg g) (hb : PSsF X body fb)
    (hs : ∀ x, foldedSetIterable iter X.env x = pure x := by intro _; rfl) : PSF X (.For tg iter body [] pos) (fFor fi g fb) := by
  refine PS.imp (ps_for hp hc hi hg hb hs) ?_
  rintro D σ H ⟨α, δ, L, A, S, fl, L', e, q⟩
  obtain ⟨⟨it, L1⟩, e1, e⟩ := Option.bind_eq_some_iff.mp e
  refine ⟨α, δ, L, A, S, it, L1, e1, fun J H1 α1 g1 A1 hJ => ?_⟩
  refine ⟨fun k m σ2 H2 => ∃ α2 δ2 L2, Gr H1 α1 H2 α2 ∧ Abs X.K H2 α2 L2 ∧ RepS X.K H2 α2 δ2 σ2 ∧ loopU it g fb m k δ2 L2 = some (fl, L') ∧ Post X.K D H2 α2 fl L', ⟨_, α1, δ, L1, .refl _ _, A1, S.mono g1, e, q.from g1⟩, ?_⟩
  rintro k m σ2 H2 ⟨α2, δ2, L2, g2, A2, S2, e2, q2⟩
  cases m with
  | zero => cases e2
  | succ m =>
    obtain ⟨hgo, hstop⟩ := hJ H2 α2 L2 g2 A2 k
    unfold loopU at e2
    cases hat : it.at k L2 with
    | none => rw [hat] at e2; cases e2
    | some o =>
      cases o with
      | none =>
        rw [hat] at e2
        cases e2
        exact .inl ⟨hstop hat, q2 σ2 H2 α2 (.refl _ _) A2 S2⟩
      | some u =>
        rw [hat] at e2
        obtain ⟨go, yld⟩ := hgo u hat
        obtain ⟨⟨δ3, L3⟩, e3, e2⟩ := Option.bind_eq_some_iff.mp e2
        obtain ⟨⟨fl4, L4⟩, e4, e2⟩ := Option.bind_eq_some_iff.mp e2
        refine .inr ⟨go, fun σ5 H5 => ∃ α5 δ5 L5, Gr H1 α1 H5 α5 ∧ Abs X.K H5 α5 L5 ∧ RepS X.K H5 α5 δ5 σ5 ∧ loopU it g fb m (k + 1) δ5 L5 = some (fl, L') ∧ Post X.K D H5 α5 fl L', fun σ5 H5 h5 => ⟨m, Nat.lt_succ_self _, h5⟩, fun x H3 y3 => ?_⟩
        obtain ⟨g3, A3, r3⟩ := yld x H3 y3
        refine ⟨α2, δ2, L2, u, A3, S2.mono g3, r3, δ3, L3, e3, fun σ4 H4 α4 g4 A4 S4 => ⟨α4, δ3, L3, A4, S4, fl4, L4, e4, ?_⟩⟩
        have gA := g2.trans (g3.trans g4)
        have gB := g3.trans g4
        cases fl4 with
        | nx δ5 => exact fun σ5 H5 α5 g5 A5 S5 => ⟨α5, δ5, L4, gA.trans g5, A5, S5, e2, q2.from (gB.trans g5)⟩
        | ct δ5 => exact fun σ5 H5 α5 g5 A5 S5 => ⟨α5, δ5, L4, gA.trans g5, A5, S5, e2, q2.from (gB.trans g5)⟩
        | bk δ5 => cases e2; exact fun σ5 H5 α5 g5 A5 S5 => q2 σ5 H5 α5 (gB.trans g5) A5 S5
        | rt w => cases e2; exact fun v H5 α5 g5 A5 r5 => q2 v H5 α5 (gB.trans g5) A5 r5
end
noncomputable def fnU (n m : Nat) (body : FS) : FN := fun us L => if us.length = m then (body (us.map some ++ List.replicate (n - us.length) none) L).bind fun p => match p.1 with
  | .rt u => some (u, p.2)
  | .nx _ => some (.non, p.2)
  | _ => none
  else none
section
variable {P : Program} {w : World} {K : PySem.W.Frag} {mg : Str → Option Value} {base : Heap}
theorem Fun.okF {x qual : Str} {st : Stmt} {f : Addr} {fd : FuncData} {N ps : List Str} {k : Nat} {body : FS} (F : Fun K x qual st f fd) (S : FnScope N ps (defScope st))
    (hbody : ∀ (cdv : Value) (A : Around) (outer : List PySem.Env) (s : Shared) (H : Hp) (E : XK), Room k (A.deeper (envOfC qual (defScope st) s.heap.objs.size f cdv)) → PSsF (cxOf CX0 P w K mg base N qual (defScope st) f cdv A outer s H E).nox (defBody st) body) :
    FnOk P w K mg base CX0 (k + 1) f fd ps (spF K ps.length (fnU N.length ps.length body)) := by
  refine F.ok S (fun vs H Q E ⟨α, L, us, A, r, hl, _⟩ => by rw [← r.length]; exact hl) (fun cdv A outer s H vs Q E hr h => ?_)
  obtain ⟨α, L, us, Ab, r, hl, u, L', e, q⟩ := h
  refine ⟨_, hbody cdv A outer s H E hr, ?_⟩
  unfold fnU at e
  rw [if_pos hl] at e
  obtain ⟨⟨fl, L1⟩, e1, e⟩ := Option.bind_eq_some_iff.mp e
  refine ⟨α, _, L, Ab, RepS.start N r, fl, L1, e1, ?_⟩
  cases fl with
  | rt w => cases e; exact q
  | nx δ => cases e; exact fun σ' H' α' g' A' S' => q .non H' α' g' A' rfl
  | bk δ => cases e
  | ct δ => cases e
end
end MR
set_option Elab.async false
set_option linter.all false
set_option maxRecDepth 100000
set_option maxHeartbeats 1000000
namespace MR
open PySem PySem.Spec PyProof.Rows L2
section
variable {K : PySem.W.Frag} {H : Hp} {α : List Addr} {L : UH} {u : U} {x : V}
theorem lstAt_some {n : Nat} {us : List U} (h : lstAt L n = some us) : L[n]? = some (.lst us) := by
  unfold lstAt at h
  split at h
  · rename_i e; cases h; exact e
  · cases h
theorem lstAt_ok {n : Nat} {us : List U} (A : Abs K H α L) (h : lstAt L n = some us) : ∃ a xs, α[n]? = some a ∧ H a = some (.lst xs) ∧ RepL K H α us xs := by
  obtain ⟨a, ea, xs, e, r⟩ := A.addr (lstAt_some h)
  exact ⟨a, xs, ea, e, r⟩
theorem seqAt_ok {n : Nat} {us : List U} (A : Abs K H α L) (h : seqAt L n = some us) : ∃ a xs, α[n]? = some a ∧ SqL K H a xs ∧ RepL K H α us xs := by
  unfold seqAt at h
  split at h
  · rename_i e; cases h
    obtain ⟨a, ea, xs, e, r⟩ := A.addr e
    exact ⟨a, xs, ea, .of e, r⟩
  · rename_i e; cases h
    obtain ⟨a, ea, xs, e, r⟩ := A.addr e
    exact ⟨a, xs, ea, e.sq, r⟩
  · cases h
theorem Abs.setL {n : Nat} {a : Addr} {xs ys : List V} {us ws : List U} (A : Abs K H α L) (h : lstAt L n = some us) (ea : α[n]? = some a) (e : H a = some (.lst xs)) (r : RepL K H α ws ys) :
    Gr H α (upd H a (.lst ys)) α ∧ Abs K (upd H a (.lst ys)) α (L.set n (.lst ws)) := by
  have g : Gr H α (upd H a (.lst ys)) α := ⟨⟨[], by simp⟩, .write e (by exact trivial) _⟩
  obtain ⟨A', _⟩ := A.put (o := .lst ys) (u := .lst ws) ea (lstAt_some h) rfl rfl e (by exact trivial) ⟨ys, upd_same, r.mono g⟩
  exact ⟨g, A'⟩
theorem RepU.ref_of {n : Nat} (A : Abs K H α L) (h : RepU K H α (.ref n) x) : ∃ a, α[n]? = some a ∧ x = .ref a := by unfold RepU at h; exact h
end
noncomputable def semAdd : S2 := fun u w L => match u, w with
  | .int i, .int j => some (.int (i + j), L)
  | .str a, .str b => if small (a.length + b.length) = true then some (.str (a ++ b), L) else none
  | .tup a, .tup b => if a.isEmpty = false ∧ small (a.length + b.length) = true then some (.tup (a ++ b), L) else none
  | .ref n, .ref m => (lstAt L n).bind fun a => (lstAt L m).bind fun b => if small (a.length + b.length) = true then some (.ref L.length, L ++ [.lst (a ++ b)]) else none
  | _, _ => none
noncomputable def rAddA (K : PySem.W.Frag) : R2 := fun x y H Q => rI0 (fun i j => .int (i + j)) x y H Q ∨ (∃ i j, x = .str i ∧ y = .str j ∧ i.length + j.length ≤ sizeLine ∧ Q (.str (i ++ j)) H) ∨ rCatT K x y H Q ∨ rCat x y H Q
theorem op_addA {X : Cx} : OpR X (binaryOp .Add) (rAddA X.K) := op_add.or (op_add_str.or (op_catT.or op_cat))
theorem sem_add {K : PySem.W.Frag} : SemR2 K (rAddA K) semAdd := by
  intro H α L u w x y z L' Q A ru rw e q
  unfold semAdd at e
  split at e
  · cases e
    unfold RepU at ru rw
    exact .inl ⟨_, _, ru, rw, q _ H α (.refl _ _) A rfl⟩
  · split at e
    · rename_i h
      cases e
      unfold RepU at ru rw
      exact .inr (.inl ⟨_, _, ru, rw, small_le h, q _ H α (.refl _ _) A rfl⟩)
    · cases e
  · rename_i a b
    split at e
    · rename_i h
      cases e
      unfold RepU at ru rw
      obtain ⟨p, xs, rfl, s1, r1⟩ := ru
      obtain ⟨p2, ys, rfl, s2, r2⟩ := rw
      have e1 := r1.length
      have e2 := r2.length
      refine .inr (.inr (.inl ⟨p, p2, xs, ys, rfl, rfl, s1, s2, ?_, by rw [← e1, ← e2]; exact small_le h.2, fun hy => ?_, fun hy l hl => ?_⟩))
      · intro hx; subst hx
        cases a with
        | nil => simp at h
        | cons _ _ => simp at e1
      · subst hy
        have hb : b = [] := by
          cases b with
          | nil => rfl
          | cons _ _ => simp at e2
        subst hb
        refine q _ H α (.refl _ _) A ?_
        unfold RepU
        exact ⟨p, xs, rfl, s1, by rw [List.append_nil]; exact r1⟩
      · obtain ⟨g, A', r⟩ := A.tup (r1.append r2) hl
        exact q _ _ α g A' r
    · cases e
  · rename_i n m
    obtain ⟨a, ha, e⟩ := Option.bind_eq_some_iff.mp e
    obtain ⟨b, hb, e⟩ := Option.bind_eq_some_iff.mp e
    split at e
    · rename_i h
      cases e
      obtain ⟨p, xs, e1, h1, r1⟩ := lstAt_ok A ha
      obtain ⟨p2, ys, e2, h2, r2⟩ := lstAt_ok A hb
      obtain ⟨p', e1', rfl⟩ := ru.ref_of A
      obtain ⟨p2', e2', rfl⟩ := rw.ref_of A
      rw [e1] at e1'; cases e1'
      rw [e2] at e2'; cases e2'
      refine .inr (.inr (.inr ⟨p, p2, xs, ys, rfl, rfl, h1, h2, by rw [← r1.length, ← r2.length]; exact small_le h, fun l hl => ?_⟩))
      obtain ⟨g, A', r⟩ := A.lst (r1.append r2) hl
      exact q _ _ _ g A' r
    · cases e
  · cases e
noncomputable def semI (C : Int → Int → Bool) (g : Int → Int → U) : S2 := fun u w L => match u, w with
  | .int i, .int j => if C i j = true then some (g i j, L) else none
  | _, _ => none
theorem sem_I {K : PySem.W.Frag} {C : Int → Int → Prop} {Cb : Int → Int → Bool} {g : Int → Int → V} {g' : Int → Int → U} (hC : ∀ i j, Cb i j = true → C i j) (hg : ∀ i j H α, RepU K H α (g' i j) (g i j)) : SemR2 K (rI C g) (semI Cb g') := by
  intro H α L u w x y z L' Q A ru rw e q
  unfold semI at e
  split at e
  · split at e
    · rename_i h
      cases e
      unfold RepU at ru rw
      exact ⟨_, _, ru, rw, hC _ _ h, q _ H α (.refl _ _) A (hg _ _ _ _)⟩
    · cases e
  · cases e
noncomputable def semI0 (g : Int → Int → U) : S2 := fun u w L => match u, w with
  | .int i, .int j => some (g i j, L)
  | _, _ => none
theorem sem_I0 {K : PySem.W.Frag} {g : Int → Int → V} {g' : Int → Int → U} (hg : ∀ i j H α, RepU K H α (g' i j) (g i j)) : SemR2 K (rI0 g) (semI0 g') := by
  intro H α L u w x y z L' Q A ru rw e q
  unfold semI0 at e
  split at e
  · cases e
    unfold RepU at ru rw
    exact ⟨_, _, ru, rw, q _ H α (.refl _ _) A (hg _ _ _ _)⟩
  · cases e
noncomputable def semSub : S2 := semI0 fun i j => .int (i - j)
theorem sem_sub {K : PySem.W.Frag} : SemR2 K (rI0 fun i j => .int (i - j)) semSub := sem_I0 fun _ _ _ _ => rfl
noncomputable def mulOk (i j : Int) : Bool := (decide (-(2 ^ 64) < i) && decide (i < 2 ^ 64)) || (decide (-(2 ^ 64) < j) && decide (j < 2 ^ 64))
noncomputable def semMul : S2 := fun u w L => match u, w with
  | .int i, .int j => if mulOk i j = true then some (.int (i * j), L) else none
  | .str a, .int j => if a.length ≤ 1000 ∧ -1000 ≤ j ∧ j ≤ 1000 then some (.str (Txt.mul a j), L) else none
  | .ref n, .int k => (lstAt L n).bind fun a => if -1000000 ≤ k ∧ k ≤ 1000000 ∧ small (a.length * k.toNat) = true then some (.ref L.length, L ++ [.lst (List.replicate k.toNat a).flatten]) else none
  | _, _ => none
noncomputable def rMulA : R2 := fun x y H Q => rI CMul (fun i j => .int (i * j)) x y H Q ∨ (∃ a j, x = .str a ∧ y = .int j ∧ MulOk a j ∧ Q (.str (Txt.mul a j)) H) ∨ rRep x y H Q
theorem op_mul_str {X : Cx} : OpR X (binaryOp .Mult) (fun x y H Q => ∃ a j, x = .str a ∧ y = .int j ∧ MulOk a j ∧ Q (.str (Txt.mul a j)) H) := by
  intro pins s σ H x y v u Q I rx ry h
  obtain ⟨a, j, rfl, rfl, hok, q⟩ := h
  obtain ⟨t, rfl⟩ := rx
  obtain ⟨t', rfl⟩ := ry
  exact SB.mul hok fun t' k => ⟨.str (Txt.mul a j), H, I.tok _, ⟨_, rfl⟩, q⟩
theorem op_mulA {X : Cx} : OpR X (binaryOp .Mult) rMulA := op_mul.or (op_mul_str.or op_rep)
theorem RepL.flat {K : PySem.W.Frag} {H : Hp} {α : List Addr} {us : List U} {xs : List V} (h : RepL K H α us xs) : ∀ k : Nat, RepL K H α (List.replicate k us).flatten (List.replicate k xs).flatten
  | 0 => .nil
  | k + 1 => by rw [List.replicate_succ, List.replicate_succ, List.flatten_cons, List.flatten_cons]; exact h.append (RepL.flat h k)
theorem sem_mul {K : PySem.W.Frag} : SemR2 K rMulA semMul := by
  intro H α L u w x y z L' Q A ru rw e q
  unfold semMul at e
  split at e
  · rename_i i j
    split at e
    · rename_i h
      cases e
      unfold RepU at ru rw
      refine .inl ⟨_, _, ru, rw, ?_, q _ H α (.refl _ _) A rfl⟩
      simp only [mulOk, Bool.or_eq_true, Bool.and_eq_true, decide_eq_true_eq] at h
      exact h
    · cases e
  · rename_i a j
    split at e
    · rename_i h
      cases e
      unfold RepU at ru rw
      exact .inr (.inl ⟨_, _, ru, rw, mulOk_of 1000 1000 h.1 (by omega) (by omega) (by decide) (by decide), q _ H α (.refl _ _) A rfl⟩)
    · cases e
  · rename_i n k
    obtain ⟨a, ha, e⟩ := Option.bind_eq_some_iff.mp e
    split at e
    · rename_i h
      cases e
      obtain ⟨p, xs, e1, h1, r1⟩ := lstAt_ok A ha
      obtain ⟨p', e1', rfl⟩ := ru.ref_of A
      rw [e1] at e1'; cases e1'
      unfold RepU at rw
      refine .inr (.inr ⟨p, k, xs, rfl, rw, h1, by omega, by omega, by rw [← r1.length]; exact small_le h.2.2, fun l hl => ?_⟩)
      obtain ⟨g, A', r⟩ := A.lst (r1.flat k.toNat) hl
      exact q _ _ _ g A' r
    · cases e
  · cases e
noncomputable def CDivW (i j : Int) : Prop := 0 < j ∧ j < 1152921504606846976
theorem op_fdivW {X : Cx} : OpR X (binaryOp .FloorDiv) (rI CDivW fun i j => .int (i / j)) := opI fun i j _ _ _ _ _ hc q => by
  have h1 : (0 : Int) < j := hc.1
  have h2 : j < 1152921504606846976 := hc.2
  refine floordiv_int (by omega) (by rw [Int.fdiv_eq_ediv_of_nonneg i (by omega)]; exact q) (.inl (PyProof.noPylong_of_log2 ?_))
  have h3 : j.natAbs.log2 < 60 := (Nat.log2_lt (by omega)).mpr (by omega)
  omega
noncomputable def divOk (i j : Int) : Bool := decide (0 < j) && decide (j < 1152921504606846976)
noncomputable def semDiv : S2 := semI divOk fun i j => .int (i / j)
theorem sem_div {K : PySem.W.Frag} : SemR2 K (rI CDivW fun i j => .int (i / j)) semDiv := sem_I (fun i j h => by simpa [divOk, CDivW] using h) fun _ _ _ _ => rfl
noncomputable def semMod : S2 := semI (fun _ j => decide (0 < j)) fun i j => .int (i % j)
theorem sem_mod {K : PySem.W.Frag} : SemR2 K (rI (fun _ j => 0 < j) fun i j => .int (i % j)) semMod := sem_I (fun i j h => by simpa using h) fun _ _ _ _ => rfl
noncomputable def powOk (i j : Int) : Bool := decide (0 ≤ j) && decide (j ≤ 1000000) && decide (i.natAbs < 2 ^ 64)
noncomputable def semPow : S2 := semI powOk fun i j => .int (i ^ j.toNat)
theorem sem_pow {K : PySem.W.Frag} : SemR2 K (rI CPow fun i j => .int (i ^ j.toNat)) semPow := sem_I (fun i j h => by simp [powOk] at h; exact ⟨h.1.1, h.1.2, h.2⟩) fun _ _ _ _ => rfl
noncomputable def semLe : S2 := semI0 fun i j => .bl (decide (i ≤ j))
noncomputable def semGt : S2 := semI0 fun i j => .bl (decide (j < i))
noncomputable def semGe : S2 := semI0 fun i j => .bl (decide (j ≤ i))
noncomputable def semLt : S2 := semI0 fun i j => .bl (decide (i < j))
theorem sem_le {K : PySem.W.Frag} : SemR2 K (rI0 fun i j => .bl (decide (i ≤ j))) semLe := sem_I0 fun _ _ _ _ => rfl
theorem sem_gt {K : PySem.W.Frag} : SemR2 K (rI0 fun i j => .bl (decide (j < i))) semGt := sem_I0 fun _ _ _ _ => rfl
theorem sem_ge {K : PySem.W.Frag} : SemR2 K (rI0 fun i j => .bl (decide (j ≤ i))) semGe := sem_I0 fun _ _ _ _ => rfl
theorem sem_lt {K : PySem.W.Frag} : SemR2 K (rI0 fun i j => .bl (decide (i < j))) semLt := sem_I0 fun _ _ _ _ => rfl
noncomputable def mapO {β γ : Type} (f : β → Option γ) : List β → Option (List γ)
  | [] => some []
  | u :: r => (f u).bind fun d => (mapO f r).map fun ds => d :: ds
noncomputable def toP (L : UH) : Nat → U → Option PyData
  | 0, _ => none
  | _ + 1, .non => some .none
  | _ + 1, .bl b => some (.bool b)
  | _ + 1, .int i => some (.int i)
  | _ + 1, .str x => some (.str x)
  | n + 1, .tup l => (mapO (toP L n) l).map .tuple
  | n + 1, .ref k => (seqAt L k).bind fun l => (mapO (toP L n) l).map .list
section
variable {X : Cx} {pins : List (Addr × Obj)} {σ : L2.St} {H : Hp} {s : Shared} {α : List Addr} {L : UH}
theorem toP_all {n : Nat} (ih : ∀ (u : U) (x : V) (v : Value) (d : PyData), RepU X.K H α u x → RelV x v → toP L n u = some d → ∃ as, Reads s.heap v d as) : ∀ (l : List U) (xs : List V) (vs : List Value) (ds : List PyData), RepL X.K H α l xs → Vals xs vs → mapO (toP L n) l = some ds → ∃ as, ReadsAll s.heap vs ds as
  | [], xs, vs, ds, r, hv, e => by
    unfold RepL at r; subst r; cases hv; cases e; exact ⟨_, .nil⟩
  | u :: l, xs, vs, ds, r, hv, e => by
    unfold RepL at r
    obtain ⟨x, xr, rfl, r1, r2⟩ := r
    cases hv with
    | cons h1 h2 =>
      obtain ⟨d, e1, e⟩ := Option.bind_eq_some_iff.mp e
      obtain ⟨dr, e2, e⟩ := Option.map_eq_some_iff.mp e
      subst e
      obtain ⟨as, q1⟩ := ih u x _ d r1 h1 e1
      obtain ⟨bs, q2⟩ := toP_all ih l xr _ dr r2 h2 e2
      exact ⟨_, .cons q1 q2⟩
theorem toP_ok (I : Inv X pins σ H s) (A : Abs X.K H α L) : ∀ (n : Nat) (u : U) (x : V) (v : Value) (d : PyData), RepU X.K H α u x → RelV x v → toP L n u = some d → ∃ as, Reads s.heap v d as
  | 0, _, _, _, _, _, _, e => by cases e
  | n + 1, u, x, v, d, r, hv, e => by
    cases u with
    | non => unfold RepU at r; subst r; cases hv; cases e; exact ⟨_, .none⟩
    | bl b => unfold RepU at r; subst r; cases hv; cases e; exact ⟨_, .bool b⟩
    | int i => unfold RepU at r; subst r; obtain ⟨t, rfl⟩ := hv; cases e; exact ⟨_, .int i t⟩
    | str y => unfold RepU at r; subst r; obtain ⟨t, rfl⟩ := hv; cases e; exact ⟨_, .str y t⟩
    | tup l =>
      unfold RepU at r
      obtain ⟨a, xs, rfl, sq, r⟩ := r
      cases hv
      unfold toP at e
      obtain ⟨ds, e1, e⟩ := Option.map_eq_some_iff.mp e
      subst e
      obtain ⟨its, hv, ⟨o, h1, h2, m, h3⟩, _⟩ := I.tuple sq
      obtain ⟨as, q⟩ := toP_all (toP_ok I A n) l xs its ds r hv e1
      exact ⟨_, .tuple h1 h2 h3 (by simpa using q)⟩
    | ref k =>
      unfold RepU at r
      obtain ⟨a, ea, rfl⟩ := r
      cases hv
      unfold toP at e
      obtain ⟨l, hl, e⟩ := Option.bind_eq_some_iff.mp e
      obtain ⟨ds, e1, e⟩ := Option.map_eq_some_iff.mp e
      subst e
      obtain ⟨a', xs, ea', sq, r⟩ := seqAt_ok A hl
      rw [ea] at ea'; cases ea'
      obtain ⟨its, hv, ⟨o, m, h1, h2, _, h3⟩, _⟩ := I.list sq
      obtain ⟨as, q⟩ := toP_all (toP_ok I A n) l xs its ds r hv e1
      exact ⟨_, .list h1 h2 h3 (by simpa using q)⟩
end
noncomputable def eqP (u w : U) (L : UH) : Option Bool := (toP L 8 u).bind fun d => (toP L 8 w).bind fun e => if SeqAt.shaped d = true ∧ SeqAt.shaped e = true then some (PyData.eqv d e) else none
noncomputable def rEqU (K : PySem.W.Frag) (neg : Bool) : R2 := fun x y H Q => ∃ α L u w b, Abs K H α L ∧ RepU K H α u x ∧ RepU K H α w y ∧ eqP u w L = some b ∧ Q (.bl (if neg then !b else b)) H
theorem op_eqU {X : Cx} (hu : X.A.units + 64 < cLine) : OpR X (compareOp .Eq) (rEqU X.K false) := by
  intro pins s σ H x y v u Q I rx ry h
  obtain ⟨α, L, a, b, k, A, ra, rb, e, q⟩ := h
  obtain ⟨d, e1, e⟩ := Option.bind_eq_some_iff.mp e
  obtain ⟨d2, e2, e⟩ := Option.bind_eq_some_iff.mp e
  split at e
  · rename_i hs
    cases e
    obtain ⟨as, q1⟩ := toP_ok I A 8 a x v d ra rx e1
    obtain ⟨bs, q2⟩ := toP_ok I A 8 b y u d2 rb ry e2
    exact eq_dataH q1 q2 hs.1 hs.2 hu ⟨.bl _, H, I, rfl, q⟩
  · cases e
theorem op_neU {X : Cx} (hu : X.A.units + 64 < cLine) : OpR X (compareOp .NotEq) (rEqU X.K true) := by
  intro pins s σ H x y v u Q I rx ry h
  obtain ⟨α, L, a, b, k, A, ra, rb, e, q⟩ := h
  obtain ⟨d, e1, e⟩ := Option.bind_eq_some_iff.mp e
  obtain ⟨d2, e2, e⟩ := Option.bind_eq_some_iff.mp e
  split at e
  · rename_i hs
    cases e
    obtain ⟨as, q1⟩ := toP_ok I A 8 a x v d ra rx e1
    obtain ⟨bs, q2⟩ := toP_ok I A 8 b y u d2 rb ry e2
    exact ne_dataH q1 q2 hs.1 hs.2 hu ⟨.bl _, H, I, rfl, q⟩
  · cases e
noncomputable def semEq : S2 := fun u w L => (eqP u w L).map fun b => (.bl b, L)
noncomputable def semNe : S2 := fun u w L => (eqP u w L).map fun b => (.bl (!b), L)
theorem sem_eq {K : PySem.W.Frag} : SemR2 K (rEqU K false) semEq := by
  intro H α L u w x y z L' Q A ru rw e q
  obtain ⟨b, e1, e⟩ := Option.map_eq_some_iff.mp e
  cases e
  exact ⟨α, _, u, w, b, A, ru, rw, e1, q _ H α (.refl _ _) A rfl⟩
theorem sem_ne {K : PySem.W.Frag} : SemR2 K (rEqU K true) semNe := by
  intro H α L u w x y z L' Q A ru rw e q
  obtain ⟨b, e1, e⟩ := Option.map_eq_some_iff.mp e
  cases e
  exact ⟨α, _, u, w, b, A, ru, rw, e1, q _ H α (.refl _ _) A rfl⟩
noncomputable def semIs (neg : Bool) : S2 := fun u w L => match u, w with
  | .non, .non => some (.bl (!neg), L)
  | .bl a, .bl b => some (.bl (if neg then !(a == b) else a == b), L)
  | .int _, .non => some (.bl neg, L)
  | .bl _, .non => some (.bl neg, L)
  | .str _, .non => some (.bl neg, L)
  | .tup _, .non => some (.bl neg, L)
  | .ref _, .non => some (.bl neg, L)
  | _, _ => none
noncomputable def isSome : U → Bool
  | .non => false
  | _ => true
noncomputable def semNotN : S2 := fun u w L => match w with
  | .non => some (.bl (isSome u), L)
  | _ => none
theorem sem_notN {K : PySem.W.Frag} : SemR2 K (fun x y H Q => y = .non ∧ Q (.bl (!decide (x = .non))) H) semNotN := by
  intro H α L u w x y z L' Q A ru rw e q
  unfold semNotN at e
  split at e
  · cases e
    unfold RepU at rw
    refine ⟨rw, ?_⟩
    have : (!decide (x = V.non)) = isSome u := by
      cases u with
      | non => unfold RepU at ru; simp [ru, isSome]
      | bl b => unfold RepU at ru; simp [ru, isSome]
      | int b => unfold RepU at ru; simp [ru, isSome]
      | str b => unfold RepU at ru; simp [ru, isSome]
      | tup b => unfold RepU at ru; obtain ⟨_, _, rfl, _⟩ := ru; simp [isSome]
      | ref b => unfold RepU at ru; obtain ⟨_, _, rfl⟩ := ru; simp [isSome]
    rw [this]
    exact q _ H α (.refl _ _) A rfl
  · cases e
end MR
set_option Elab.async false
set_option linter.all false
set_option maxRecDepth 100000
set_option maxHeartbeats 1000000
namespace MR
open PySem PySem.Spec PyProof.Rows L2
theorem RepL.atI {K : PySem.W.Frag} {H : Hp} {α : List Addr} {us : List U} {xs : List V} {i : Int} {u : U} (r : RepL K H α us xs) (h : L2.atI us i = some u) : ∃ x, L2.atI xs i = some x ∧ RepU K H α u x := by
  unfold L2.atI at h ⊢
  obtain ⟨j, e1, e2⟩ := Option.bind_eq_some_iff.mp h
  obtain ⟨x, e3, r3⟩ := r.get e2
  exact ⟨x, by rw [← r.length, e1]; exact e3, r3⟩
noncomputable def semIx : S2 := fun u w L => match u, w with
  | .tup l, .int i => (L2.atI l i).map fun z => (z, L)
  | .ref n, .int i => (seqAt L n).bind fun l => (L2.atI l i).map fun z => (z, L)
  | .str x, .int i => if small x.length = true then (L2.atI x.cps.toList i).map fun c => (.str ⟨#[c]⟩, L) else none
  | _, _ => none
theorem sem_ix {K : PySem.W.Frag} : SemR2 K (rIx K) semIx := by
  intro H α L u w x y z L' Q A ru rw e q
  unfold semIx at e
  split at e
  · obtain ⟨c, e1, e⟩ := Option.map_eq_some_iff.mp e
    cases e
    unfold RepU at ru rw
    obtain ⟨a, xs, rfl, sq, r⟩ := ru
    obtain ⟨v, e2, r2⟩ := r.atI e1
    exact .inr (.inl ⟨a, xs, _, v, rfl, rw, sq, e2, q _ H α (.refl _ _) A r2⟩)
  · obtain ⟨l, hl, e⟩ := Option.bind_eq_some_iff.mp e
    obtain ⟨c, e1, e⟩ := Option.map_eq_some_iff.mp e
    cases e
    obtain ⟨a, xs, ea, sq, r⟩ := seqAt_ok A hl
    obtain ⟨a', ea', rfl⟩ := ru.ref_of A
    rw [ea] at ea'; cases ea'
    unfold RepU at rw
    obtain ⟨v, e2, r2⟩ := r.atI e1
    exact .inl ⟨a, xs, _, v, rfl, rw, sq, e2, q _ H α (.refl _ _) A r2⟩
  · split at e
    · rename_i hs
      obtain ⟨c, e1, e⟩ := Option.map_eq_some_iff.mp e
      cases e
      unfold RepU at ru rw
      exact .inr (.inr ⟨_, _, c, ru, rw, small_le hs, e1, q _ H α (.refl _ _) A rfl⟩)
    · cases e
  · cases e
noncomputable def cutU (l : List U) (lo hi : Option Int) : List U := (l.drop (HT.sIx l.length 0 lo)).take (HT.sIx l.length l.length hi - HT.sIx l.length 0 lo)
theorem RepL.cut {K : PySem.W.Frag} {H : Hp} {α : List Addr} {us : List U} {xs : List V} (r : RepL K H α us xs) (lo hi : Option Int) : RepL K H α (cutU us lo hi) (cutV xs lo hi) := by
  unfold cutU cutV
  rw [r.length]
  exact (r.drop _).take _
noncomputable def semSl : SS := fun u lo hi L => match u with
  | .tup l => if HT.sIx l.length 0 lo = 0 ∧ HT.sIx l.length l.length hi = l.length then none else some (.tup (cutU l lo hi), L)
  | .ref n => (seqAt L n).map fun l => (.ref L.length, L ++ [.lst (cutU l lo hi)])
  | _ => none
noncomputable def rSlA (K : PySem.W.Frag) : V → Option Int → Option Int → Hp → VK → Prop := fun x lo hi H Q => rSlT K x lo hi H Q ∨ rSlL K x lo hi H Q
theorem sl_all {X : Cx} : SlR X (rSlA X.K) := sl_tup.or sl_list
theorem sem_sl {K : PySem.W.Frag} : SemSl K (rSlA K) semSl := by
  intro H α L u x lo hi z L' Q A ru e q
  unfold semSl at e
  split at e
  · split at e
    · cases e
    · rename_i hn
      cases e
      unfold RepU at ru
      obtain ⟨a, xs, rfl, sq, r⟩ := ru
      refine .inl ⟨a, xs, rfl, sq, by rw [← r.length]; exact hn, fun p hp => ?_⟩
      obtain ⟨g, A', r'⟩ := A.tup (r.cut lo hi) hp
      exact q _ _ α g A' r'
  · obtain ⟨l, hl, e⟩ := Option.map_eq_some_iff.mp e
    cases e
    obtain ⟨a, xs, ea, sq, r⟩ := seqAt_ok A hl
    obtain ⟨a', ea', rfl⟩ := ru.ref_of A
    rw [ea] at ea'; cases ea'
    refine .inr ⟨a, xs, rfl, sq, fun p hp => ?_⟩
    obtain ⟨g, A', r'⟩ := A.lst (r.cut lo hi) hp
    exact q _ _ _ g A' r'
  · cases e
noncomputable def lenU (u : U) (L : UH) : Option Nat := match u with
  | .str y => if small y.length = true then some y.length else none
  | .tup l => some l.length
  | .ref n => (seqAt L n).map List.length
  | _ => none
noncomputable def semLen : SC := fun us L => match us with
  | [u] => (lenU u L).map fun (n : Nat) => (U.int (n : Int), L)
  | _ => none
theorem sem_len {K : PySem.W.Frag} : SemC K (fun xs H Q => ∃ x n, xs = [x] ∧ LenV K x H n ∧ Q (.int n) H) semLen := by
  intro H α L us xs z L' Q A r e q
  unfold semLen at e
  split at e
  · rename_i u
    obtain ⟨n, e1, e⟩ := Option.map_eq_some_iff.mp e
    cases e
    obtain ⟨x, rfl, rx⟩ := r.one
    refine ⟨x, n, rfl, ?_, q _ H α (.refl _ _) A rfl⟩
    cases u with
    | str y =>
      unfold lenU at e1
      simp only at e1
      split at e1
      · rename_i hs; cases e1; unfold RepU at rx; subst rx; exact ⟨small_le hs, rfl⟩
      · cases e1
    | tup l =>
      cases e1
      unfold RepU at rx
      obtain ⟨a, ys, rfl, sq, r2⟩ := rx
      exact .inr ⟨ys, sq, r2.length⟩
    | ref k =>
      obtain ⟨l, hl, e2⟩ := Option.map_eq_some_iff.mp e1
      subst e2
      obtain ⟨a, ys, ea, sq, r2⟩ := seqAt_ok A hl
      obtain ⟨a', ea', rfl⟩ := rx.ref_of A
      rw [ea] at ea'; cases ea'
      exact .inl ⟨ys, sq, r2.length⟩
    | _ => cases e1
  · cases e
noncomputable def toI : U → Option Int
  | .int i => some i
  | _ => none
theorem toIs_ok {K : PySem.W.Frag} {H : Hp} {α : List Addr} : ∀ {us : List U} {xs : List V} {ns : List Int}, RepL K H α us xs → mapO toI us = some ns → xs = ns.map V.int
  | [], xs, ys, r, h => by unfold RepL at r; subst r; cases h; rfl
  | u :: us, xs, ys, r, h => by
    unfold RepL at r
    obtain ⟨x, xr, rfl, r1, r2⟩ := r
    obtain ⟨y, e1, h⟩ := Option.bind_eq_some_iff.mp h
    obtain ⟨yr, e2, h⟩ := Option.map_eq_some_iff.mp h
    subst h
    cases u <;> simp only [toI] at e1 <;> first
      | (cases e1; unfold RepU at r1; subst r1; rw [toIs_ok r2 e2]; rfl)
      | cases e1
noncomputable def maxI : List Int → Int
  | [] => 0
  | [a] => a
  | a :: r => max a (maxI r)
noncomputable def minI : List Int → Int
  | [] => 0
  | [a] => a
  | a :: r => min a (minI r)
theorem maxI_is : ∀ (ns : List Int) (M : Int), M ∈ ns → (∀ a, a ∈ ns → a ≤ M) → maxI ns = M
  | [], M, h, _ => by cases h
  | [a], M, h, _ => by simp at h; exact h.symm
  | a :: b :: r, M, h, hm => by
    show max a (maxI (b :: r)) = M
    by_cases hb : M ∈ b :: r
    · rw [maxI_is (b :: r) M hb fun c hc => hm c (List.mem_cons_of_mem _ hc)]
      have := hm a (List.mem_cons_self ..)
      omega
    · rcases List.mem_cons.mp h with rfl | h
      · have hle : ∀ (l : List Int), l ≠ [] → (∀ c, c ∈ l → c ≤ M) → maxI l ≤ M := by
          intro l
          induction l with
          | nil => intro h; exact absurd rfl h
          | cons c t ih =>
            intro _ hc
            cases t with
            | nil => exact hc c (List.mem_cons_self ..)
            | cons d t =>
              have h1 := hc c (List.mem_cons_self ..)
              have h2 := ih (by simp) fun e he => hc e (List.mem_cons_of_mem _ he)
              show max c (maxI (d :: t)) ≤ M
              omega
        have := hle (b :: r) (by simp) fun c hc => hm c (List.mem_cons_of_mem _ hc)
        omega
      · exact absurd h hb
theorem minI_is : ∀ (ns : List Int) (M : Int), M ∈ ns → (∀ a, a ∈ ns → M ≤ a) → minI ns = M
  | [], M, h, _ => by cases h
  | [a], M, h, _ => by simp at h; exact h.symm
  | a :: b :: r, M, h, hm => by
    show min a (minI (b :: r)) = M
    by_cases hb : M ∈ b :: r
    · rw [minI_is (b :: r) M hb fun c hc => hm c (List.mem_cons_of_mem _ hc)]
      have := hm a (List.mem_cons_self ..)
      omega
    · rcases List.mem_cons.mp h with rfl | h
      · have hle : ∀ (l : List Int), l ≠ [] → (∀ c, c ∈ l → M ≤ c) → M ≤ minI l := by
          intro l
          induction l with
          | nil => intro h; exact absurd rfl h
          | cons c t ih =>
            intro _ hc
            cases t with
            | nil => exact hc c (List.mem_cons_self ..)
            | cons d t =>
              have h1 := hc c (List.mem_cons_self ..)
              have h2 := ih (by simp) fun e he => hc e (List.mem_cons_of_mem _ he)
              show M ≤ min c (minI (d :: t))
              omega
        have := hle (b :: r) (by simp) fun c hc => hm c (List.mem_cons_of_mem _ hc)
        omega
      · exact absurd h hb
section
variable {X : Cx}
theorem call_maxL (hc : X.calm = true) : CallR X (.builtin "max") (fun xs H Q => ∃ (p : Addr) (ns : List Int), xs = [.ref p] ∧ SqL X.K H p (ns.map V.int) ∧ 0 < ns.length ∧ Q (.int (maxI ns)) H) := by
  intro pins s σ H xs us Q I r h
  obtain ⟨p, ns, rfl, hq, hne, q⟩ := h
  obtain ⟨u, rfl, rx⟩ := vals1 r
  cases rx
  obtain ⟨its, r', pl, hz⟩ := I.list hq
  have hi : IntsAre its ns := intsAre_of r'
  obtain ⟨xs, e⟩ := hi.allInts.items
  have hns : ns = xs.toList.map (·.1) := by rw [← hi.numsOf, ← nums_intItems, ← e]
  have hsz : 0 < xs.size := by
    have h3 := hne; rw [hns, List.length_map, Array.length_toList] at h3; exact h3
  have hl' : s.heap.IsList p (intItems xs) := e ▸ pl.isList
  refine max_intList (I.ok.hd hc) hl' hsz fun v h' tk hv hk => ?_
  obtain ⟨t, rfl⟩ := intItems_at hv
  obtain ⟨h1, h2⟩ := argBest_gt (numAt xs) (xs.size - 1)
  have hM := maxI_is ns (numAt xs (argBest (fun i j => decide (numAt xs i > numAt xs j)) (xs.size - 1))) (by rw [hns, numAt_eq]; exact getD_mem (by rw [List.length_map, Array.length_toList]; omega)) (fun a ha => by
    rw [hns] at ha
    obtain ⟨j, hj, rfl⟩ := mem_getD ha
    rw [List.length_map, Array.length_toList] at hj
    rw [← numAt_eq]; exact h2 j (by omega))
  rw [hM] at q
  exact ⟨.int _, H, I.kept hk, ⟨_, rfl⟩, q⟩
theorem call_minL (hc : X.calm = true) : CallR X (.builtin "min") (fun xs H Q => ∃ (p : Addr) (ns : List Int), xs = [.ref p] ∧ SqL X.K H p (ns.map V.int) ∧ 0 < ns.length ∧ Q (.int (minI ns)) H) := by
  intro pins s σ H xs us Q I r h
  obtain ⟨p, ns, rfl, hq, hne, q⟩ := h
  obtain ⟨u, rfl, rx⟩ := vals1 r
  cases rx
  obtain ⟨its, r', pl, hz⟩ := I.list hq
  have hi : IntsAre its ns := intsAre_of r'
  obtain ⟨xs, e⟩ := hi.allInts.items
  have hns : ns = xs.toList.map (·.1) := by rw [← hi.numsOf, ← nums_intItems, ← e]
  have hsz : 0 < xs.size := by
    have h3 := hne; rw [hns, List.length_map, Array.length_toList] at h3; exact h3
  have hl' : s.heap.IsList p (intItems xs) := e ▸ pl.isList
  refine min_intList (I.ok.hd hc) hl' hsz fun v h' tk hv hk => ?_
  obtain ⟨t, rfl⟩ := intItems_at hv
  obtain ⟨h1, h2⟩ := argBest_lt (numAt xs) (xs.size - 1)
  have hM := minI_is ns (numAt xs (argBest (fun i j => decide (numAt xs i < numAt xs j)) (xs.size - 1))) (by rw [hns, numAt_eq]; exact getD_mem (by rw [List.length_map, Array.length_toList]; omega)) (fun a ha => by
    rw [hns] at ha
    obtain ⟨j, hj, rfl⟩ := mem_getD ha
    rw [List.length_map, Array.length_toList] at hj
    rw [← numAt_eq]; exact h2 j (by omega))
  rw [hM] at q
  exact ⟨.int _, H, I.kept hk, ⟨_, rfl⟩, q⟩
end
theorem refs_at {K : PySem.W.Frag} {H : Hp} {α : List Addr} {L : UH} {n : Nat} {l : List U} {x : V} (A : Abs K H α L) (hl : seqAt L n = some l) (rx : RepU K H α (.ref n) x) : ∃ a ys, x = .ref a ∧ SqL K H a ys ∧ RepL K H α l ys := by
  obtain ⟨a, ys, ea, sq, r2⟩ := seqAt_ok A hl
  obtain ⟨a', ea', rfl⟩ := rx.ref_of A
  rw [ea] at ea'; cases ea'
  exact ⟨a, ys, rfl, sq, r2⟩
noncomputable def semMM (g2 : Int → Int → Int) (gl : List Int → Int) : SC := fun us L => match us with
  | [.int i, .int j] => some (.int (g2 i j), L)
  | [.ref n] => (seqAt L n).bind fun l => (mapO toI l).bind fun ns => if ns.isEmpty = true then none else some (.int (gl ns), L)
  | _ => none
noncomputable def semMax : SC := semMM (fun i j => if j > i then j else i) maxI
noncomputable def semMin : SC := semMM (fun i j => if j < i then j else i) minI
theorem sem_MM {K : PySem.W.Frag} {g2 : Int → Int → Int} {gl : List Int → Int} : SemC K (fun xs H Q => (∃ i j, xs = [.int i, .int j] ∧ Q (.int (g2 i j)) H) ∨ ∃ (p : Addr) (ns : List Int), xs = [.ref p] ∧ SqL K H p (ns.map V.int) ∧ 0 < ns.length ∧ Q (.int (gl ns)) H) (semMM g2 gl) := by
  intro H α L us xs z L' Q A r e q
  unfold semMM at e
  split at e
  · cases e
    obtain ⟨x, y, rfl, rx, ry⟩ := r.two
    unfold RepU at rx ry
    exact .inl ⟨_, _, by rw [rx, ry], q _ H α (.refl _ _) A rfl⟩
  · obtain ⟨l, hl, e⟩ := Option.bind_eq_some_iff.mp e
    obtain ⟨ns, e1, e⟩ := Option.bind_eq_some_iff.mp e
    split at e
    · cases e
    · rename_i hne
      cases e
      obtain ⟨x, rfl, rx⟩ := r.one
      obtain ⟨a, ys, rfl, sq, r2⟩ := refs_at A hl rx
      rw [toIs_ok r2 e1] at sq
      exact .inr ⟨a, ns, rfl, sq, by cases ns <;> simp_all, q _ H α (.refl _ _) A rfl⟩
  · cases e
theorem call_maxA {X : Cx} (hc : X.calm = true) : CallR X (.builtin "max") (fun xs H Q => (∃ i j, xs = [.int i, .int j] ∧ Q (.int (if j > i then j else i)) H) ∨ ∃ (p : Addr) (ns : List Int), xs = [.ref p] ∧ SqL X.K H p (ns.map V.int) ∧ 0 < ns.length ∧ Q (.int (maxI ns)) H) := (call_max2 hc).or (call_maxL hc)
theorem call_minA {X : Cx} (hc : X.calm = true) : CallR X (.builtin "min") (fun xs H Q => (∃ i j, xs = [.int i, .int j] ∧ Q (.int (if j < i then j else i)) H) ∨ ∃ (p : Addr) (ns : List Int), xs = [.ref p] ∧ SqL X.K H p (ns.map V.int) ∧ 0 < ns.length ∧ Q (.int (minI ns)) H) := (call_min2 hc).or (call_minL hc)
theorem sem_max {K : PySem.W.Frag} : SemC K (fun xs H Q => (∃ i j, xs = [.int i, .int j] ∧ Q (.int (if j > i then j else i)) H) ∨ ∃ (p : Addr) (ns : List Int), xs = [.ref p] ∧ SqL K H p (ns.map V.int) ∧ 0 < ns.length ∧ Q (.int (maxI ns)) H) semMax := sem_MM
theorem sem_min {K : PySem.W.Frag} : SemC K (fun xs H Q => (∃ i j, xs = [.int i, .int j] ∧ Q (.int (if j < i then j else i)) H) ∨ ∃ (p : Addr) (ns : List Int), xs = [.ref p] ∧ SqL K H p (ns.map V.int) ∧ 0 < ns.length ∧ Q (.int (minI ns)) H) semMin := sem_MM
noncomputable def semInt : SC := fun us L => match us with
  | [.int i] => some (.int i, L)
  | [.bl k] => some (.int (if k then 1 else 0), L)
  | _ => none
theorem sem_int {K : PySem.W.Frag} : SemC K (fun xs H Q => (∃ i, xs = [.int i] ∧ Q (.int i) H) ∨ ∃ k, xs = [.bl k] ∧ Q (.int (if k then 1 else 0)) H) semInt := by
  intro H α L us xs z L' Q A r e q
  unfold semInt at e
  split at e
  · cases e
    obtain ⟨x, rfl, rx⟩ := r.one
    unfold RepU at rx
    exact .inl ⟨_, by rw [rx], q _ H α (.refl _ _) A rfl⟩
  · cases e
    obtain ⟨x, rfl, rx⟩ := r.one
    unfold RepU at rx
    exact .inr ⟨_, by rw [rx], q _ H α (.refl _ _) A rfl⟩
  · cases e
noncomputable def semTuple : SC := fun us L => match us with
  | [.ref n] => (seqAt L n).map fun l => (.tup l, L)
  | [.tup l] => some (.tup l, L)
  | _ => none
theorem sem_tuple {K : PySem.W.Frag} : SemC K (fun xs H Q => ∃ p ys, xs = [.ref p] ∧ ((SqL K H p ys ∧ ∀ l, H l = none → Q (.ref l) (upd H l (.tup ys))) ∨ (SqT K H p ys ∧ Q (.ref p) H))) semTuple := by
  intro H α L us xs z L' Q A r e q
  unfold semTuple at e
  split at e
  · obtain ⟨l, hl, e⟩ := Option.map_eq_some_iff.mp e
    cases e
    obtain ⟨x, rfl, rx⟩ := r.one
    obtain ⟨a, ys, rfl, sq, r2⟩ := refs_at A hl rx
    refine ⟨a, ys, rfl, .inl ⟨sq, fun p hp => ?_⟩⟩
    obtain ⟨g, A', r'⟩ := A.tup r2 hp
    exact q _ _ _ g A' r'
  · cases e
    obtain ⟨x, rfl, rx⟩ := r.one
    have rx' := rx
    unfold RepU at rx
    obtain ⟨a, ys, rfl, sq, r2⟩ := rx
    exact ⟨a, ys, rfl, .inr ⟨sq, q _ H α (.refl _ _) A rx'⟩⟩
  · cases e
noncomputable def semAppend : SM := fun u us L => match u, us with
  | .ref n, [y] => (lstAt L n).bind fun l => if decide (l.length < sizeLine) = true then some (.non, L.set n (.lst (l ++ [y]))) else none
  | _, _ => none
theorem ref_lst {K : PySem.W.Frag} {H : Hp} {α : List Addr} {L : UH} {n : Nat} {l : List U} {x : V} (A : Abs K H α L) (hl : lstAt L n = some l) (rx : RepU K H α (.ref n) x) : ∃ a ys, x = .ref a ∧ α[n]? = some a ∧ H a = some (.lst ys) ∧ RepL K H α l ys := by
  obtain ⟨a, ys, ea, sq, r2⟩ := lstAt_ok A hl
  obtain ⟨a', ea', rfl⟩ := rx.ref_of A
  rw [ea] at ea'; cases ea'
  exact ⟨a, ys, rfl, ea, sq, r2⟩
theorem sem_append {K : PySem.W.Frag} : SemM K rAppend semAppend := by
  intro H α L u us x xs z L' Q A ru r e q
  unfold semAppend at e
  split at e
  · obtain ⟨l, hl, e⟩ := Option.bind_eq_some_iff.mp e
    split at e
    · rename_i hs
      cases e
      obtain ⟨y, rfl, ry⟩ := r.one
      obtain ⟨a, ys, rfl, ea, h, r2⟩ := ref_lst A hl ru
      obtain ⟨g, A'⟩ := A.setL hl ea h (r2.append (.cons ry .nil))
      exact ⟨a, ys, y, rfl, rfl, h, by rw [← r2.length]; exact of_decide_eq_true hs, q _ _ _ g A' rfl⟩
    · cases e
  · cases e
noncomputable def semPop : SM := fun u us L => match u, us with
  | .ref n, [.int i] => (lstAt L n).bind fun l => if -(2 ^ 63) ≤ i ∧ i < 2 ^ 63 then (seqIndex? i l.length).bind fun k => (l[k]?).map fun y => (y, L.set n (.lst (l.eraseIdx k))) else none
  | _, _ => none
theorem sem_pop {K : PySem.W.Frag} : SemM K rPopAt semPop := by
  intro H α L u us x xs z L' Q A ru r e q
  unfold semPop at e
  split at e
  · obtain ⟨l, hl, e⟩ := Option.bind_eq_some_iff.mp e
    split at e
    · rename_i hs
      obtain ⟨k, ek, e⟩ := Option.bind_eq_some_iff.mp e
      obtain ⟨y, ey, e⟩ := Option.map_eq_some_iff.mp e
      cases e
      obtain ⟨v, rfl, rv⟩ := r.one
      unfold RepU at rv
      subst rv
      obtain ⟨a, ys, rfl, ea, h, r2⟩ := ref_lst A hl ru
      obtain ⟨w, ew, rw⟩ := r2.get ey
      obtain ⟨g, A'⟩ := A.setL hl ea h (r2.erase k)
      exact ⟨a, ys, _, k, w, rfl, rfl, h, hs.1, hs.2, by rw [← r2.length]; exact ek, ew, q _ _ _ g A' (rw.mono g)⟩
    · cases e
  · cases e
noncomputable def gSub (fo fi : FE) : FG := fun v δ L => (fo δ L).bind fun p => (fi δ p.2).bind fun q => match p.1, q.1 with
  | .ref n, .int k => (lstAt q.2 n).bind fun l => (ixN l.length k).map fun j => (δ, q.2.set n (.lst (l.set j v)))
  | _, _ => none
theorem pgf_sub {X : Cx} {o i : Expr} {fo fi : FE} {pos : Pos} (ho : PEF X o fo) (hi : PEF X i fi) (ha : ∀ v, assign (.Subscript o i pos) X.env v = (do let ov ← holding [v] (eval o X.env); let iv ← holding [v, ov] (eval i X.env); standAt pos; holding [v, ov, iv] (setItem ov iv v); release [v, ov, iv] []) := by intro _; rfl) : PGF X (.Subscript o i pos) (MR.gSub fo fi) := by
  refine PG.imp (pg_sub ho hi set_list ha) ?_
  rintro v σ H Q ⟨α, δ, L, u, A, S, r, δ', L', e, q⟩
  obtain ⟨⟨o', L1⟩, e1, e⟩ := Option.bind_eq_some_iff.mp e
  obtain ⟨⟨i', L2⟩, e2, e⟩ := Option.bind_eq_some_iff.mp e
  refine ⟨α, δ, L, A, S, o', L1, e1, fun x H1 α1 g1 A1 r1 => ⟨α1, δ, L1, A1, S.mono g1, i', L2, e2, fun y H2 α2 g2 A2 r2 => ?_⟩⟩
  simp only at e
  split at e
  · obtain ⟨l, hl, e⟩ := Option.bind_eq_some_iff.mp e
    obtain ⟨j, ej, e⟩ := Option.map_eq_some_iff.mp e
    cases e
    unfold RepU at r2
    subst r2
    obtain ⟨a, ys, rfl, ea, h, r3⟩ := ref_lst A2 hl (r1.mono g2)
    obtain ⟨g, A'⟩ := A2.setL hl ea h (r3.set ((r.mono g1).mono g2) j)
    exact ⟨a, ys, _, j, rfl, rfl, h, by rw [← r3.length]; exact ej, q _ _ _ (g1.trans (g2.trans g)) A' (((S.mono g1).mono g2).mono g)⟩
  · cases e
end MR
set_option Elab.async false
set_option linter.all false
set_option maxRecDepth 100000
set_option maxHeartbeats 1000000
namespace MR
open PySem PySem.Spec PyProof.Rows L2
noncomputable def tyName (u : U) (L : UH) : Option String := match u with
  | .non => some "NoneType"
  | .bl _ => some "bool"
  | .int _ => some "int"
  | .str _ => some "str"
  | .tup _ => some "tuple"
  | .ref n => match L[n]? with
    | some (.lst _) => some "list"
    | some (.ro _) => some "list"
    | some (.dic _) => some "dict"
    | _ => none
noncomputable def isT (t c : String) : Bool := t == c || (t == "bool" && c == "int")
noncomputable def fIsi (c : String) (f : FE) : FE := fun δ L => (f δ L).bind fun p => (tyName p.1 p.2).map fun t => (.bl (isT t c), p.2)
end MR
namespace MR
open PySem PySem.Spec PyProof.Rows L2
theorem law_sp {K : PySem.W.Frag} {F : FN} {H : Hp} {a : Addr} {ns : List Int} {E : XK} (ho : Only H) (hS : SqL K H a (ns.map V.int)) (h : ∃ L', F [.ref 0] [.ro (ns.map U.int)] = some (.bl true, L')) : spF K 1 F [.ref a] H (fun v _ => v = .bl true) E := by
  obtain ⟨L', e⟩ := h
  have ro : RO K H a (ns.map V.int) := by
    rcases hS with (q | ⟨o, q⟩) | q
    · rcases ho a with z | ⟨o, xs, z⟩
      · rw [z] at q; cases q
      · rw [z] at q; cases q
    · exact .inl ⟨o, q⟩
    · exact .inr q
  refine ⟨[a], [.ro (ns.map U.int)], [.ref 0], ⟨rfl, fun i j b o o' e1 e2 e3 e4 => ?_, fun i b o e1 e2 => ?_⟩, .cons ?_ .nil, rfl, .bl true, L', e, fun v H' α' _ _ r => r⟩
  · cases i with
    | zero => cases j with
      | zero => exact .inl rfl
      | succ j => simp at e2
    | succ i => simp at e1
  · cases i with
    | zero => simp at e1 e2; subst e1; subst e2; exact ⟨_, ro, RepL.ints ns⟩
    | succ i => simp at e1
  · unfold RepU; exact ⟨a, rfl, rfl⟩
end MR
set_option Elab.async false
set_option linter.all false
set_option maxRecDepth 100000
set_option maxHeartbeats 2000000
namespace MR
open PySem PySem.Spec PyProof.Rows L2
theorem closure_of (env : PySem.Env) : ∀ (names : List (Str × NameKind)) (cs : List (Str × Addr)), (∀ y ∈ names, y.2 = .free → ∃ c, env.cells.lookup y.1 = some c) → (∀ x c, cs.lookup x = some c → env.cells.lookup x = some c) →
    ∃ cl : List (Str × Addr), (forIn names cs fun (x : Str × NameKind) r => if (x.2 == NameKind.free) = true then do let c ← cellOf env x.1; pure (ForInStep.yield ((x.1, c) :: r)) else pure (ForInStep.yield r) : Sem (List (Str × Addr))) = pure cl ∧
      (∀ x c, cl.lookup x = some c → env.cells.lookup x = some c) ∧ (∀ y ∈ names, y.2 = .free → ∃ c, cl.lookup y.1 = some c) ∧ ∀ x, (∃ c, cs.lookup x = some c) → ∃ c, cl.lookup x = some c
  | [], cs, _, h2 => ⟨cs, rfl, h2, (fun _ h => nomatch h), fun _ h => h⟩
  | (n, k) :: r, cs, h1, h2 => by
    cases hk : k == NameKind.free with
    | true =>
      have hk' : k = .free := by simpa using hk
      obtain ⟨c, hc⟩ := h1 (n, k) (List.mem_cons_self ..) hk'
      have look : ∀ x c', List.lookup x ((n, c) :: cs) = some c' → env.cells.lookup x = some c' := fun x c' e => by
        rw [List.lookup_cons] at e
        cases hx : x == n with
        | true => rw [hx] at e; simp at e; subst e; have : x = n := by simpa using hx
                  rw [this]; exact hc
        | false => rw [hx] at e; exact h2 x c' e
      obtain ⟨cl, e, p1, p2, p3⟩ := closure_of env r ((n, c) :: cs) (fun y hy => h1 y (List.mem_cons_of_mem _ hy)) look
      refine ⟨cl, ?_, p1, fun y hy hf => ?_, fun x hx => ?_⟩
      · rw [List.forIn_cons]
        have e0 : (cellOf env n : Sem Addr) = pure c := by unfold cellOf; rw [hc]
        simp only [hk, if_true, e0]
        exact e
      · rcases List.mem_cons.mp hy with rfl | hy
        · exact p3 n ⟨c, by simp⟩
        · exact p2 y hy hf
      · refine p3 x ?_
        rw [List.lookup_cons]
        cases hx' : x == n with
        | true => exact ⟨c, rfl⟩
        | false => exact hx
    | false =>
      obtain ⟨cl, e, p1, p2, p3⟩ := closure_of env r cs (fun y hy => h1 y (List.mem_cons_of_mem _ hy)) h2
      refine ⟨cl, ?_, p1, fun y hy hf => ?_, p3⟩
      · rw [List.forIn_cons]
        simp only [hk, Bool.false_eq_true, if_false]
        exact e
      · rcases List.mem_cons.mp hy with rfl | hy
        · rw [show k = NameKind.free from hf] at hk; cases hk
        · exact p2 y hy hf
theorem closureFor_ex {scope : Scope} {env : PySem.Env} (h : ∀ y ∈ scope.names, y.2 = .free → ∃ c, env.cells.lookup y.1 = some c) :
    ∃ cl, closureFor scope env = pure cl ∧ (∀ x c, cl.lookup x = some c → env.cells.lookup x = some c) ∧ ∀ y ∈ scope.names, y.2 = .free → ∃ c, cl.lookup y.1 = some c := by
  obtain ⟨cl, e, p1, p2, _⟩ := closure_of env scope.names [] h (fun x c e => by simp at e)
  refine ⟨cl, ?_, p1, p2⟩
  unfold closureFor
  show (forIn scope.names [] _ >>= fun cs => pure cs) = pure cl
  have : (forIn scope.names ([] : List (Str × Addr)) (fun (x : Str × NameKind) (r : List (Str × Addr)) => if (x.2 == NameKind.free) = true then do let c ← cellOf env x.1; pure (ForInStep.yield ((x.1, c) :: r)) else pure (ForInStep.yield r)) : Sem (List (Str × Addr))) >>= (fun cs => pure cs) = pure cl := by rw [e]; rfl
  exact this
end MR
set_option Elab.async false
set_option linter.all false
set_option maxRecDepth 100000
set_option maxHeartbeats 4000000
namespace MR
open PySem PySem.Spec PyProof.Rows L2
noncomputable def blk (X : Cx) (scope : Scope) (cl : List (Str × Addr)) (C : Addr) (N' : List Str) (s2 : Shared) (H2 : Hp) (fp : List Addr) (pins : List (Addr × Obj)) : Cx :=
  { X with env := compEnvC scope cl C X.env, N := N', s₀ := s2, H₀ := H2, outer := X.stack, ex := fp, fn := fun _ => false, pn := X.pn ++ pins, xe := fun _ _ => False }
theorem HOk.adopt {P : Program} {w : World} {H : Hp} {h : Heap} {a : Addr} {o : HO} (x : HOk P w H h) (hn : H a = none) (new : ObjOk P w (upd H a o) h a o) : HOk P w (upd H a o) h := fun b u e => by
  by_cases hb : b = a
  · subst hb; rw [upd_same] at e; cases e; exact new
  · rw [upd_ne hb] at e
    exact (x b u e).stay (fun c v _ q => q) (fun c q => by rw [upd_ne (ne_of_none q hn)]; exact q) fun c xs q => by rw [upd_ne (ne_of_none q hn)]; exact q
theorem Un.adopt {fs ex : List Addr} {H H1 : Hp} {h h1 : Heap} {a : Addr} {o : HO} (u : Un fs ex H H1 h h1) (hn : H1 a = none) (ha : h.get? a = none) : Un fs ex H (upd H1 a o) h h1 where
  keep := u.keep
  slot := u.slot
  free := fun b ob q n hx => by
    have : b ≠ a := fun z => by rw [z, ha] at q; cases q
    rw [upd_ne this]; exact u.free b ob q n hx
  there := u.there
  tups := fun b xs q => by have q' := u.tups b xs q; rw [upd_ne (ne_of_none q' hn)]; exact q'
  frzs := fun b ob xs q => by have q' := u.frzs b ob xs q; rw [upd_ne (ne_of_none q' hn)]; exact q'
  tbls := fun b ps q => by
    obtain ⟨m, q'⟩ := u.tbls b ps q
    exact ⟨m, by rw [upd_ne (ne_of_none q' hn)]; exact q'⟩
structure CompSc (X : Cx) (scope : Scope) (N' : List Str) (ix : List (Option Nat)) : Prop where
  kind : scope.kind = .function
  cell : (scope.names.all fun y => y.2 != .cell) = true
  loc : (scope.names.all fun y => y.2 != .local || scope.names.lookup y.1 == some .local) = true
  free : (scope.names.all fun y => y.2 != .free || (X.env.kindOf y.1 == some .cell || X.env.kindOf y.1 == some .free)) = true
  ixs : ((N'.zip ix).all fun p => match p.2 with | none => true | some i => (X.N[i]? == some p.1) && (scope.names.lookup p.1 == some .free)) = true
  len : N'.length = ix.length
noncomputable def inner (ix : List (Option Nat)) (σ : L2.St) : L2.St := ix.map fun o => o.bind fun i => (σ[i]?).join
noncomputable def CLoop (J : It) (g : TG) (tt : TT) (te : TE) (σ' : L2.St) (H : Hp) (Fin : List V → Hp → Prop) : Prop := ∃ W : Nat → Nat → List V → L2.St → Hp → Prop, (∃ m, W 0 m [] σ' H) ∧ ∀ i m acc σ1 H1, W i m acc σ1 H1 →
  (J.stop i H1 ∧ Fin acc H1) ∨ (J.go i H1 ∧ ∀ x H3, J.yld i H1 x H3 → g x σ1 H3 fun σ2 H4 => tt σ2 H4 fun b H5 =>
    if b = true then te σ2 H5 fun y H6 => acc.length < sizeLine ∧ ∃ m', m' < m ∧ W (i + 1) m' (acc ++ [y]) σ2 H6 else ∃ m', m' < m ∧ W (i + 1) m' acc σ2 H5)
section
variable {X : Cx} {scope : Scope} {N' : List Str} {ix : List (Option Nat)} {pins : List (Addr × Obj)} {σ : L2.St} {H2 : Hp} {s2 : Shared} {cl : List (Str × Addr)} {fp : List Addr}
theorem lookup_mem {β : Type} {x : Str} {v : β} : ∀ {l : List (Str × β)}, l.lookup x = some v → (x, v) ∈ l
  | [], h => by simp at h
  | (n, k) :: r, h => by
    rw [List.lookup_cons] at h
    cases hx : x == n with
    | true => rw [hx] at h; simp at h; have : x = n := by simpa using hx
              subst this; subst h; exact List.mem_cons_self ..
    | false => rw [hx] at h; exact List.mem_cons_of_mem _ (lookup_mem h)
theorem lookup_relabel {env : PySem.Env} {x : Str} : ∀ {names : List (Str × NameKind)} {k : NameKind}, (names.map fun (n, k) => if (k == NameKind.free && env.scope.kind == .function && env.kindOf n == some .cell) then (n, NameKind.cell) else (n, k)).lookup x = some k →
    names.lookup x = some k ∨ (names.lookup x = some .free ∧ k = .cell)
  | [], k, h => by simp at h
  | (n, k') :: r, k, h => by
    have ih := @lookup_relabel env x r k
    rw [List.map_cons] at h
    cases hx : x == n with
    | true =>
      rw [List.lookup_cons, hx]
      simp only at h ⊢
      split at h
      · rename_i hc
        rw [List.lookup_cons, hx] at h
        simp at h
        simp only [Bool.and_eq_true] at hc
        have : k' = .free := by simpa using hc.1.1
        subst this
        exact .inr ⟨rfl, h.symm⟩
      · rw [List.lookup_cons, hx] at h
        exact .inl h
    | false =>
      rw [List.lookup_cons, hx]
      simp only at h ⊢
      split at h
      · rw [List.lookup_cons, hx] at h; exact ih h
      · rw [List.lookup_cons, hx] at h; exact ih h
theorem lookup_relabel_free {env : PySem.Env} {x : Str} : ∀ {names : List (Str × NameKind)}, names.lookup x = some .free →
    (names.map fun (n, k) => if (k == NameKind.free && env.scope.kind == .function && env.kindOf n == some .cell) then (n, NameKind.cell) else (n, k)).lookup x = some .free ∨ (names.map fun (n, k) => if (k == NameKind.free && env.scope.kind == .function && env.kindOf n == some .cell) then (n, NameKind.cell) else (n, k)).lookup x = some .cell
  | [], h => by simp at h
  | (n, k') :: r, h => by
    have ih := @lookup_relabel_free env x r
    rw [List.map_cons]
    cases hx : x == n with
    | true =>
      rw [List.lookup_cons, hx] at h
      simp at h
      subst h
      simp only
      split
      · right; rw [List.lookup_cons, hx]
      · left; rw [List.lookup_cons, hx]
    | false =>
      rw [List.lookup_cons, hx] at h
      have := ih h
      simp only
      split
      · rw [List.lookup_cons, hx]; exact this
      · rw [List.lookup_cons, hx]; exact this
theorem blk_start (S : CompSc X scope N' ix) (hcalm : X.calm = true) (I2 : Inv X pins σ H2 s2) (hcl : ∀ x c, cl.lookup x = some c → X.env.cells.lookup x = some c) (hcl2 : ∀ y ∈ scope.names, y.2 = .free → ∃ c, cl.lookup y.1 = some c)
    (f2 : ∀ b ∈ fp, FpOk X pins H2 b) (hfp : ∀ b ∈ fp, b < s2.heap.objs.size) {C : Addr} {h4 : Heap} {m : Str → Option Value} {t4 : Nat} (hC : s2.heap.objs.size ≤ C) (hns : h4.Ns C m) (keep : ∀ b o, s2.heap.get? b = some o → h4.get? b = some o) :
    Inv (blk X scope cl C N' s2 H2 fp pins) [] (inner ix σ) H2 { s2 with heap := h4, toks := t4 } := by
  have hkindC : (relabel scope X.env).kind = .function := S.kind
  have ok : (blk X scope cl C N' s2 H2 fp pins).Ok :=
    { mod := I2.ok.mod
      kind := hkindC
      glob := I2.ok.glob
      blt := I2.ok.blt
      above := hC
      inj := fun x y c e1 e2 => I2.ok.inj x y c (hcl x c e1) (hcl y c e2)
      has := fun x h => by
        have h' : (relabel scope X.env).names.lookup x = some .cell ∨ (relabel scope X.env).names.lookup x = some .free := h
        have hfree : scope.names.lookup x = some .free := by
          rcases h' with h' | h'
          · rcases lookup_relabel h' with q | ⟨q, _⟩
            · have := List.all_eq_true.mp S.cell _ (lookup_mem q)
              simp at this
            · exact q
          · rcases lookup_relabel h' with q | ⟨q, z⟩
            · exact q
            · cases z
        exact hcl2 _ (lookup_mem hfree) rfl
      cab := fun x c h => by cases h
      hd := fun _ => I2.ok.hd hcalm
      frames := I2.ok.frames
      stk := .inl rfl
      exf := fun b hb => ⟨Nat.ne_of_lt (Nat.lt_of_lt_of_le (hfp b hb) hC), fun x c e => (f2 b hb).2.2.2.2.1 x c (hcl x c e)⟩
      bs := fun b o e => I2.bs b o e
      bsz := Nat.le_trans I2.ok.bsz I2.sz
      noex := fun b o e hb => by
        rcases (f2 b hb).2.2.2.1 with z | z
        · exact I2.ok.noex b o e z
        · exact absurd (Nat.lt_of_lt_of_le (Heap.lt_size (I2.ok.bs b o e).1) z) (Nat.lt_irrefl _)
      exfs := fun b hb z => by
        rcases List.mem_cons.mp (I2.stkSub b z) with q | q
        · exact (f2 b hb).2.1 q
        · exact (f2 b hb).2.2.1 q
      funs := I2.stack
      frf := I2.stkFree }
  obtain ⟨m0, hn0, hl0⟩ := id I2.loc
  refine ⟨ok, rfl, I2.bare, Un.kept keep, ⟨m, hns, fun j x v e1 e2 e3 => ?_⟩, fun x c e => ?_, I2.hok.fresh hC, fun x c e => I2.freeC x c (hcl x c e), fun p hp => ?_, I2.hok.kept keep, ?_⟩
  · -- a name that the block takes along
    have e1' : N'[j]? = some x := e1
    have e2' : (inner ix σ)[j]? = some (some v) := e2
    unfold inner at e2'
    rw [List.getElem?_map] at e2'
    cases hx : ix[j]? with
    | none => rw [hx] at e2'; simp at e2'
    | some o =>
      rw [hx] at e2'
      cases o with
      | none => simp at e2'
      | some i =>
        simp at e2'
        have hz : (x, some i) ∈ N'.zip ix := List.mem_of_getElem? (i := j) (by rw [List.getElem?_zip_eq_some]; exact ⟨e1', hx⟩)
        have hz' := List.all_eq_true.mp S.ixs _ hz
        simp only [Bool.and_eq_true, beq_iff_eq] at hz'
        obtain ⟨hXN, hfr⟩ := hz'
        have hσ : σ[i]? = some (some v) := by
          cases q : σ[i]? with
          | none => rw [q] at e2'; simp at e2'
          | some o => rw [q] at e2'; simp at e2'; rw [e2']
        have hk := List.all_eq_true.mp S.free _ (lookup_mem hfr)
        simp at hk
        have hvis : Vis X.env.scope x := by
          rcases hk with q | q
          · exact .inr (.inl q)
          · exact .inr (.inr q)
        obtain ⟨u, r, look⟩ := hl0 i x v hXN hσ hvis
        rcases look with ⟨q, _⟩ | ⟨_, c, ec, hc⟩
        · rcases hk with z | z
          · rw [z] at q; cases q
          · rw [z] at q; cases q
        · obtain ⟨c', ec'⟩ := hcl2 _ (lookup_mem hfr) rfl
          have : c' = c := by have := hcl x c' ec'; rw [ec] at this; cases this; rfl
          subst this
          refine ⟨u, r, .inr ⟨?_, c', ec', ?_⟩⟩
          · rcases lookup_relabel_free (env := X.env) hfr with q | q
            · exact .inr q
            · exact .inl q
          · obtain ⟨oc, ho, hd⟩ := hc
            exact ⟨oc, keep _ _ ho, hd⟩
  · obtain ⟨v, oc, ho, hd⟩ := I2.cell x c (hcl x c e)
    exact ⟨v, oc, keep _ _ ho, hd⟩
  · have hp' : p ∈ X.pn ++ pins := by simpa [blk] using hp
    obtain ⟨q1, q2, q3, q4, q5⟩ := I2.pin p hp'
    refine ⟨keep _ _ q1, q2, Nat.ne_of_lt (Nat.lt_of_lt_of_le (Heap.lt_size q1) hC), fun z => ?_, q5⟩
    rcases List.mem_cons.mp (I2.stkSub p.1 z) with q | q
    · exact q3 q
    · exact q4 q
  · show (inner ix σ).length = N'.length
    rw [S.len]; simp [inner]
end
end MR
set_option Elab.async false
set_option linter.all false
set_option maxRecDepth 100000
set_option maxHeartbeats 4000000
namespace MR
open PySem PySem.Spec PyProof.Rows L2
section
variable {X : Cx} {scope : Scope} {N' : List Str} {ix : List (Option Nat)} {pins : List (Addr × Obj)} {σ : L2.St} {H2 : Hp} {s2 : Shared} {cl : List (Str × Addr)} {fp : List Addr}
noncomputable def Tests (X' : Cx) (ifs : List Expr) (tt : TT) : Prop := ∀ (pins : List (Addr × Obj)) (s : Shared) (σ : L2.St) (H : Hp) (Q : Bool → Hp → Prop) (E : Value → Shared → Prop), Inv X' pins σ H s → tt σ H Q → (∀ e s, X'.xe e s → E e s) →
  wpAny (model X'.prog X'.w) X'.A (forIn ifs true fun c r => if r = true then do let ok ← isTrue c X'.env (eval c X'.env); pure (ForInStep.yield ok) else pure (ForInStep.yield r)) (TP X' pins σ Q) E s
noncomputable def tYes : TT := fun _ H Q => Q true H
theorem tests_nil {X' : Cx} : Tests X' [] tYes := fun pins s σ H Q E I h _ => wpAny_tests_nil ⟨H, I, h⟩
theorem tests_one {X' : Cx} {c : Expr} {tt : TT} (h : PT X' c tt) : Tests X' [c] tt := fun pins s σ H Q E I q hE => wpAny_tests_one (wpAny_mono (h pins s σ H Q I q) (fun _ _ z => z) hE)
noncomputable def accObj (its : List Value) (n : Nat) : Obj := { cls := .type "list", data := .seq its.toArray n }
theorem comp_loop {elt tg iter : Expr} {ifs : List Expr} {pos : Pos} {it D C : Addr} {J : It} {tn : Nat → Heap → Prop} {g : TG} {tt : TT} {te : TE} {Fin : List V → Hp → Prop} {R : Result → Shared → Prop} {X' : Cx}
    (hX : X'.A = X.A ∧ X'.prog = X.prog ∧ X'.w = X.w ∧ X'.K = X.K ∧ X'.calm = true ∧ ∀ e s, ¬ X'.xe e s) (T : Turn X.prog X.w X.K tg J fp it tn) (hg : PG X' tg g) (ht : Tests X' ifs tt) (he : PE X' elt te)
    (hD1 : s2.heap.objs.size ≤ D) (hDC : D ≠ C) (hC : s2.heap.objs.size ≤ C) (hfp : ∀ b ∈ fp, FpOk X' [] H2 b ∧ b ≠ D) (hDf : ∀ H, H D = none → FpOk X' [] H D)
    {s : Shared} {σ1 : L2.St} {H1 : Hp} {n0 : Nat} (I : Inv X' [(D, accObj [] n0)] σ1 H1 s) (st : tn 0 s.heap) (fr : ∀ b ∈ fp, H1 b = none) (hloop : CLoop J g tt te σ1 H1 Fin)
    (hR : ∀ (s' : Shared) (σ' : L2.St) (H' : Hp) (acc : List V) (its : List Value) (n : Nat), Inv X' [(D, accObj its n)] σ' H' s' → Vals acc its → acc.length ≤ sizeLine → Fin acc H' → R (.ok .next) s') :
    codeAny (model X.prog X.w) X.A (.compLoop (.ListComp elt [⟨tg, iter, ifs, 0⟩] scope pos) 0 (.ref it) (.ref D) X'.env) R s := by
  obtain ⟨W, ⟨m0, w0⟩, turn⟩ := hloop
  obtain ⟨hXA, hXp, hXw, hXK, hXc, hxe⟩ := hX
  have hfpo : ∀ (o : Obj) (H : Hp), (∀ b ∈ fp, H b = none) → ∀ b ∈ fp, FpOk X' [(D, o)] H b := fun o H hn b hb => by
    obtain ⟨⟨_, q1, q2, q3, q4, q5⟩, q6⟩ := hfp b hb
    refine ⟨hn b hb, q1, q2, q3, q4, fun p hp => ?_⟩
    rcases List.mem_append.mp hp with z | z
    · exact q5 p (List.mem_append_left _ z)
    · have : p = (D, o) := by simpa using z
      rw [this]; exact fun z => q6 z.symm
  refine codeAny_loop rfl (fun n s => ∃ i acc its k σ1 H1, Inv X' [(D, accObj its k)] σ1 H1 s ∧ Vals acc its ∧ acc.length ≤ sizeLine ∧ tn i s.heap ∧ (∀ b ∈ fp, H1 b = none) ∧ W i n acc σ1 H1) (fun n s hI => ?_) m0 ⟨0, [], [], n0, σ1, H1, I, .nil, Nat.zero_le _, st, fr, w0⟩
  show wpAny _ X.A ((compTurn (.ListComp elt [⟨tg, iter, ifs, 0⟩] scope pos) 0 (.ref it) (.ref D) X'.env).onRaise (fun x => do noteFrame x X'.env; theTreesLotGoes x)) _ _ s
  refine wpAny_noted ?_
  rw [compTurn_list]
  obtain ⟨i, acc, its, k, σ1, H1, I, hv, hz, st, fr, w1⟩ := hI
  refine wpAny_bind (wpAny_standAt (wpAny_bind ?_))
  rcases turn i n acc σ1 H1 w1 with ⟨stop, fin⟩ | ⟨go, step⟩
  · have h := T.done X' hXp hXw hXK hXc i _ s σ1 H1 (notedBy (model X.prog X.w) X.A X'.env fun e s' => R (.error e) s') I (hfpo _ H1 fr) st stop
    rw [hXA] at h
    refine thn h fun r s4 ⟨hr, I4⟩ => ?_
    subst hr
    exact wpAny_pure (hR s4 σ1 H1 acc its k I4 hv hz fin)
  · have h := T.item X' hXp hXw hXK hXc i _ s σ1 H1 (notedBy (model X.prog X.w) X.A X'.env fun e s' => R (.error e) s') I (hfpo _ H1 fr) st go
    rw [hXA] at h
    refine thn h fun r s4 ⟨u, hr, h4⟩ => ?_
    subst hr
    refine wpAny_bind (thn h4 fun _ s5 ⟨x, H5, I5, r5, y5, st5, fr5⟩ => ?_)
    have I5' := I5.pinned (hfpo _ H5 fr5) (T.obj _ _ st5)
    have hg5 := hg _ s5 σ1 H5 x u _ I5' r5 (step x H5 y5)
    rw [hXp, hXw, hXA] at hg5
    refine wpAny_bind (wpAny_mono hg5 (fun _ s6 ⟨σ6, H6, I6, q6⟩ => ?_) fun e s z => absurd z (hxe e s))
    have ht6 := ht _ s6 σ6 H6 _ (notedBy (model X.prog X.w) X.A X'.env fun e s' => R (.error e) s') I6 q6 (fun e s z => absurd z (hxe e s))
    rw [hXp, hXw, hXA] at ht6
    refine wpAny_bind (thn ht6 fun b s7 ⟨H7, I7, q7⟩ => ?_)
    have back : ∀ {σ8 : L2.St} {H8 : Hp} {s8 : Shared}, Inv X' ([(D, accObj its k)] ++ pinsAt fp s5.heap) σ8 H8 s8 → tn (i + 1) s8.heap ∧ (∀ b ∈ fp, H8 b = none) ∧ s8.heap.get? D = some (accObj its k) ∧ H8 D = none := fun {σ8 H8 s8} I8 => by
      refine ⟨T.keep _ _ _ st5 fun b hb o e => (I8.pin (b, o) (List.mem_append_right _ (List.mem_append_right _ (mem_pinsAt hb e)))).1, fun b hb => ?_, ?_, ?_⟩
      · obtain ⟨o, e, d⟩ := T.obj _ _ st5 b hb
        exact (I8.pin (b, o) (List.mem_append_right _ (List.mem_append_right _ (mem_pinsAt hb e)))).2.1
      · exact (I8.pin (D, accObj its k) (List.mem_append_right _ (List.mem_append_left _ (List.mem_singleton.mpr rfl)))).1
      · exact (I8.pin (D, accObj its k) (List.mem_append_right _ (List.mem_append_left _ (List.mem_singleton.mpr rfl)))).2.1
    cases b with
    | false =>
      obtain ⟨m', hm, w8⟩ := (q7 : if false = true then _ else _)
      obtain ⟨st8, fr8, _, _⟩ := back I7
      refine wpAny_pure ⟨rfl, m', hm, i + 1, acc, its, k, σ6, H7, ?_, hv, hz, st8, fr8, w8⟩
      exact I7.pins_of fun p hp => I7.pin p (List.mem_append_right _ (List.mem_append_left _ hp))
    | true =>
      have q7' : te σ6 H7 fun y H6 => acc.length < sizeLine ∧ ∃ m', m' < n ∧ W (i + 1) m' (acc ++ [y]) σ6 H6 := q7
      have he7 := he _ s7 σ6 H7 _ I7 q7'
      rw [hXp, hXw, hXA] at he7
      refine wpAny_bind (wpAny_bind (wpAny_mono he7 (fun y s8 ⟨v, H8, I8, r8, hlt, m', hm, w8⟩ => ?_) fun e s z => absurd z (hxe e s)))
      obtain ⟨st8, fr8, hDo, hDn⟩ := back I8
      have hlen := hv.length
      have hisl : s8.heap.IsList D its.toArray := ⟨_, hDo, rfl, k, rfl⟩
      refine wpAny_bind ?_
      obtain ⟨k', hd'⟩ : ∃ k', Obj.mapSeq (·.push y) (accObj its k) = accObj (its ++ [y]) k' := ⟨_, by simp [accObj, Obj.mapSeq]; rfl⟩
      refine wpAny_call_entry slot_list_append hisl.typeIs entry_list_append ?_ (args_list_append _ _)
      show wpAny _ _ (updateSeq D (·.push y) >>= fun _ => ret .none) _ _ s8
      refine wpAny_bind (wpAny_updateSeq hDo rfl (wpAny_pure ⟨.none, rfl, ?_⟩))
      have hk9 : ∀ b o, b ≠ D → s8.heap.get? b = some o → (s8.heap.update D (Obj.mapSeq (·.push y))).get? b = some o := fun b o hb e => (Heap.SameBut.update (h := s8.heap) (a := D) ..).2 b hb |>.trans e
      have hD9 : (s8.heap.update D (Obj.mapSeq (·.push y))).get? D = some (accObj (its ++ [y]) k') := by
        rw [← hd']; exact Heap.get?_update_self _ hDo (by rw [hd']; exact Obj.isFreed_of_seq (xs := (its ++ [y]).toArray) (n := k') rfl)
      have I8' : Inv X' [] σ6 H8 s8 := I8.pins_of fun p hp => by cases hp
      obtain ⟨d0, d1, d2, d3, d4, d5⟩ := hDf H8 hDn
      have I9 : Inv X' [] σ6 H8 { s8 with heap := s8.heap.update D (Obj.mapSeq (·.push y)) } := I8'.turned (t' := s8.toks) hk9 hDn d1 d3 d4 d5
      have I10 := I9.pins_of (pins' := [(D, accObj (its ++ [y]) k')]) fun p hp => by
        have : p = (D, accObj (its ++ [y]) k') := by simpa using hp
        subst this
        exact ⟨hD9, hDn, d1, d2, fun v z => by simp [accObj] at z⟩
      refine wpAny_pure (wpAny_pure ⟨rfl, m', hm, i + 1, acc ++ [v], its ++ [y], k', σ6, H8, I10, Vals.append hv (.cons r8 .nil), by rw [List.length_append]; simp; omega, ?_, fr8, w8⟩)
      refine T.keep _ _ _ st8 fun b hb o e => hk9 b o (hfp b hb).2 e
end
end MR
set_option Elab.async false
set_option linter.all false
set_option maxRecDepth 100000
set_option maxHeartbeats 4000000
namespace MR
open PySem PySem.Spec PyProof.Rows L2
section
variable {X : Cx} {scope : Scope} {N' : List Str} {ix : List (Option Nat)}
noncomputable def tComp (ix : List (Option Nat)) (wi : TI) (g : TG) (tt : TT) (te : TE) : TE := fun σ H Q => wi σ H fun J H1 => CLoop J g tt te (inner ix σ) H1 fun acc H2 => ∀ p, H2 p = none → Q (.ref p) (upd H2 p (.lst acc))
theorem comp_core {elt tg iter : Expr} {ifs : List Expr} {pos : Pos} {g : TG} {tt : TT} {te : TE} {pins : List (Addr × Obj)} {σ : L2.St} {H2 : Hp} {s2 : Shared} {cl : List (Str × Addr)} {fp : List Addr} {it : Addr} {J : It} {tn : Nat → Heap → Prop} {E : Value → Shared → Prop} {Fin : List V → Hp → Prop} {RR : Value → Addr → Result → Shared → Prop}
    (S : CompSc X scope N' ix) (hcalm : X.calm = true) (hcl : ∀ x c, cl.lookup x = some c → X.env.cells.lookup x = some c) (hcl2 : ∀ y ∈ scope.names, y.2 = .free → ∃ c, cl.lookup y.1 = some c)
    (hg : ∀ C, PG (blk X scope cl C N' s2 H2 fp pins) tg g) (ht : ∀ C, Tests (blk X scope cl C N' s2 H2 fp pins) ifs tt) (he : ∀ C, PE (blk X scope cl C N' s2 H2 fp pins) elt te)
    (I2 : Inv X pins σ H2 s2) (T : Turn X.prog X.w X.K tg J fp it tn) (st2 : tn 0 s2.heap) (f2 : ∀ b ∈ fp, FpOk X pins H2 b) (hloop : CLoop J g tt te (inner ix σ) H2 Fin)
    (hRR : ∀ (D C : Addr) (s' : Shared) (H' : Hp) (acc : List V), Inv X pins σ (upd H' D (.lst acc)) s' → H' D = none → (∃ m, s'.heap.Ns C m) → (upd H' D (.lst acc)) C = none → FpOk X pins (upd H' D (.lst acc)) C → Fin acc H' → RR (.ref D) C (.ok .next) s') :
    wpAny (model X.prog X.w) X.A (newList []) (fun acc s₃ => wpAny (model X.prog X.w) X.A (newFunctionEnv scope X.env.globals cl [] X.env.qual none .none (some X.env)) (fun cenv s₄ =>
      codeAny (model X.prog X.w) X.A (.compStart (.ListComp elt [⟨tg, iter, ifs, 0⟩] scope pos) 0 (.ref it) acc { cenv with scope := relabel scope X.env }) (RR acc cenv.locals) s₄) E s₃) E s2 := by
  have hcell : ∀ y ∈ scope.names, y.2 ≠ .cell := fun y hy z => by
    have := List.all_eq_true.mp S.cell y hy
    rw [z] at this; simp at this
  refine wpAny_newObj_type (wpAny_newFunctionEnv hcell (by intro y hy; simp at hy) (fun h₁ hns₁ hsb₁ => ?_) S.kind)
  dsimp only at hns₁ hsb₁ ⊢
  generalize hH2 : s2.heap.push { cls := .type "list", dict := none, data := .seq ([] : List Value).toArray } = HP at hns₁ hsb₁ ⊢
  have hCs : HP.objs.size = s2.heap.objs.size + 1 := by rw [← hH2, Heap.size_push]
  have hDC : s2.heap.objs.size ≠ HP.objs.size := by rw [hCs]; exact Nat.ne_of_lt (Nat.lt_succ_self _)
  have hCle : s2.heap.objs.size ≤ HP.objs.size := by rw [hCs]; exact Nat.le_succ _
  have old : ∀ b o, s2.heap.get? b = some o → h₁.get? b = some o := fun b o e => hsb₁.extBut b o (Nat.ne_of_lt (Nat.lt_of_lt_of_le (Heap.lt_size e) hCle)) (Heap.get?_push_of_some _ (hH2 ▸ Heap.get?_push_of_some _ e))
  have hacc : h₁.get? s2.heap.objs.size = some (accObj [] 0) := hsb₁.extBut _ _ hDC (Heap.get?_push_of_some _ (hH2 ▸ Heap.get?_push_size _ rfl))
  have hfp : ∀ b ∈ fp, b < s2.heap.objs.size := fun b hb => by
    obtain ⟨o, e, _⟩ := T.obj _ _ st2 b hb
    exact Heap.lt_size e
  generalize hDg : s2.heap.objs.size = D at hDC hacc
  generalize hCg : HP.objs.size = C at *
  have hDle : s2.heap.objs.size ≤ D := Nat.le_of_eq hDg
  have hD2 : s2.heap.get? D = none := by
    cases q : s2.heap.get? D with
    | none => rfl
    | some o => exact absurd (Nat.lt_of_lt_of_le (Heap.lt_size q) hDle) (Nat.lt_irrefl _)
  have I4 := blk_start (t4 := s2.toks + ([] : List (Str × Value)).length) S hcalm I2 hcl hcl2 f2 hfp hCle hns₁ old
  have above : ∀ a, s2.heap.objs.size ≤ a → a ∉ frs X.stack ∧ (∀ x c, X.env.cells.lookup x = some c → c ≠ a) ∧ (∀ p ∈ X.pn ++ pins, p.1 ≠ a) ∧ a ≠ X.env.locals := fun a ha => by
    refine ⟨fun z => ?_, fun x c e z => ?_, fun p hp z => ?_, ?_⟩
    · rcases List.mem_cons.mp (I2.stkSub a z) with q | q
      · exact absurd (Nat.lt_of_lt_of_le I2.lt (q ▸ ha)) (Nat.lt_irrefl _)
      · exact I2.nofs ha q
    · obtain ⟨v, q⟩ := I2.cell x c e
      exact absurd (Nat.lt_of_lt_of_le q.lt (z ▸ ha)) (Nat.lt_irrefl _)
    · exact absurd (Nat.lt_of_lt_of_le (Heap.lt_size (I2.pin p hp).1) (z ▸ ha)) (Nat.lt_irrefl _)
    · intro z; exact absurd (Nat.lt_of_lt_of_le I2.lt (z ▸ ha)) (Nat.lt_irrefl _)
  have hfpX : ∀ b ∈ fp, FpOk (blk X scope cl C N' s2 H2 fp pins) [] H2 b ∧ b ≠ D := fun b hb => by
    obtain ⟨q0, q1, q2, q3, q4, q5⟩ := f2 b hb
    have hlt := hfp b hb
    refine ⟨⟨q0, Nat.ne_of_lt (Nat.lt_of_lt_of_le hlt hCle), fun z => ?_, .inl hb, fun x c e => q4 x c (hcl x c e), fun p hp => q5 p (by simpa [blk] using hp)⟩, Nat.ne_of_lt (Nat.lt_of_lt_of_le hlt hDle)⟩
    rcases List.mem_cons.mp (I2.stkSub b z) with q | q
    · exact q1 q
    · exact q2 q
  have hDf : ∀ H : Hp, H D = none → FpOk (blk X scope cl C N' s2 H2 fp pins) [] H D := fun H hn => by
    obtain ⟨a1, a2, a3, a4⟩ := above D hDle
    exact ⟨hn, hDC, a1, .inr hDle, fun x c e => a2 x c (hcl x c e), fun p hp => a3 p (by simpa [blk] using hp)⟩
  have hDn2 : H2 D = none := I2.hok.fresh hDle
  have I5 : Inv (blk X scope cl C N' s2 H2 fp pins) [(D, accObj [] 0)] (inner ix σ) H2 { s2 with heap := h₁, toks := s2.toks + ([] : List (Str × Value)).length } := I4.pins_of fun p hp => by
    have : p = (D, accObj [] 0) := by simpa using hp
    subst this
    obtain ⟨_, d1, d2, _⟩ := hDf H2 hDn2
    exact ⟨hacc, hDn2, d1, d2, fun v z => by simp [accObj] at z⟩
  have st5 : tn 0 h₁ := T.keep _ _ _ st2 fun b _ o e => old b o e
  have loop : codeAny (model X.prog X.w) X.A (.compLoop (.ListComp elt [⟨tg, iter, ifs, 0⟩] scope pos) 0 (.ref it) (.ref D) (blk X scope cl C N' s2 H2 fp pins).env) (RR (.ref D) C) { s2 with heap := h₁, toks := s2.toks + ([] : List (Str × Value)).length } := by
    refine comp_loop (X' := blk X scope cl C N' s2 H2 fp pins) ⟨rfl, rfl, rfl, rfl, hcalm, fun _ _ z => z⟩ T (hg C) (ht C) (he C) hDle hDC hCle hfpX hDf I5 st5 (fun b hb => (f2 b hb).1) hloop ?_
    intro s' σ' H' acc its n I hv hz fin
    obtain ⟨hDo, hDn, _⟩ := I.pin (D, accObj its n) (List.mem_append_right _ (List.mem_singleton.mpr rfl))
    have hbase : Un (frs X.stack) fp H2 H' s2.heap s'.heap := I.base
    have hok : HOk X.prog X.w (upd H' D (.lst acc)) s'.heap := HOk.adopt I.hok hDn ⟨hz, its, n, hv, hDo⟩
    have IX : Inv X pins σ (upd H' D (.lst acc)) s' := I2.call' I.os (Un.adopt hbase hDn hD2) hok I.bare fun b hb => ⟨(f2 b hb).2.2.2.1, (f2 b hb).2.1, (f2 b hb).2.2.2.2.1, (f2 b hb).2.2.2.2.2⟩
    obtain ⟨m, hm, _⟩ := I.loc
    have hCn : (upd H' D (.lst acc)) C = none := by rw [upd_ne (Ne.symm hDC)]; exact I.free
    obtain ⟨a1, a2, a3, a4⟩ := above C hCle
    refine hRR D C s' H' acc IX hDn ⟨m, hm⟩ hCn ⟨hCn, a4, fun z => ?_, .inr (Nat.le_trans I2.sz hCle), a2, a3⟩ fin
    exact I2.nofs hCle z
  have e1 : ({ newEnv scope C X.env.globals cl X.env.qual none .none (some X.env) builtinsNs with scope := relabel scope X.env } : PySem.Env) = (blk X scope cl C N' s2 H2 fp pins).env := rfl
  exact codeAny_compStart_list loop (T.self _ 0 _ _ _ st5 loop)
theorem CompSc.names {scope : Scope} (S : CompSc X scope N' ix) : ∀ x ∈ scope.names, x.2 = .local → scope.names.lookup x.1 = some .local := fun x hx hl => by
  have := List.all_eq_true.mp S.loc x hx
  rw [hl] at this
  simpa using this
theorem CompSc.clos {scope : Scope} (S : CompSc X scope N' ix) (ok : X.Ok) : ∃ cl, closureFor scope X.env = pure cl ∧ (∀ x c, cl.lookup x = some c → X.env.cells.lookup x = some c) ∧ ∀ y ∈ scope.names, y.2 = .free → ∃ c, cl.lookup y.1 = some c := by
  refine closureFor_ex fun y hy hf => ?_
  have := List.all_eq_true.mp S.free y hy
  rw [hf] at this
  simp at this
  exact ok.has y.1 this
theorem pe_comp {elt tg iter : Expr} {ifs : List Expr} {pos : Pos} {wi : TI} {g : TG} {tt : TT} {te : TE} (S : CompSc X scope N' ix) (hcalm : X.calm = true) (hi : PI X tg iter wi)
    (hg : ∀ cl C s2 H2 fp pins, PG (blk X scope cl C N' s2 H2 fp pins) tg g) (ht : ∀ cl C s2 H2 fp pins, Tests (blk X scope cl C N' s2 H2 fp pins) ifs tt) (he : ∀ cl C s2 H2 fp pins, PE (blk X scope cl C N' s2 H2 fp pins) elt te)
    (hs : ∀ x, foldedSetIterable iter X.env x = pure x := by intro _; rfl) : PE X (.ListComp elt [⟨tg, iter, ifs, 0⟩] scope pos) (tComp ix wi g tt te) := by
  intro pins s σ H Q I h
  obtain ⟨cl, hclos, hcl, hcl2⟩ := S.clos I.ok
  rw [eval_ListComp]
  refine wpAny_comprehension_free (use := none) rfl hs hclos S.kind S.names (thn (hi pins s σ H _ I h) fun v s1 h1 => thn h1 fun itv s2 h2 => ?_)
  obtain ⟨it, fp, tn, J, H2, e, I2, T, st2, f2, loop⟩ := h2
  subst e
  refine comp_core (RR := fun acc C => compPost (model X.prog X.w) X.A X.xe none (EP X pins σ Q) acc C) S hcalm hcl hcl2 (fun C => hg cl C s2 H2 fp pins) (fun C => ht cl C s2 H2 fp pins) (fun C => he cl C s2 H2 fp pins) I2 T st2 f2 loop ?_
  intro D C s' H' acc IX hDn ⟨m, hm⟩ hCn hC fin
  refine ⟨m, hm, fun h' hsb => ?_⟩
  obtain ⟨c0, c1, c2, c3, c4, c5⟩ := hC
  exact ⟨.ref D, _, IX.turned (t' := s'.toks) (fun b o hb e => hsb.2 b hb |>.trans e) c0 c1 c3 c4 c5, rfl, fin D hDn⟩
end
end MR
set_option Elab.async false
set_option linter.all false
set_option maxRecDepth 100000
set_option maxHeartbeats 4000000
namespace MR
open PySem PySem.Spec PyProof.Rows L2
noncomputable def testU (tt : Option FT) : FT := fun δ L => match tt with
  | none => some (true, L)
  | some f => f δ L
noncomputable def compU (it : IU) (g : FG) (tt : Option FT) (fe : FE) : Nat → Nat → List U → UE → UH → Option (List U × UH)
  | 0, _, _, _, _ => none
  | m + 1, k, acc, δ, L => match it.at k L with
    | none => none
    | some none => some (acc, L)
    | some (some u) => (g u δ L).bind fun p => (testU tt p.1 p.2).bind fun q => if q.1 = true then (fe p.1 q.2).bind fun r => if decide (acc.length < sizeLine) = true then compU it g tt fe m (k + 1) (acc ++ [r.1]) p.1 r.2 else none
      else compU it g tt fe m (k + 1) acc p.1 q.2
noncomputable def innerU (ix : List (Option Nat)) (δ : UE) : UE := ix.map fun o => o.bind fun i => (δ[i]?).join
noncomputable def fComp (ix : List (Option Nat)) (fi : FI) (g : FG) (tt : Option FT) (fe : FE) : FE := fun δ L => (fi δ L).bind fun p => (compU p.1 g tt fe (p.1.size p.2 + 1) 0 [] (innerU ix δ) p.2).map fun q => (.ref q.2.length, q.2 ++ [.lst q.1])
theorem RepS.inner {K : PySem.W.Frag} {H : Hp} {α : List Addr} {δ : UE} {σ : L2.St} (S : RepS K H α δ σ) (ix : List (Option Nat)) : RepS K H α (innerU ix δ) (MR.inner ix σ) := by
  refine ⟨by simp [innerU, MR.inner], fun j u e => ?_⟩
  unfold innerU at e
  unfold MR.inner
  rw [List.getElem?_map] at e ⊢
  cases hx : ix[j]? with
  | none => rw [hx] at e; simp at e
  | some o =>
    rw [hx] at e
    cases o with
    | none => simp at e
    | some i =>
      simp at e
      have : δ[i]? = some (some u) := by
        cases q : δ[i]? with
        | none => rw [q] at e; simp at e
        | some o => rw [q] at e; simp at e; rw [e]
      obtain ⟨v, hv, r⟩ := S.at_ i u this
      exact ⟨v, by simp [hv], r⟩
noncomputable def lTo (K : PySem.W.Frag) (tt : Option FT) : TT := match tt with
  | none => tYes
  | some f => lT K f
theorem lE_comp {K : PySem.W.Frag} {ix : List (Option Nat)} {fi : FI} {g : FG} {tt : Option FT} {fe : FE} : ∀ σ H Q, lE K (fComp ix fi g tt fe) σ H Q → tComp ix (lI K fi) (lG K g) (lTo K tt) (lE K fe) σ H Q := by
  rintro σ H Q ⟨α, δ, L, A, S, z, L3, e, q⟩
  obtain ⟨⟨it, L1⟩, e1, e⟩ := Option.bind_eq_some_iff.mp e
  obtain ⟨⟨ys, L2⟩, e2, e⟩ := Option.map_eq_some_iff.mp e
  cases e
  refine ⟨α, δ, L, A, S, it, L1, e1, fun J H1 α1 g1 A1 hJ => ?_⟩
  refine ⟨fun k m acc σ2 H2 => ∃ α2 δ2 M us, Gr H1 α1 H2 α2 ∧ Abs K H2 α2 M ∧ RepS K H2 α2 δ2 σ2 ∧ RepL K H2 α2 us acc ∧ compU it g tt fe m k us δ2 M = some (ys, L2), ⟨_, α1, _, L1, [], .refl _ _, A1, (S.mono g1).inner ix, .nil, e2⟩, ?_⟩
  rintro k m acc σ2 H2 ⟨α2, δ2, M, us, g2, A2, S2, r2, e3⟩
  cases m with
  | zero => cases e3
  | succ m =>
    obtain ⟨hgo, hstop⟩ := hJ H2 α2 M g2 A2 k
    unfold compU at e3
    cases hat : it.at k M with
    | none => rw [hat] at e3; cases e3
    | some o =>
      cases o with
      | none =>
        rw [hat] at e3
        cases e3
        refine .inl ⟨hstop hat, fun p hp => ?_⟩
        obtain ⟨g3, A3, r3⟩ := A2.lst r2 hp
        exact q _ _ _ (g1.trans (g2.trans g3)) A3 r3
      | some u =>
        rw [hat] at e3
        obtain ⟨go, yld⟩ := hgo u hat
        obtain ⟨⟨δ3, L3⟩, e4, e3⟩ := Option.bind_eq_some_iff.mp e3
        obtain ⟨⟨b, L4⟩, e5, e3⟩ := Option.bind_eq_some_iff.mp e3
        refine .inr ⟨go, fun x H3 y3 => ?_⟩
        obtain ⟨g3, A3, r3⟩ := yld x H3 y3
        refine ⟨α2, δ2, M, u, A3, S2.mono g3, r3, δ3, L3, e4, fun σ4 H4 α4 g4 A4 S4 => ?_⟩
        have after : ∀ H5 α5, Gr H4 α4 H5 α5 → Abs K H5 α5 L4 → (if b = true then lE K fe σ4 H5 (fun y H6 => acc.length < sizeLine ∧ ∃ m', m' < m + 1 ∧ ∃ α2 δ2 M us, Gr H1 α1 H6 α2 ∧ Abs K H6 α2 M ∧ RepS K H6 α2 δ2 σ4 ∧ RepL K H6 α2 us (acc ++ [y]) ∧ compU it g tt fe m' (k + 1) us δ2 M = some (ys, L2)) else ∃ m', m' < m + 1 ∧ ∃ α2 δ2 M us, Gr H1 α1 H5 α2 ∧ Abs K H5 α2 M ∧ RepS K H5 α2 δ2 σ4 ∧ RepL K H5 α2 us acc ∧ compU it g tt fe m' (k + 1) us δ2 M = some (ys, L2)) := fun H5 α5 g5 A5 => by
          have gA := g2.trans (g3.trans (g4.trans g5))
          have gB := g3.trans (g4.trans g5)
          cases b with
          | false => exact iteF ⟨m, Nat.lt_succ_self _, α5, δ3, L4, us, gA, A5, S4.mono g5, r2.mono gB, e3⟩
          | true =>
            obtain ⟨⟨w, L5⟩, e6, e3⟩ := Option.bind_eq_some_iff.mp e3
            simp only at e3
            split at e3
            · rename_i hlt
              refine iteT ⟨α5, δ3, L4, A5, S4.mono g5, w, L5, e6, fun y H6 α6 g6 A6 r6 => ?_⟩
              exact ⟨by rw [← r2.length]; exact of_decide_eq_true hlt, m, Nat.lt_succ_self _, α6, δ3, L5, us ++ [w], gA.trans g6, A6, (S4.mono g5).mono g6, (r2.mono (gB.trans g6)).append (.cons r6 .nil), e3⟩
            · cases e3
        cases tt with
        | none =>
          cases e5
          exact after H4 α4 (.refl _ _) A4
        | some f => exact ⟨α4, δ3, L3, A4, S4, b, L4, e5, fun H5 α5 g5 A5 => after H5 α5 g5 A5⟩
section
variable {X : Cx} {scope : Scope} {N' : List Str} {ix : List (Option Nat)} {elt tg iter c : Expr} {pos : Pos} {fi : FI} {g : FG} {ft : FT} {fe : FE}
theorem pf_comp (S : CompSc X scope N' ix) (hcalm : X.calm = true) (hi : PIF X tg iter fi) (hg : ∀ cl C s2 H2 fp pins, PGF (blk X scope cl C N' s2 H2 fp pins) tg g) (he : ∀ cl C s2 H2 fp pins, PEF (blk X scope cl C N' s2 H2 fp pins) elt fe)
    (hs : ∀ x, foldedSetIterable iter X.env x = pure x := by intro _; rfl) : PEF X (.ListComp elt [⟨tg, iter, [], 0⟩] scope pos) (fComp ix fi g none fe) :=
  PE.imp (pe_comp (g := lG X.K g) (te := lE X.K fe) (tt := tYes) S hcalm hi hg (fun _ _ _ _ _ _ => tests_nil) he hs) lE_comp
theorem pf_compT (S : CompSc X scope N' ix) (hcalm : X.calm = true) (hi : PIF X tg iter fi) (hg : ∀ cl C s2 H2 fp pins, PGF (blk X scope cl C N' s2 H2 fp pins) tg g) (ht : ∀ cl C s2 H2 fp pins, PTF (blk X scope cl C N' s2 H2 fp pins) c ft) (he : ∀ cl C s2 H2 fp pins, PEF (blk X scope cl C N' s2 H2 fp pins) elt fe)
    (hs : ∀ x, foldedSetIterable iter X.env x = pure x := by intro _; rfl) : PEF X (.ListComp elt [⟨tg, iter, [c], 0⟩] scope pos) (fComp ix fi g (some ft) fe) :=
  PE.imp (pe_comp (g := lG X.K g) (te := lE X.K fe) (tt := lT X.K ft) S hcalm hi hg (fun _ _ _ _ _ _ => tests_one (ht _ _ _ _ _ _)) he hs) (lE_comp (tt := some ft))
end
end MR
set_option Elab.async false
set_option linter.all false
set_option maxRecDepth 100000
set_option maxHeartbeats 4000000
namespace MR
open PySem PySem.Spec PyProof.Rows L2
section
variable {X : Cx} {pins : List (Addr × Obj)} {σ : L2.St} {H : Hp} {s : Shared} {h' : Heap}
theorem Inv.turnNew {ch : List Addr} {p : Addr} {o : HO} {t' : Nat} (I : L2.Inv X pins σ H s) (hch : ∀ b ∈ ch, FpOk X pins H b) (k : ∀ b o, b ∉ ch → s.heap.get? b = some o → h'.get? b = some o) (hp : s.heap.objs.size ≤ p) (new : ObjOk X.prog X.w (upd H p o) h' p o) :
    L2.Inv X pins σ (upd H p o) { s with heap := h', toks := t' } := by
  have hn : H p = none := I.hok.fresh hp
  have nch : ∀ b u, H b = some u → b ∉ ch := fun b u e hb => by rw [(hch b hb).1] at e; cases e
  have st := Stay.new hn o
  refine I.step (g' := s.gens) (d' := s.drawn) (ch := ch) (fun b hb => ?_) (fun b o _ _ hc e _ => k b o hc e) (fun b o _ _ hc e _ => ⟨o.slots, k b o hc e⟩) (fun b u hc e n => ?_) (fun b u hc e => ⟨u, k b u hc e⟩) st.1 st.2 (fun b ps e => ⟨#[], ?_⟩) (fun m hm => ?_) (fun b u e => ?_) I.bare
  · obtain ⟨_, f1, _, f3, f4, f5⟩ := hch b hb
    exact ⟨f3, f1, f4, f5⟩
  · rw [upd_ne (Nat.ne_of_lt (Nat.lt_of_lt_of_le (Heap.lt_size e) hp))]; exact n
  · rw [upd_ne (ne_of_none e hn), e]; simp
  · obtain ⟨o1, es, ep, ho, r⟩ := hm
    exact ⟨o1, es, ep, k _ o1 (fun z => (hch _ z).2.1 rfl) ho, r⟩
  · by_cases hb : b = p
    · subst hb; rw [upd_same] at e; cases e; exact new
    · rw [upd_ne hb] at e
      refine (I.hok b u e).stay (fun c v hc q => k c v ?_ q) (fun c q => by rw [upd_ne (ne_of_none q hn)]; exact q) fun c xs q => by rw [upd_ne (ne_of_none q hn)]; exact q
      rcases hc with z | z
      · rw [z]; exact nch b u e
      · exact nch c _ z
end
noncomputable def Ite (K : PySem.W.Frag) (a : Addr) : It :=
  ⟨fun i H => ∃ xs x, SqL K H a xs ∧ xs[i]? = some x, fun i H x H' => ∃ p v, H p = none ∧ x = .ref p ∧ H' = upd H p (.tup [.int i, v]) ∧ ∀ xs, SqL K H a xs → xs[i]? = some v, fun i H => ∃ xs, SqL K H a xs ∧ xs.length ≤ i⟩
theorem turn_enum {P : Program} {w : World} {K : PySem.W.Frag} {elts : List Expr} {x1} {pos : Pos} (a e it : Addr) (hne : e ≠ it) : Turn P w K (.Tuple elts x1 pos) (Ite K a) [e, it] e (fun i h => (∃ old, IsEnum h e it i old) ∧ h.IsListIter it a i) where
  mem := by simp
  obj := fun i h st b hb => by
    obtain ⟨⟨old, he⟩, o, ho, hc, hd⟩ := st
    rcases List.mem_cons.mp hb with rfl | hb
    · exact ⟨_, he, fun v z => by simp at z⟩
    · have : b = it := by simpa using hb
      subst this
      exact ⟨o, ho, fun v z => by rw [hd] at z; cases z⟩
  keep := fun i h h' st k => by
    obtain ⟨⟨old, he⟩, o, ho, hc, hd⟩ := st
    exact ⟨⟨old, k e (by simp) _ he⟩, o, k it (by simp) _ ho, hc, hd⟩
  item := by
    intro X hP hw hK hc i pins s σ H E I hf st hg
    subst hP hw hK
    obtain ⟨⟨old, he⟩, hit⟩ := st
    obtain ⟨xs, v, sq, hx⟩ := hg
    obtain ⟨its, hv, pl, hz⟩ := I.list sq
    obtain ⟨u, hu, r⟩ := hv.get hx
    refine wpAny_pyNext_enum_item he hit pl.isList (by simpa using hu) hne fun h' o1 o2 o3 o4 o5 => ?_
    refine ⟨_, rfl, ?_⟩
    have hfr : H s.heap.objs.size = none := I.hok.fresh (Nat.le_refl _)
    have I1 : L2.Inv X pins σ (upd H s.heap.objs.size (.tup [.int i, v])) { s with heap := h', toks := s.toks + 1 } :=
      Inv.turnNew (ch := [e, it]) I hf (fun b o hb q => o5 b o (fun z => hb (by simp [z])) (fun z => hb (by simp [z])) q) (Nat.le_refl _)
        (show ObjOk X.prog X.w _ h' _ (.tup [.int i, v]) from ⟨by show 2 ≤ sizeLine; decide, [.int i s.toks, u], .cons ⟨_, rfl⟩ (.cons r .nil), ⟨_, o3, rfl, _, rfl⟩⟩)
    refine wpAny_letOwnedTupleGo_enum o1 fun h2 e2 sb2 => ?_
    have hne2 : ∀ b ∈ [e, it], b ≠ s.heap.objs.size := fun b hb z => by
      rcases List.mem_cons.mp hb with q | q
      · have := Heap.lt_size he; rw [← q, z] at this; exact Nat.lt_irrefl _ this
      · have q : b = it := by simpa using q
        obtain ⟨o, ho, _⟩ := hit
        have := Heap.lt_size ho; rw [← q, z] at this; exact Nat.lt_irrefl _ this
    have hnone : ∀ b ∈ [e, it], (upd H s.heap.objs.size (.tup [.int i, v])) b = none := fun b hb => by rw [upd_ne (hne2 b hb)]; exact (hf b hb).1
    obtain ⟨f0, f1, f2, f3, f4, f5⟩ := hf e (by simp)
    have I2 := I1.turned (t' := s.toks + 1) (h' := h2) (it := e) (fun b o hb q => sb2.2 b hb |>.trans q) (hnone e (by simp)) f1 f3 f4 f5
    obtain ⟨oi, hoi, hci, hdi⟩ := o2
    refine ⟨.ref s.heap.objs.size, _, I2, rfl, ⟨_, v, hfr, rfl, rfl, fun ys sq' => ?_⟩, ⟨⟨_, e2⟩, oi, (sb2.2 it (Ne.symm hne)).trans hoi, hci, hdi⟩, hnone⟩
    rw [I.list_inj sq' sq]; exact hx
  done := by
    intro X hP hw hK hc i pins s σ H E I hf st hg
    subst hP hw hK
    obtain ⟨⟨old, he⟩, hit⟩ := st
    obtain ⟨xs, sq, hx⟩ := hg
    obtain ⟨its, hv, pl, hz⟩ := I.list sq
    obtain ⟨f0, f1, f2, f3, f4, f5⟩ := hf it (by simp)
    have hlen := hv.length
    refine wpAny_pyNext_enum_end (I.ok.hd hc) he hit pl.isList (by simp; omega) fun h' eb => ⟨rfl, I.turned (t' := s.toks) (fun b o hb q => eb b o hb q) f0 f1 f3 f4 f5⟩
  self := fun _ _ _ _ _ st h => by obtain ⟨⟨old, he⟩, _⟩ := st; exact wpAny_pyIter_enum he h
section
variable {X : Cx} {elts : List Expr} {x1 : Nat} {tpos : Pos}
theorem boot_enum : bootBuiltins "enumerate" = some (.type "enumerate") := by decide +kernel
noncomputable def iEnum (K : PySem.W.Frag) (ta : TA) : TI := fun σ H R => ta σ H fun vs H1 => ∃ a xs, vs = [.ref a] ∧ SqL K H1 a xs ∧ R (Ite K a) H1
theorem pi_enum {a : Expr} {ta : TA} {p pos : Pos} (hg : Gl X "enumerate") (hm : X.mg "enumerate" = none) (ha : PA X [a] ta) (hs : starEach [a] X.env = [(false, eval a X.env)] := by rfl) : PI X (.Tuple elts x1 tpos) (.Call (.Name "enumerate" p) [a] [] pos) (iEnum X.K ta) := by
  intro pins s σ H R I h
  refine Call_ (ld_blt I hg hm boot_enum (PyProof.Rows.callWith_type1 (thn (ha pos pins s σ H _ I h) fun us s1 ⟨vs, H1, I1, r1, q1⟩ => ?_) hs rfl))
  obtain ⟨l, xs, rfl, sq, q⟩ := q1
  obtain ⟨u, rfl, ru⟩ := vals1 r1
  cases ru
  obtain ⟨its, hv, pl, hz⟩ := I1.list sq
  refine call_enumerate_list pl.isList fun h' o1 o2 o3 o4 => ?_
  have I2 : L2.Inv X pins σ H1 { s1 with heap := h' } := I1.kept (t' := s1.toks) o4
  refine wpAny_pyIter_enum o1 ⟨_, _, _, _, H1, rfl, I2, turn_enum l (s1.heap.objs.size + 1) s1.heap.objs.size (Nat.ne_of_gt (Nat.lt_succ_self _)), ⟨⟨_, o1⟩, o2⟩, fun b hb => ?_, q⟩
  have hb' : s1.heap.objs.size ≤ b := by
    simp only [List.mem_cons, List.not_mem_nil, or_false] at hb
    rcases hb with rfl | rfl
    · exact Nat.le_succ _
    · exact Nat.le_refl _
  exact L2.Inv.fpOk I1 hb' (I1.hok.fresh hb')
noncomputable def fEnum (g : FA) : FI := fun δ L => (g δ L).bind fun p => match p.1 with
  | [.ref n] => (seqAt p.2 n).map fun _ => (.enm n, p.2)
  | _ => none
noncomputable def fZip (g : FA) : FI := fun δ L => (g δ L).bind fun p => match p.1 with
  | [.ref n, .ref m] => (seqAt p.2 n).bind fun _ => (seqAt p.2 m).map fun _ => (.zip2 n m, p.2)
  | _ => none
theorem seqAt_addr {K : PySem.W.Frag} {H : Hp} {α : List Addr} {L : UH} {n : Nat} {a : Addr} {us : List U} (A : Abs K H α L) (ea : α[n]? = some a) (h : seqAt L n = some us) : ∃ xs, SqL K H a xs ∧ RepL K H α us xs := by
  obtain ⟨a', xs, ea', sq, r⟩ := seqAt_ok A h
  rw [ea] at ea'; cases ea'
  exact ⟨xs, sq, r⟩
theorem ite_rep {K : PySem.W.Frag} {H : Hp} {α : List Addr} {n : Nat} {a : Addr} (hinj : ∀ (H : Hp) xs ys, SqL K H a xs → SqL K H a ys → True) (ea : α[n]? = some a) : ItRep K (Ite K a) (.enm n) H α := by
  intro H2 α2 L2 g A2 k
  have ea2 := g.at ea
  refine ⟨fun u eu => ?_, fun eu => ?_⟩
  · obtain ⟨us, hs, eu⟩ := Option.map_eq_some_iff.mp eu
    obtain ⟨xs, sq, r⟩ := seqAt_addr A2 ea2 hs
    obtain ⟨w, hw, eu⟩ := Option.map_eq_some_iff.mp eu
    subst eu
    obtain ⟨x, hx, rx⟩ := r.get hw
    refine ⟨⟨xs, x, sq, hx⟩, ?_⟩
    rintro y H3 ⟨p, v, hp, rfl, rfl, hy⟩
    have := hy xs sq
    rw [hx] at this; cases this
    exact A2.tup (.cons rfl (.cons rx .nil)) hp
  · obtain ⟨us, hs, eu⟩ := Option.map_eq_some_iff.mp eu
    obtain ⟨xs, sq, r⟩ := seqAt_addr A2 ea2 hs
    have : us[k]? = none := by simpa using eu
    exact ⟨xs, sq, by rw [← r.length]; exact List.getElem?_eq_none_iff.mp this⟩
end
end MR
set_option Elab.async false
set_option linter.all false
set_option maxRecDepth 100000
set_option maxHeartbeats 4000000
namespace MR
open PySem PySem.Spec PyProof.Rows L2
theorem Vals.rev {xs : List V} {us : List Value} (h : Vals xs us) : Vals xs.reverse us.reverse := by
  induction h with
  | nil => exact .nil
  | cons h1 _ ih => rw [List.reverse_cons, List.reverse_cons]; exact ih.append (.cons h1 .nil)
theorem RepL.rev {K : PySem.W.Frag} {H : Hp} {α : List Addr} : ∀ {us : List U} {xs : List V}, RepL K H α us xs → RepL K H α us.reverse xs.reverse
  | [], xs, r => by unfold RepL at r; subst r; exact .nil
  | u :: us, xs, r => by
    unfold RepL at r
    obtain ⟨x, xr, rfl, r1, r2⟩ := r
    rw [List.reverse_cons, List.reverse_cons]
    exact (RepL.rev r2).append (.cons r1 .nil)
end MR
namespace HT
open PySem PySem.Spec PyProof.Rows
section
variable {prog : Program} {w : World} {A : Around} {E : Value → Shared → Prop} {s : Shared}
end
end HT
namespace MR
open PySem PySem.Spec PyProof.Rows L2
section
variable {X : Cx} {e st : Expr} {fa fs : FE} {p2 pos : Pos}
noncomputable def fRev (f : FE) : FE := fun δ L => (f δ L).bind fun p => match p.1 with | .ref n => (seqAt p.2 n).map fun l => (.ref p.2.length, p.2 ++ [.lst l.reverse]) | .tup l => some (.tup l.reverse, p.2) | _ => none
end
end MR
set_option Elab.async false
set_option linter.all false
set_option maxRecDepth 100000
set_option maxHeartbeats 4000000
namespace MR
open PySem PySem.Spec PyProof.Rows L2
structure ClsF (K : PySem.W.Frag) (C : Str) (Ca : Addr) : Prop where
  ns : PySem.W.nsIn K mainGlobals C = some (some (.ref Ca))
  cl : Cls K Ca
theorem ClsF.eq {K : PySem.W.Frag} {C : Str} {Ca Cb : Addr} (T : ClsF K C Ca) (h : PySem.W.nsIn K mainGlobals C = some (some (.ref Cb))) : Cb = Ca := by
  have := T.ns.symm.trans h
  simpa using this.symm
section
variable {X : Cx} {o e value : Expr} {es : List Expr} {f m C x : Str} {p pos pos' apos : Pos} {Ca fa : Addr} {fd : FuncData} {ps : List Str} {k n : Nat} {F : FN} {fe fo fv : FE} {g : FA}
end
end MR
set_option Elab.async false
set_option linter.all false
set_option maxRecDepth 100000
set_option maxHeartbeats 4000000
namespace ZT
open PySem PySem.Spec PyProof.Rows
open Sem (wp)
noncomputable def SqK (b : Bool) (h : Heap) (l : Addr) (xs : Array Value) : Prop := match b with
  | true => h.IsList l xs
  | false => h.IsTuple l xs
noncomputable def ItK (b : Bool) (h : Heap) (jt l : Addr) (k : Nat) : Prop := match b with
  | true => h.IsListIter jt l k
  | false => h.IsTupleIter jt l k
theorem SqK.keep {b : Bool} {h h' : Heap} {l : Addr} {xs : Array Value} (x : SqK b h l xs) (e : ∀ o, h.get? l = some o → h'.get? l = some o) : SqK b h' l xs := by
  cases b with
  | true => obtain ⟨o, ho, r⟩ := x; exact ⟨o, e _ ho, r⟩
  | false => obtain ⟨o, ho, r⟩ := x; exact ⟨o, e _ ho, r⟩
theorem ItK.keep {b : Bool} {h h' : Heap} {jt l : Addr} {k : Nat} (x : ItK b h jt l k) (e : ∀ o, h.get? jt = some o → h'.get? jt = some o) : ItK b h' jt l k := by
  cases b with
  | true => obtain ⟨o, ho, r⟩ := x; exact ⟨o, e _ ho, r⟩
  | false => obtain ⟨o, ho, r⟩ := x; exact ⟨o, e _ ho, r⟩
theorem ItK.lt {b : Bool} {h : Heap} {jt l : Addr} {k : Nat} (x : ItK b h jt l k) : jt < h.objs.size := by
  cases b with
  | true => obtain ⟨o, ho, r⟩ := x; exact Heap.lt_size ho
  | false => obtain ⟨o, ho, r⟩ := x; exact Heap.lt_size ho
theorem ItK.obj {b : Bool} {h : Heap} {jt l : Addr} {k : Nat} (x : ItK b h jt l k) : ∃ o, h.get? jt = some o ∧ o.data = .fields #[.ref l, .int k 0] := by
  cases b with
  | true => obtain ⟨o, ho, _, r⟩ := x; exact ⟨o, ho, r⟩
  | false => obtain ⟨o, ho, _, r⟩ := x; exact ⟨o, ho, r⟩
section
variable {prog : Program} {w : World} {A : Around} {E : Value → Shared → Prop} {s : Shared}
theorem next_tup {jt t : Addr} {k : Nat} {its : Array Value} {v : Value} {Q : Value → Shared → Prop} (hj : s.heap.IsTupleIter jt t k) (ht : s.heap.IsTuple t its) (hv : its[k]? = some v)
    (hQ : ∀ h', h'.IsTupleIter jt t (k + 1) → Heap.SameBut jt s.heap h' → Q v { s with heap := h' }) : wpAny (model prog w) A (Builtin.SmallTypes.nextOf (.ref jt)) Q E s := by
  obtain ⟨ob, hob, hcl, hda⟩ := id hj
  obtain ⟨ot, hot, _, nt, hdt⟩ := ht
  unfold Builtin.SmallTypes.nextOf
  refine wpAny_bind (wpAny_callSpecial?_slot (name := Str.ofString "__next__") hj.typeIs F.slot_tuple_iterator_next (wpAny_call_entry F.slot_tuple_iterator_next hj.typeIs F.entry_tuple_iterator_next ?_ (F.args_tuple_iterator_next_1 _)))
  show wpAny _ _ (field (.ref jt) 0 >>= _) _ _ s
  refine wpAny_bind (wpAny_field hob hda (x := .ref t) rfl ?_)
  show wpAny _ _ (if (Value.ref t == Value.none) = true then _ else _) _ _ s
  rw [if_neg (show ¬ ((Value.ref t == Value.none) = true) from (fun z => Bool.false_ne_true z))]
  show wpAny _ _ (field (.ref jt) 1 >>= _) _ _ s
  refine wpAny_bind (wpAny_field hob hda (x := .int k 0) rfl ?_)
  show wpAny _ _ (seqItems? (.ref t) >>= fun z => _) _ _ s
  refine wpAny_bind (wpAny_seqItems hot hdt ?_)
  simp only [Int.toNat_natCast, hv]
  refine wpAny_bind (wpAny_setField hob hda (by simp) (wpAny_pure ⟨v, rfl, wpAny_pure (hQ _ ?_ (Heap.SameBut.update ..))⟩))
  exact ⟨_, Heap.get?_update_self _ hob (Obj.isFreed_of_fields (Obj.data_mapFields hda _)), (Obj.cls_mapFields ..).trans hcl, by rw [Obj.data_mapFields hda]; simp [rawInt]⟩
theorem stop_tup {jt t : Addr} {k : Nat} {its : Array Value} {Q : Value → Shared → Prop} (hh : A.handled = none) (hj : s.heap.IsTupleIter jt t k) (ht : s.heap.IsTuple t its) (hv : its[k]? = none)
    (hE : ∀ h' e, Heap.ExtBut jt s.heap h' → (∃ ob, h'.get? e = some ob ∧ ob.cls = .type "StopIteration") → E (.ref e) { s with heap := h' }) : wpAny (model prog w) A (Builtin.SmallTypes.nextOf (.ref jt)) Q E s := by
  obtain ⟨ob, hob, hcl, hda⟩ := id hj
  obtain ⟨ot, hot, _, nt, hdt⟩ := ht
  unfold Builtin.SmallTypes.nextOf
  refine wpAny_bind (wpAny_callSpecial?_slot (name := Str.ofString "__next__") hj.typeIs F.slot_tuple_iterator_next (wpAny_call_entry F.slot_tuple_iterator_next hj.typeIs F.entry_tuple_iterator_next ?_ (F.args_tuple_iterator_next_1 _)))
  show wpAny _ _ (field (.ref jt) 0 >>= _) _ _ s
  refine wpAny_bind (wpAny_field hob hda (x := .ref t) rfl ?_)
  show wpAny _ _ (if (Value.ref t == Value.none) = true then _ else _) _ _ s
  rw [if_neg (show ¬ ((Value.ref t == Value.none) = true) from (fun z => Bool.false_ne_true z))]
  show wpAny _ _ (field (.ref jt) 1 >>= _) _ _ s
  refine wpAny_bind (wpAny_field hob hda (x := .int k 0) rfl ?_)
  show wpAny _ _ (seqItems? (.ref t) >>= fun z => _) _ _ s
  refine wpAny_bind (wpAny_seqItems hot hdt ?_)
  simp only [Int.toNat_natCast, hv]
  refine wpAny_bind (wpAny_rule (wpAny_bind (wpAny_setField hob hda (by simp) ?_)))
  show wpAny _ _ (newExc (.type "StopIteration") [] >>= fun z => _) _ _ _
  refine wpAny_bind ?_
  simp only [newExc, newTuple]; refine wpAny_bind (wpAny_newObj_type ?_ (by size_fits))
  refine wpAny_bind (m := firstArgMember _ _) (wpAny_of_eq (a := Value.none) (by first | rfl | (simp only [firstArgMember]; rfl)) (wpAny_newObj_type ?_ (by size_fits)))
  simp only [raiseNew]; refine wpAny_bind (wpAny_handled ?_)
  first | rw [show A.in1.handled = none from hh] | (rw [hh])
  exact wpAny_bind (wpAny_pure (wpAny_throw (hE _ _ (((Heap.SameBut.update ..).extBut.push _).push _) ⟨_, Heap.get?_push_size _ rfl, rfl⟩)))
theorem SqK.but {b : Bool} {h h' : Heap} {l c : Addr} {xs : Array Value} (x : SqK b h l xs) (e : Heap.ExtBut c h h') (hne : l ≠ c) : SqK b h' l xs := x.keep fun o q => e l o hne q
theorem ItK.but {b : Bool} {h h' : Heap} {jt l c : Addr} {k : Nat} (x : ItK b h jt l k) (e : Heap.ExtBut c h h') (hne : jt ≠ c) : ItK b h' jt l k := x.keep fun o q => e jt o hne q
variable {b1 b2 : Bool} {z TI TO j1 j2 l1 l2 : Addr} {k1 k2 : Nat} {xs ys : Array Value} {a b : Value}
end
end ZT
set_option Elab.async false
set_option linter.all false
set_option maxRecDepth 100000
set_option maxHeartbeats 4000000
namespace ZT
open PySem PySem.Spec PyProof.Rows
open Sem (wp)
section
variable {prog : Program} {w : World} {A : Around} {E : Value → Shared → Prop} {s : Shared}
end
end ZT
namespace MR
open PySem PySem.Spec PyProof.Rows L2
noncomputable def SK (bb : Bool) (K : PySem.W.Frag) (H : Hp) (a : Addr) (xs : List V) : Prop := match bb with
  | true => SqL K H a xs
  | false => SqT K H a xs
theorem SK.at {X : Cx} {pins : List (Addr × Obj)} {σ : L2.St} {H : Hp} {s : Shared} {bb : Bool} {a : Addr} {xs : List V} (I : L2.Inv X pins σ H s) (h : SK bb X.K H a xs) : ∃ its : List Value, Vals xs its ∧ ZT.SqK bb s.heap a its.toArray ∧ xs.length ≤ sizeLine := by
  cases bb with
  | true => obtain ⟨its, r, p, z⟩ := I.list h; exact ⟨its, r, p.isList, z⟩
  | false => obtain ⟨its, r, p, z⟩ := I.tuple h; exact ⟨its, r, p, z⟩
theorem SK.inj {X : Cx} {pins : List (Addr × Obj)} {σ : L2.St} {H : Hp} {s : Shared} {bb : Bool} {a : Addr} {xs ys : List V} (I : L2.Inv X pins σ H s) (h : SK bb X.K H a xs) (h' : SK bb X.K H a ys) : xs = ys := by
  cases bb with
  | true => exact I.list_inj h h'
  | false => exact I.tuple_inj h h'
section
variable {X : Cx} {elts : List Expr} {x1 : Nat} {tpos : Pos}
end
end MR
set_option Elab.async false
set_option linter.all false
set_option maxRecDepth 100000
set_option maxHeartbeats 4000000
namespace MR
open PySem PySem.Spec PyProof.Rows PySem.Calls L2
section
variable {X : Cx}
end
end MR
set_option Elab.async false
set_option linter.all false
set_option maxRecDepth 100000
set_option maxHeartbeats 4000000
namespace MR
open PySem PySem.Spec PyProof.Rows PySem.Calls L2
section
variable {X : Cx}
noncomputable def rInsert : V → List V → Hp → VK → Prop := fun x vs H Q => ∃ l xs i y, x = .ref l ∧ vs = [.int i, y] ∧ H l = some (.lst xs) ∧ 0 ≤ i ∧ i < 2 ^ 63 ∧ xs.length < sizeLine ∧ Q .non (upd H l (.lst (xs.take (min i.toNat xs.length) ++ y :: xs.drop (min i.toNat xs.length))))
theorem mt_insert : MtM X "list.insert" rInsert := by
  intro pins s σ H x vs v us Q I rx rv h
  obtain ⟨l, xs, i, y, rfl, rfl, hH, h1, h2, hz, q⟩ := h
  cases rx
  obtain ⟨u, w, rfl, ru, rw'⟩ := rv.two
  obtain ⟨t, rfl⟩ := ru
  obtain ⟨z, its, n, r, hl, e⟩ := I.lstM hH
  have hf : Builtin.List.listFitsIndex i = true := by
    unfold Builtin.List.listFitsIndex
    simp only [Bool.and_eq_true, decide_eq_true_eq]
    omega
  refine call_meets F.slot_list_insert ⟨_, e, rfl⟩ F.entry_list_insert (F.args_list_insert_3 _ _ _)
    (AutoSeq1.list_insert_list_int_val_1 l its.toArray n i t w (by simp [hf]) (by rw [List.size_toArray]; omega)) ⟨e, ?_⟩
  refine ⟨.non, _, I.lset (its' := its.take (min i.toNat xs.length) ++ w :: its.drop (min i.toNat xs.length)) hH e ?_ ((r.take _).append (.cons rw' (r.drop _))) ?_, rfl, q⟩
  · show (its.toArray.extract 0 (if i < 0 then (i + (its.toArray.size : Int)).toNat else min i.toNat its.toArray.size)).push w ++ its.toArray.extract (if i < 0 then (i + (its.toArray.size : Int)).toNat else min i.toNat its.toArray.size) = _
    rw [if_neg (by omega), PySem.W.kl_ins_eq, List.size_toArray, ← hl]
  · rw [List.length_append, List.length_cons, List.length_take, List.length_drop]
    omega
end
noncomputable def semInsert : SM := fun u us L => match u, us with
  | .ref n, [.int i, y] => (lstAt L n).bind fun l => if 0 ≤ i ∧ i < 2 ^ 63 ∧ l.length < sizeLine then some (.non, L.set n (.lst (l.take (min i.toNat l.length) ++ y :: l.drop (min i.toNat l.length)))) else none
  | _, _ => none
theorem sem_insert {K : PySem.W.Frag} : SemM K rInsert semInsert := by
  intro H α L u us x xs z L' Q A ru r e q
  unfold semInsert at e
  split at e
  · rename_i n i y0
    obtain ⟨l, hl, e⟩ := Option.bind_eq_some_iff.mp e
    split at e
    · rename_i hs
      cases e
      obtain ⟨v, y, rfl, rv, ry⟩ := r.two
      unfold RepU at rv
      subst rv
      obtain ⟨a, ys, rfl, ea, h, r2⟩ := ref_lst A hl ru
      have hlen := r2.length
      obtain ⟨g, A'⟩ := A.setL hl ea h ((r2.take (min i.toNat l.length)).append (.cons ry (r2.drop (min i.toNat l.length))))
      have q1 := q _ _ _ g A' rfl
      rw [hlen] at q1 hs
      exact ⟨a, ys, _, y, rfl, rfl, h, hs.1, hs.2.1, hs.2.2, q1⟩
    · cases e
  · cases e
end MR
set_option Elab.async false
set_option linter.all false
set_option maxRecDepth 100000
set_option maxHeartbeats 4000000
namespace ZT
open PySem PySem.Spec PyProof.Rows
open Sem (wp)
theorem meets_enumerate_newT (l : Addr) (items : Array Value) :
    Meets (Builtin.«enumerate.__new__» ⟨[.type "enumerate", .ref l], []⟩) (fun _ R s => s.heap.IsTuple l items ∧
      R (.ok (.ret (.ref (s.heap.push { cls := .type "tuple_iterator", data := .fields #[.ref l, .int 0 0] }).objs.size)))
        { s with heap := (s.heap.push { cls := .type "tuple_iterator", data := .fields #[.ref l, .int 0 0] }).push { cls := .type "enumerate", data := .fields #[.none, .bool false, .ref s.heap.objs.size, rawInt 0, .none, .none] } }) :=
  .of_wp fun prog w A R s h => by
    obtain ⟨hp, g, d, tk, os⟩ := s; obtain ⟨hl, h⟩ := h
    have hsub := sub_enumerate
    have hL : Heap.IsTuple (Shared.heap ⟨hp, g, d, tk, os⟩) l items := hl
    wp_walk using wpAny_pyIter_tuple hL
    refine wpAny_stack_any fun st => wpAny_pure ?_
    split
    · rename_i c _ _ _ _ _
      cases (c == Value.type "enumerate")
      · wp_walk using wpAny_pyIter_tuple hL
        exact ⟨_, rfl, h⟩
      · wp_walk using wpAny_pyIter_tuple hL
        exact ⟨_, rfl, h⟩
    · wp_walk using wpAny_pyIter_tuple hL
      exact ⟨_, rfl, h⟩
section
variable {prog : Program} {w : World} {A : Around} {E : Value → Shared → Prop} {s : Shared}
theorem call_enumerate_tuple {l : Addr} {items : Array Value} {Q : Value → Shared → Prop} (hL : s.heap.IsTuple l items)
    (h : ∀ h', IsEnum h' (s.heap.objs.size + 1) s.heap.objs.size 0 .none → h'.IsTupleIter s.heap.objs.size l 0 → h'.objs.size = s.heap.objs.size + 2 →
      (∀ b o, s.heap.get? b = some o → h'.get? b = some o) → Q (.ref (s.heap.objs.size + 1)) { s with heap := h' }) :
    wpAny (model prog w) A (call (.type "enumerate") [.ref l]) Q E s := by
  refine callType_new F.called_enumerate (by decide) (F.typeCall_enumerate_1 _) (F.newCall_enumerate_1 _) (fun obj => F.args_object_init_2 obj _) F.entry_enumerate_new
    (meets_enumerate_newT l items) ⟨hL, ?_⟩
  have hz : (s.heap.push { cls := .type "tuple_iterator", data := .fields #[.ref l, .int 0 0] }).objs.size = s.heap.objs.size + 1 := Heap.size_push ..
  show _ ∧ _
  rw [hz]
  have he : IsEnum ((s.heap.push { cls := .type "tuple_iterator", data := .fields #[.ref l, .int 0 0] }).push
      { cls := .type "enumerate", data := .fields #[.none, .bool false, .ref s.heap.objs.size, rawInt 0, .none, .none] }) (s.heap.objs.size + 1) s.heap.objs.size 0 .none := by
    have := Heap.get?_push_size (s.heap.push { cls := .type "tuple_iterator", data := .fields #[.ref l, .int 0 0] })
      (o := { cls := .type "enumerate", data := .fields #[.none, .bool false, .ref s.heap.objs.size, rawInt 0, .none, .none] }) rfl
    rw [hz] at this; exact this
  refine ⟨⟨_, he, rfl⟩, h _ he ⟨_, Heap.get?_push_of_some _ (Heap.get?_push_size _ rfl), rfl, rfl⟩ (by rw [Heap.size_push, hz]) fun b o x => Heap.get?_push_of_some _ (Heap.get?_push_of_some _ x)⟩
end
theorem draws_tuple {prog : Program} {w : World} {A : Around} (hh : A.handled = none) (it l : Addr) (hne : l ≠ it) (items : Array Value) :
    Draws prog w A it [it, l] items.size (fun i v => items[i]? = some v) (fun i h => h.IsTupleIter it l i ∧ h.IsTuple l items) where
  live := fun _ _ st => let ⟨o, ho, _⟩ := st.1; ⟨o, ho⟩
  frame := fun _ _ _ st hk => ⟨st.1.at fun o e => hk it (by simp) o e, st.2.at fun o e => hk l (by simp) o e⟩
  item := fun i s Q E hi st hQ => by
    refine next_tup st.1 st.2 (v := items[i]) (by simp [hi]) fun h' hit' hs' => ?_
    exact hQ _ h' s.toks (by simp [hi]) ⟨hit', st.2.extBut hs'.extBut hne⟩ hs'
  done := fun s Q E st hE => stop_tup hh st.1 st.2 (by simp) hE
section
variable {prog : Program} {w : World} {A : Around} {E : Value → Shared → Prop} {s : Shared}
theorem enum_end_tup {e it l : Addr} {n : Nat} {i : Int} {items : Array Value} {old : Value} {Q : Option Value → Shared → Prop} (hh : A.handled = none)
    (he : IsEnum s.heap e it i old) (hit : s.heap.IsTupleIter it l n) (hl : s.heap.IsTuple l items) (hn : items.size ≤ n)
    (hQ : ∀ h', Heap.ExtBut it s.heap h' → Q none { s with heap := h' }) : wpAny (model prog w) A (pyNext (.ref e)) Q E s := by
  have hT : s.TypeIs (.ref e) "enumerate" := ⟨_, he, rfl⟩
  unfold pyNext
  refine wpAny_bind (wpAny_attempt (wpAny_callSpecial?_slot (name := Str.ofString "__next__") hT F.slot_enumerate_next
    (wpAny_call_entry F.slot_enumerate_next hT F.entry_enumerate_next ?_ (F.args_enumerate_next_1 _))))
  show wpAny _ _ (field (.ref e) 2 >>= _) _ _ _
  refine wpAny_bind (wpAny_field he rfl (x := .ref it) rfl ?_)
  refine wpAny_bind (stop_tup (A := Around.in1 A) hh hit hl (by simp; omega) fun h' x he' hx' => ?_)
  obtain ⟨o, ho, hc⟩ := hx'
  refine wpAny_bind (wpAny_isInstance (T := "StopIteration") (b := true) ⟨o, ho, hc⟩ isSubtype_stop ?_)
  exact wpAny_pure (hQ _ he')
end
end ZT
namespace MR
open PySem PySem.Spec PyProof.Rows L2
noncomputable def IteT (K : PySem.W.Frag) (a : Addr) : It :=
  ⟨fun i H => ∃ xs x, SqT K H a xs ∧ xs[i]? = some x, fun i H x H' => ∃ p v, H p = none ∧ x = .ref p ∧ H' = upd H p (.tup [.int i, v]) ∧ ∀ xs, SqT K H a xs → xs[i]? = some v, fun i H => ∃ xs, SqT K H a xs ∧ xs.length ≤ i⟩
theorem turn_enumT {P : Program} {w : World} {K : PySem.W.Frag} {elts : List Expr} {x1} {pos : Pos} (a e it : Addr) (hne : e ≠ it) : Turn P w K (.Tuple elts x1 pos) (IteT K a) [e, it] e (fun i h => (∃ old, IsEnum h e it i old) ∧ h.IsTupleIter it a i) where
  mem := by simp
  obj := fun i h st b hb => by
    obtain ⟨⟨old, he⟩, o, ho, hc, hd⟩ := st
    rcases List.mem_cons.mp hb with rfl | hb
    · exact ⟨_, he, fun v z => by simp at z⟩
    · have : b = it := by simpa using hb
      subst this
      exact ⟨o, ho, fun v z => by rw [hd] at z; cases z⟩
  keep := fun i h h' st k => by
    obtain ⟨⟨old, he⟩, o, ho, hc, hd⟩ := st
    exact ⟨⟨old, k e (by simp) _ he⟩, o, k it (by simp) _ ho, hc, hd⟩
  item := by
    intro X hP hw hK hc i pins s σ H E I hf st hg
    subst hP hw hK
    obtain ⟨⟨old, he⟩, hit⟩ := st
    obtain ⟨xs, v, sq, hx⟩ := hg
    obtain ⟨its, hv, pl, hz⟩ := I.tuple sq
    obtain ⟨u, hu, r⟩ := hv.get hx
    have hae : e ≠ a := fun q => by
      subst q
      obtain ⟨o, ho, hc, _⟩ := pl
      have : some o = some _ := ho.symm.trans he
      cases this
      simp at hc
    have hai : a ≠ it := fun q => by
      subst q
      obtain ⟨o, ho, hc, _⟩ := pl
      obtain ⟨o', ho', hc', _⟩ := hit
      have : some o = some o' := ho.symm.trans ho'
      cases this
      rw [hc] at hc'; simp at hc'
    have hlt : i < its.toArray.size := by
      have := (List.getElem?_eq_some_iff.mp hu).1
      simpa using this
    refine wpAny_pyNext_enum_itemD (ZT.draws_tuple (A := Around.in1 _) (I.ok.hd hc) it a hai its.toArray) he ⟨hit, pl⟩ hlt hne (by simp [hne, hae]) fun x h' tk px o1 o2 o3 o4 o5 => ?_
    have hxu : x = u := by
      have : its[i]? = some x := by simpa using px
      rw [hu] at this; cases this; rfl
    subst hxu
    refine ⟨_, rfl, ?_⟩
    have hfr : H s.heap.objs.size = none := I.hok.fresh (Nat.le_refl _)
    have I1 : L2.Inv X pins σ (upd H s.heap.objs.size (.tup [.int i, v])) { s with heap := h', toks := tk + 1 } :=
      Inv.turnNew (ch := [e, it]) I hf (fun b o hb q => o5 b o (fun z => hb (by simp [z])) (fun z => hb (by simp [z])) q) (Nat.le_refl _)
        (show ObjOk X.prog X.w _ h' _ (.tup [.int i, v]) from ⟨by show 2 ≤ sizeLine; decide, [.int i tk, x], .cons ⟨_, rfl⟩ (.cons r .nil), ⟨_, o3, rfl, _, rfl⟩⟩)
    refine wpAny_letOwnedTupleGo_enum o1 fun h2 e2 sb2 => ?_
    have hne2 : ∀ b ∈ [e, it], b ≠ s.heap.objs.size := fun b hb z => by
      rcases List.mem_cons.mp hb with q | q
      · have := Heap.lt_size he; rw [← q, z] at this; exact Nat.lt_irrefl _ this
      · have q : b = it := by simpa using q
        obtain ⟨o, ho, _⟩ := hit
        have := Heap.lt_size ho; rw [← q, z] at this; exact Nat.lt_irrefl _ this
    have hnone : ∀ b ∈ [e, it], (upd H s.heap.objs.size (.tup [.int i, v])) b = none := fun b hb => by rw [upd_ne (hne2 b hb)]; exact (hf b hb).1
    obtain ⟨f0, f1, f2, f3, f4, f5⟩ := hf e (by simp)
    have I2 := I1.turned (t' := tk + 1) (h' := h2) (it := e) (fun b o hb q => sb2.2 b hb |>.trans q) (hnone e (by simp)) f1 f3 f4 f5
    obtain ⟨oi, hoi, hci, hdi⟩ := o2.1
    refine ⟨.ref s.heap.objs.size, _, I2, rfl, ⟨_, v, hfr, rfl, rfl, fun ys sq' => ?_⟩, ⟨⟨_, e2⟩, oi, (sb2.2 it (Ne.symm hne)).trans hoi, hci, hdi⟩, hnone⟩
    rw [I.tuple_inj sq' sq]; exact hx
  done := by
    intro X hP hw hK hc i pins s σ H E I hf st hg
    subst hP hw hK
    obtain ⟨⟨old, he⟩, hit⟩ := st
    obtain ⟨xs, sq, hx⟩ := hg
    obtain ⟨its, hv, pl, hz⟩ := I.tuple sq
    obtain ⟨f0, f1, f2, f3, f4, f5⟩ := hf it (by simp)
    have hlen := hv.length
    exact ZT.enum_end_tup (I.ok.hd hc) he hit pl (by simp; omega) fun h' eb => ⟨rfl, I.turned (t' := s.toks) (fun b o hb q => eb b o hb q) f0 f1 f3 f4 f5⟩
  self := fun _ _ _ _ _ st h => by obtain ⟨⟨old, he⟩, _⟩ := st; exact wpAny_pyIter_enum he h
section
variable {X : Cx} {elts : List Expr} {x1 : Nat} {tpos : Pos}
noncomputable def iEnumT (K : PySem.W.Frag) (ta : TA) : TI := fun σ H R => ta σ H fun vs H1 => ∃ a xs, vs = [.ref a] ∧ SqT K H1 a xs ∧ R (IteT K a) H1
theorem pi_enumT {a : Expr} {ta : TA} {p pos : Pos} (hg : Gl X "enumerate") (hm : X.mg "enumerate" = none) (ha : PA X [a] ta) (hs : starEach [a] X.env = [(false, eval a X.env)] := by rfl) : PI X (.Tuple elts x1 tpos) (.Call (.Name "enumerate" p) [a] [] pos) (iEnumT X.K ta) := by
  intro pins s σ H R I h
  refine Call_ (ld_blt I hg hm boot_enum (PyProof.Rows.callWith_type1 (thn (ha pos pins s σ H _ I h) fun us s1 ⟨vs, H1, I1, r1, q1⟩ => ?_) hs rfl))
  obtain ⟨l, xs, rfl, sq, q⟩ := q1
  obtain ⟨u, rfl, ru⟩ := vals1 r1
  cases ru
  obtain ⟨its, hv, pl, hz⟩ := I1.tuple sq
  refine ZT.call_enumerate_tuple pl fun h' o1 o2 o3 o4 => ?_
  have I2 : L2.Inv X pins σ H1 { s1 with heap := h' } := I1.kept (t' := s1.toks) o4
  refine wpAny_pyIter_enum o1 ⟨_, _, _, _, H1, rfl, I2, turn_enumT l (s1.heap.objs.size + 1) s1.heap.objs.size (Nat.ne_of_gt (Nat.lt_succ_self _)), ⟨⟨_, o1⟩, o2⟩, fun b hb => ?_, q⟩
  have hb' : s1.heap.objs.size ≤ b := by
    simp only [List.mem_cons, List.not_mem_nil, or_false] at hb
    rcases hb with rfl | rfl
    · exact Nat.le_succ _
    · exact Nat.le_refl _
  exact L2.Inv.fpOk I1 hb' (I1.hok.fresh hb')
noncomputable def enumU (us : List U) : List U := us.mapIdx fun i u => .tup [.int i, u]
noncomputable def fEnumA (g : FA) : FI := fun δ L => (g δ L).bind fun p => match p.1 with
  | [.ref n] => (seqAt p.2 n).map fun _ => (.enm n, p.2)
  | [.tup us] => some (.seq (enumU us), p.2)
  | _ => none
theorem iteT_rep {K : PySem.W.Frag} {H : Hp} {α : List Addr} {a : Addr} {us : List U} {xs : List V} (sq : SqT K H a xs) (r : RepL K H α us xs) : ItRep K (IteT K a) (.seq (enumU us)) H α := by
  intro H2 α2 L2 g A2 k
  have m := (show RepU K H α (.tup us) (.ref a) by unfold RepU; exact ⟨a, xs, rfl, sq, r⟩).mono g
  unfold RepU at m
  obtain ⟨c', xs, e, sq2, r2⟩ := m
  cases e
  refine ⟨fun u eu => ?_, fun eu => ?_⟩
  · have eu : (enumU us)[k]? = some u := by simpa [IU.at] using eu
    unfold enumU at eu
    rw [List.getElem?_mapIdx] at eu
    obtain ⟨w, hw, eu⟩ := Option.map_eq_some_iff.mp eu
    subst eu
    obtain ⟨x, hx, rx⟩ := r2.get hw
    refine ⟨⟨xs, x, sq2, hx⟩, ?_⟩
    rintro y H3 ⟨p, v, hp, rfl, rfl, hy⟩
    have := hy xs sq2
    rw [hx] at this; cases this
    exact A2.tup (.cons rfl (.cons rx .nil)) hp
  · have eu : (enumU us)[k]? = none := by simpa [IU.at] using eu
    unfold enumU at eu
    rw [List.getElem?_mapIdx] at eu
    have : us[k]? = none := by simpa using eu
    exact ⟨xs, sq2, by rw [← r2.length]; exact List.getElem?_eq_none_iff.mp this⟩
theorem pif_enumA {a : Expr} {g : FA} {p pos : Pos} (hg : Gl X "enumerate") (hm : X.mg "enumerate" = none) (ha : PAF X [a] g) (hs : starEach [a] X.env = [(false, eval a X.env)] := by rfl) : PIF X (.Tuple elts x1 tpos) (.Call (.Name "enumerate" p) [a] [] pos) (fEnumA g) := by
  refine PI.imp (PI.or (pi_enum hg hm ha hs) (pi_enumT hg hm ha hs)) ?_
  rintro σ H R ⟨α, δ, L, A, S, i, L3, e, q⟩
  obtain ⟨⟨us, L1⟩, e1, e⟩ := Option.bind_eq_some_iff.mp e
  simp only at e
  split at e
  · obtain ⟨l, hl, e⟩ := Option.map_eq_some_iff.mp e
    cases e
    refine .inl ⟨α, δ, L, A, S, _, _, e1, fun xs H1 α1 g1 A1 r1 => ?_⟩
    obtain ⟨x, rfl, rx⟩ := r1.one
    obtain ⟨a', ys, rfl, sq, r2⟩ := refs_at A1 hl rx
    obtain ⟨a2, ea, ha2⟩ := rx.ref_of A1
    cases ha2
    exact ⟨a', ys, rfl, sq, q _ H1 α1 g1 A1 (ite_rep (fun _ _ _ _ _ => trivial) ea)⟩
  · cases e
    refine .inr ⟨α, δ, L, A, S, _, _, e1, fun xs H1 α1 g1 A1 r1 => ?_⟩
    obtain ⟨x, rfl, rx⟩ := r1.one
    unfold RepU at rx
    obtain ⟨a', ys, rfl, sq, r2⟩ := rx
    exact ⟨a', ys, rfl, sq, q _ H1 α1 g1 A1 (iteT_rep sq r2)⟩
  · cases e
end
end MR
set_option Elab.async false
set_option linter.all false
set_option maxRecDepth 100000
set_option maxHeartbeats 4000000
namespace MR
open PySem PySem.Spec PyProof.Rows L2
structure CompScC (X : Cx) (scope : Scope) (N' : List Str) (ix : List (Option Nat)) : Prop where
  kind : scope.kind = .function
  own : (scope.names.all fun y => scope.names.lookup y.1 == some y.2) = true
  free : (scope.names.all fun y => y.2 != .free || (X.env.kindOf y.1 == some .cell || X.env.kindOf y.1 == some .free)) = true
  ixs : ((N'.zip ix).all fun p => match p.2 with | none => true | some i => (X.N[i]? == some p.1) && (scope.names.lookup p.1 == some .free)) = true
  len : N'.length = ix.length
section
variable {X : Cx} {scope : Scope} {N' : List Str} {ix : List (Option Nat)} {pins : List (Addr × Obj)} {σ : L2.St} {H2 : Hp} {s2 : Shared} {cl : List (Str × Addr)} {fp : List Addr}
theorem CompScC.lk (S : CompScC X scope N' ix) {x : Str} {k : NameKind} (h : (x, k) ∈ scope.names) : scope.names.lookup x = some k := by
  have := List.all_eq_true.mp S.own _ h
  simpa using this
theorem CompScC.names (S : CompScC X scope N' ix) : ∀ x ∈ scope.names, x.2 = .local → scope.names.lookup x.1 = some .local := fun x hx hl => by
  have := S.lk (x := x.1) (k := x.2) hx
  rw [hl] at this
  exact this
theorem CompScC.clos (S : CompScC X scope N' ix) (ok : X.Ok) : ∃ cl, closureFor scope X.env = pure cl ∧ (∀ x c, cl.lookup x = some c → X.env.cells.lookup x = some c) ∧ ∀ y ∈ scope.names, y.2 = .free → ∃ c, cl.lookup y.1 = some c := by
  refine closureFor_ex fun y hy hf => ?_
  have := List.all_eq_true.mp S.free y hy
  rw [hf] at this
  simp at this
  exact ok.has y.1 this
end
section
variable {X : Cx} {scope : Scope} {N' : List Str} {ix : List (Option Nat)} {elt tg iter c : Expr} {pos : Pos} {fi : FI} {g : FG} {ft : FT} {fe : FE}
end
end MR
set_option Elab.async false
set_option linter.all false
set_option maxRecDepth 100000
set_option maxHeartbeats 4000000
namespace MR
open PySem PySem.Spec PyProof.Rows L2
noncomputable def Its (x : Str) : It := ⟨fun i _ => i < x.cps.size, fun i H v H' => H' = H ∧ ∃ c, x.cps[i]? = some c ∧ v = .str ⟨#[c]⟩, fun i _ => x.cps.size ≤ i⟩
theorem turn_str {P : Program} {w : World} {K : PySem.W.Frag} {tg : Expr} (x : Str) (t : Tok) (it : Addr) : Turn P w K tg (Its x) [it] it (fun i h => h.IsStrIter it "str_ascii_iterator" x t i) where
  mem := by simp
  obj := fun i h st b hb => by
    have e : b = it := by simpa using hb
    subst e
    obtain ⟨o, e, c, d⟩ := st
    exact ⟨o, e, fun v z => by rw [d] at z; cases z⟩
  keep := fun i h h' st k => by
    obtain ⟨o, e, r⟩ := st
    exact ⟨o, k it (by simp) o e, r⟩
  item := by
    intro X hP hw hK hc i pins s σ H E I hf st hg
    subst hP hw hK
    obtain ⟨f0, f1, f2, f3, f4, f5⟩ := hf it (by simp)
    have hg : i < x.cps.size := hg
    have hx : x.cps[i]? = some (x.cps[i]'hg) := Array.getElem?_eq_getElem hg
    refine wpAny_pyNext_ascii_item st hx fun h' st' sb => ?_
    have I1 : Inv X pins σ H { s with heap := h', toks := s.toks + 1 } := I.turned (t' := s.toks + 1) (fun b o hb e => (sb.2 b hb).trans e) f0 f1 f3 f4 f5
    obtain ⟨o, e, c, d⟩ := id st'
    exact ⟨_, rfl, go_of (s := { s with heap := h', toks := s.toks + 1 }) e c d (by decide) ⟨.str ⟨#[x.cps[i]'hg]⟩, H, I1, ⟨_, rfl⟩, ⟨rfl, _, hx, rfl⟩, st', fun b hb => (hf b hb).1⟩⟩
  done := by
    intro X hP hw hK hc i pins s σ H E I hf st hg
    subst hP hw hK
    obtain ⟨f0, f1, f2, f3, f4, f5⟩ := hf it (by simp)
    have hx : x.cps[i]? = none := Array.getElem?_eq_none hg
    exact wpAny_pyNext_ascii_end (I.ok.hd hc) st hx fun h' eb => ⟨rfl, I.turned (t' := s.toks) (fun b o hb e => eb b o hb e) f0 f1 f3 f4 f5⟩
  self := fun _ _ _ _ _ st h => wpAny_pyIter_striter_ascii st h
noncomputable def iStr (tl : TE) : TI := fun σ H R => tl σ H fun v H1 => ∃ x : Str, v = .str x ∧ x.cps.all (· < 128) = true ∧ R (Its x) H1
section
variable {X : Cx} {tg : Expr}
theorem pi_str {l : Expr} {tl : TE} (hl : PE X l tl) : PI X tg l (iStr tl) := by
  intro pins s σ H R I h
  refine thn (hl pins s σ H _ I h) fun v s1 ⟨x, H1, I1, r1, q1⟩ => ?_
  obtain ⟨x, rfl, ha, q⟩ := q1
  obtain ⟨t, rfl⟩ := r1
  refine wpAny_pyIter_ascii ha ?_
  refine ⟨s1.heap.objs.size, [s1.heap.objs.size], _, _, H1, rfl, I1.kept (t' := s1.toks) fun b o e => Heap.get?_push_of_some _ e, turn_str x t _, ⟨_, Heap.get?_push_size _ rfl, rfl, rfl⟩, fun b hb => ?_, q⟩
  have e : b = s1.heap.objs.size := by simpa using hb
  subst e
  exact I1.fpOk (Nat.le_refl _) (I1.hok.fresh (Nat.le_refl _))
noncomputable def chrU (x : Str) : List U := x.cps.toList.map fun c => .str ⟨#[c]⟩
noncomputable def fStrI (f : FE) : FI := fun δ L => (f δ L).bind fun p => match p.1 with
  | .str x => if x.cps.all (· < 128) = true then some (.seq (chrU x), p.2) else none
  | _ => none
theorem its_rep {K : PySem.W.Frag} {H : Hp} {α : List Addr} (x : Str) : ItRep K (Its x) (.seq (chrU x)) H α := by
  intro H2 α2 L2 g A2 k
  refine ⟨fun u eu => ?_, fun eu => ?_⟩
  · have eu : (chrU x)[k]? = some u := by simpa [IU.at] using eu
    unfold chrU at eu
    rw [List.getElem?_map] at eu
    obtain ⟨c, hc, eu⟩ := Option.map_eq_some_iff.mp eu
    subst eu
    have hc' : x.cps[k]? = some c := by simpa using hc
    have hk : k < x.cps.size := by
      have := (List.getElem?_eq_some_iff.mp hc).1
      simpa using this
    refine ⟨hk, ?_⟩
    rintro y H3 ⟨rfl, c', hc2, rfl⟩
    rw [hc'] at hc2; cases hc2
    exact ⟨.refl _ _, A2, rfl⟩
  · have eu : (chrU x)[k]? = none := by simpa [IU.at] using eu
    unfold chrU at eu
    have : x.cps.toList.length ≤ k := by simpa using eu
    show x.cps.size ≤ k
    simpa using this
theorem pif_str {l : Expr} {f : FE} (hl : PEF X l f) : PIF X tg l (fStrI f) := by
  refine PI.imp (pi_str hl) ?_
  rintro σ H R ⟨α, δ, L, A, S, i, L3, e, q⟩
  obtain ⟨⟨u, L1⟩, e1, e⟩ := Option.bind_eq_some_iff.mp e
  simp only at e
  split at e
  · split at e
    · rename_i ha
      cases e
      refine ⟨α, δ, L, A, S, _, _, e1, fun x H1 α1 g1 A1 r1 => ?_⟩
      unfold RepU at r1
      subst r1
      exact ⟨_, rfl, ha, q _ H1 α1 g1 A1 (its_rep _)⟩
    · cases e
  · cases e
end
end MR
set_option Elab.async false
set_option linter.all false
set_option maxRecDepth 100000
set_option maxHeartbeats 4000000
namespace ZT
open PySem PySem.Spec PyProof.Rows
open Sem (wp)
section
variable {prog : Program} {w : World} {A : Around} {s : Shared} {R : Result → Shared → Prop}
variable {I : Addr} {fp wr : List Addr} {G : Array GenState → Array GenState → Prop} {n : Nat} {P : Nat → Value → Prop} {St : Nat → Shared → Prop}
end
section
variable {prog : Program} {w : World} {A : Around} {E : Value → Shared → Prop} {s : Shared}
variable {I : Addr} {fp wr : List Addr} {G : Array GenState → Array GenState → Prop} {n : Nat} {P : Nat → Value → Prop} {St : Nat → Shared → Prop}
end
end ZT
set_option Elab.async false
set_option linter.all false
set_option maxRecDepth 100000
set_option maxHeartbeats 4000000
namespace MR
open PySem PySem.Spec PyProof.Rows PySem.Calls L2
section
variable {X : Cx}
theorem boot_listT : bootBuiltins "list" = some (.type "list") := by decide +kernel
end
end MR
set_option Elab.async false
set_option linter.all false
set_option maxRecDepth 100000
set_option maxHeartbeats 4000000
namespace ZT
open PySem PySem.Spec PyProof.Rows HT
section
variable {prog : Program} {w : World} {A : Around} {E : Value → Shared → Prop} {s : Shared}
end
end ZT
namespace MR
open PySem PySem.Spec PyProof.Rows PySem.Calls L2
section
variable {X : Cx} {tg : Expr}
end
end MR
set_option Elab.async false
set_option linter.all false
set_option maxRecDepth 100000
set_option maxHeartbeats 4000000
namespace MR
open PySem PySem.Spec PyProof.Rows PySem.Calls L2
section
variable {X : Cx}
end
noncomputable def semAddA : S2 := fun u w L => match u, w with
  | .tup [], .tup b => some (.tup b, L)
  | u, w => semAdd u w L
@[simp] theorem semAddA_int (i j : Int) (L : UH) : semAddA (.int i) (.int j) L = some (.int (i + j), L) := rfl
end MR
set_option Elab.async false
set_option linter.all false
set_option maxRecDepth 100000
set_option maxHeartbeats 4000000
namespace MR
open PySem PyProof.Rows L2
section
variable {X : Cx}
end
end MR
namespace MR
open PySem PySem.W PyProof.Rows L2
end MR
namespace Att
open PySem PySem.W PySem.Calls PyProof.Rows L2 MR
end Att
set_option Elab.async false
set_option linter.all false
set_option maxRecDepth 100000
set_option maxHeartbeats 4000000
namespace MR
open PySem PyProof.Rows L2
noncomputable def g0 (us ws : List Value) : List Value := match us with | [] => ws | _ => []
section
variable {X : Cx} {k : Nat} {f : Addr} {fd : FuncData} {p : Str} {ps : List Str} {x : Str} {pp pos kpos : Pos} {e : Expr} {kws : List Keyword} {nm : Option Str}
theorem PK.imp {t t' : TA} (h : PK X kws t) (hi : ∀ σ H Q, t' σ H Q → t σ H Q) : PK X kws t' := fun pos pins s σ H Q I q => h pos pins s σ H Q I (hi σ H Q q)
end
end MR
set_option Elab.async false
set_option linter.all false
set_option maxRecDepth 100000
set_option maxHeartbeats 4000000
namespace MR
open PySem PySem.Spec PyProof.Rows PySem.Calls L2
section
variable {X : Cx}
end
end MR
set_option Elab.async false
set_option linter.all false
set_option maxRecDepth 100000
set_option maxHeartbeats 4000000
namespace MR
open PySem PySem.Spec PyProof.Rows PySem.Calls L2
noncomputable def rngV (lo : Int) (n : Nat) : List V := (List.range n).map fun i => V.int (lo + (i : Nat))
theorem rng_items {lo : Int} {n : Nat} {acc : Array Value} (h : ItemsOf (fun i v => ∃ t, v = Value.int (lo + (i : Nat) * 1) t) acc n) : Vals (rngV lo n) acc.toList := by
  obtain ⟨h1, h2⟩ := h
  have key : ∀ (k : Nat) (l : List Value) (m : Nat), l.length = k → (∀ i v, l[i]? = some v → ∃ t, v = Value.int (lo + ((m + i : Nat) : Int)) t) → Vals ((List.range' m k).map fun i => V.int (lo + ((i : Nat) : Int))) l := by
    intro k
    induction k with
    | zero => intro l m hl _; cases l with | nil => exact .nil | cons _ _ => simp at hl
    | succ k ih =>
      intro l m hl hv
      cases l with
      | nil => simp at hl
      | cons v l =>
        rw [List.range'_succ, List.map_cons]
        obtain ⟨t, ht⟩ := hv 0 v rfl
        refine .cons ⟨t, by rw [ht]; rfl⟩ (ih l (m + 1) (by simpa using hl) fun i w hw => ?_)
        obtain ⟨t', ht'⟩ := hv (i + 1) w (by simpa using hw)
        refine ⟨t', ?_⟩
        rw [ht']
        have : m + (i + 1) = m + 1 + i := by omega
        rw [this]
  have := key n acc.toList 0 (by simpa using h1) (fun i v hv => by
    obtain ⟨t, ht⟩ := h2 i v (by simpa using hv)
    refine ⟨t, ?_⟩
    rw [ht, Int.mul_one, Nat.zero_add])
  unfold rngV
  rw [List.range_eq_range']
  exact this
section
variable {X : Cx}
theorem list_rng {pins : List (Addr × Obj)} {σ : L2.St} {H : Hp} {s : Shared} {Q : VK} {lo hi : Int} {t u v : Tok} {tk : Nat} (hc : X.calm = true) (I : L2.Inv X pins σ H s) (h1 : -(2 ^ 62) ≤ lo) (h2 : lo < 2 ^ 62) (h3 : -(2 ^ 62) ≤ hi) (h4 : hi < 2 ^ 62) (hn : (hi - lo).toNat ≤ 1000000)
    (q : ∀ l, H l = none → Q (.ref l) (upd H l (.lst (rngV lo (hi - lo).toNat)))) :
    wpAny (model X.prog X.w) X.A (call (.type "list") [.ref s.heap.objs.size]) (EP X pins σ Q) X.xe { s with heap := s.heap.push { cls := .type "range", data := .fields #[.int lo t, .int hi u, .int 1 v] }, toks := tk } := by
  have I1 : L2.Inv X pins σ H { s with heap := s.heap.push { cls := .type "range", data := .fields #[.int lo t, .int hi u, .int 1 v] }, toks := tk } := I.kept fun b o e => Heap.get?_push_of_some _ e
  refine call_list_range (n := (hi - lo).toNat) (I.ok.hd hc) (IsRange.new ..) (small_one h1 h2 h3 h4) (by rw [rangeSize_one]; split <;> omega) (by omega) fun h' tk' acc c' hk hS hacc => ?_
  have hz2 : (s.heap.push { cls := .type "range", data := .fields #[.int lo t, .int hi u, .int 1 v] }).objs.size = s.heap.objs.size + 1 := Heap.size_push ..
  have hv := rng_items hacc
  have kp : ∀ b o, (s.heap.push { cls := .type "range", data := .fields #[.int lo t, .int hi u, .int 1 v] }).get? b = some o → h'.get? b = some o := hk
  have hlen : (rngV lo (hi - lo).toNat).length ≤ sizeLine := by
    unfold rngV sizeLine
    rw [List.length_map, List.length_range]; omega
  have new : ObjOk X.prog X.w (upd H (s.heap.push { cls := .type "range", data := .fields #[.int lo t, .int hi u, .int 1 v] }).objs.size (.lst (rngV lo (hi - lo).toNat))) h' (s.heap.push { cls := .type "range", data := .fields #[.int lo t, .int hi u, .int 1 v] }).objs.size (.lst (rngV lo (hi - lo).toNat)) :=
    ⟨hlen, acc.toList, c', hv, by simpa using hS⟩
  exact ⟨.ref (s.heap.push { cls := .type "range", data := .fields #[.int lo t, .int hi u, .int 1 v] }).objs.size, _, I1.laid (t' := tk') kp (Nat.le_refl _) new, rfl, q _ (I1.hok.fresh (Nat.le_refl _))⟩
noncomputable def tLRng1 (ta : TA) : TE := fun σ H Q => ta σ H fun vs H1 => ∃ j : Int, vs = [.int j] ∧ -(2 ^ 62) ≤ j ∧ j ≤ 1000000 ∧ ∀ l, H1 l = none → Q (.ref l) (upd H1 l (.lst (rngV 0 j.toNat)))
theorem pe_lrng1 {a : Expr} {ta : TA} {p p' pos pos' : Pos} (hc : X.calm = true) (hgL : Gl X "list") (hmL : X.mg "list" = none) (hg : Gl X "range") (hm : X.mg "range" = none) (ha : PA X [a] ta) (hs : starEach [a] X.env = [(false, eval a X.env)] := by rfl)
    (hs2 : starEach [.Call (.Name "range" p') [a] [] pos'] X.env = [(false, eval (.Call (.Name "range" p') [a] [] pos') X.env)] := by rfl) : PE X (.Call (.Name "list" p) [.Call (.Name "range" p') [a] [] pos'] [] pos) (tLRng1 ta) := by
  intro pins s σ H Q I h
  refine wpAny_Call_Name_kw (ld_blt I hgL hmL boot_listT ?_)
  refine PyProof.Rows.callWith_type1 ?_ hs2 rfl
  rw [hs2]
  refine Calls.spliced_cons ?_
  refine wpAny_Call_Name_kw (ld_blt I hg hm boot_range (PyProof.Rows.callWith_type1 (thn (ha pos' pins s σ H _ I h) fun us s1 ⟨vs, H1, I1, r1, q1⟩ => ?_) hs rfl))
  obtain ⟨j, rfl, j0, j1, q⟩ := q1
  obtain ⟨u, rfl, ru⟩ := vals1 r1
  obtain ⟨t, rfl⟩ := ru
  refine call_range_1 ?_
  refine Calls.spliced_nil ?_
  have hj : (j - 0).toNat = j.toNat := by rw [Int.sub_zero]
  exact list_rng (lo := 0) (hi := j) hc I1 (by omega) (by omega) j0 (by omega) (by omega) (fun l hl => by rw [hj]; exact q l hl)
end
noncomputable def fLRng1 (g : FA) : FE := fun δ L => (g δ L).bind fun p => match p.1 with
  | [.int j] => if -(2 ^ 62) ≤ j ∧ j ≤ 1000000 then some (.ref p.2.length, p.2 ++ [.lst (rangeU 0 j.toNat)]) else none
  | _ => none
theorem rng_rep {K : PySem.W.Frag} {H : Hp} {α : List Addr} (lo : Int) (n : Nat) : RepL K H α (rangeU lo n) (rngV lo n) := by
  unfold rangeU rngV
  generalize List.range n = ks
  induction ks with
  | nil => exact .nil
  | cons k ks ih => exact .cons (by unfold RepU; rfl) ih
theorem pf_lrng1 {X : Cx} {a : Expr} {g : FA} {p p' pos pos' : Pos} (hc : X.calm = true) (hgL : Gl X "list") (hmL : X.mg "list" = none) (hg : Gl X "range") (hm : X.mg "range" = none) (ha : PAF X [a] g) (hs : starEach [a] X.env = [(false, eval a X.env)] := by rfl)
    (hs2 : starEach [.Call (.Name "range" p') [a] [] pos'] X.env = [(false, eval (.Call (.Name "range" p') [a] [] pos') X.env)] := by rfl) : PEF X (.Call (.Name "list" p) [.Call (.Name "range" p') [a] [] pos'] [] pos) (fLRng1 g) := by
  refine PE.imp (pe_lrng1 hc hgL hmL hg hm ha hs hs2) ?_
  rintro σ H Q ⟨α, δ, L, A, S, z, L3, e, q⟩
  obtain ⟨⟨us, L1⟩, e1, e⟩ := Option.bind_eq_some_iff.mp e
  refine ⟨α, δ, L, A, S, us, L1, e1, fun xs H1 α1 g1 A1 r1 => ?_⟩
  simp only at e
  split at e
  · split at e
    · rename_i hj
      cases e
      obtain ⟨x, rfl, rx⟩ := r1.one
      unfold RepU at rx
      subst rx
      refine ⟨_, rfl, hj.1, hj.2, fun l hl => ?_⟩
      obtain ⟨g2, A2, r2⟩ := A1.lst (rng_rep (K := X.K) (H := H1) (α := α1) 0 _) hl
      exact q _ _ _ (g1.trans g2) A2 r2
    · cases e
  · cases e
end MR
set_option Elab.async false
set_option linter.all false
set_option maxRecDepth 100000
set_option maxHeartbeats 4000000
namespace MR
open PySem PyProof.Rows L2
theorem RepL.init {K : PySem.W.Frag} {H : Hp} {α : List Addr} : ∀ {us : List U} {xs : List V}, RepL K H α us xs → RepL K H α us.dropLast xs.dropLast
  | [], xs, r => by unfold RepL at r; subst r; exact .nil
  | [u], xs, r => by
    unfold RepL at r
    obtain ⟨x, xr, rfl, rx, r⟩ := r
    unfold RepL at r
    subst r
    exact .nil
  | u :: w :: us, xs, r => by
    unfold RepL at r
    obtain ⟨x, xr, rfl, rx, r⟩ := r
    have r' := r
    unfold RepL at r'
    obtain ⟨y, yr, rfl, ry, _⟩ := r'
    exact .cons rx (RepL.init r)
end MR
set_option Elab.async false
set_option linter.all false
set_option maxRecDepth 100000
set_option maxHeartbeats 4000000
namespace MR
open PySem PyProof.Rows L2
noncomputable def valU (kvs : List (Key × U)) (k : Key) : Option U := (kvs.find? fun kv => decide (kv.1 = k)).map (·.2)
noncomputable def putD (kvs : List (Key × U)) (k : Key) (v : U) : List (Key × U) :=
  if (kvs.any fun kv => decide (kv.1 = k)) = true then kvs.map (fun kv => if kv.1 = k then (kv.1, v) else kv) else kvs ++ [(k, v)]
section
variable {K : PySem.W.Frag} {H : Hp} {α : List Addr}
noncomputable def RepKV (K : PySem.W.Frag) (H : Hp) (α : List Addr) (kvs : List (Key × U)) (vs : List (Key × V)) : Prop := kvs.map (·.1) = vs.map (·.1) ∧ RepL K H α (kvs.map (·.2)) (vs.map (·.2))
theorem RepKV.nil : RepKV K H α [] [] := ⟨rfl, .nil⟩
theorem RepKV.cons {kv : Key × U} {kvs : List (Key × U)} {vs : List (Key × V)} (h : RepKV K H α (kv :: kvs) vs) : ∃ x vs', vs = (kv.1, x) :: vs' ∧ RepU K H α kv.2 x ∧ RepKV K H α kvs vs' := by
  obtain ⟨h1, h2⟩ := h
  cases vs with
  | nil => simp at h1
  | cons w vs' =>
    simp only [List.map_cons, List.cons.injEq] at h1
    rw [List.map_cons, List.map_cons] at h2
    unfold RepL at h2
    obtain ⟨x, xr, hx, rx, r⟩ := h2
    injection hx with e1 e2
    subst e1
    refine ⟨w.2, vs', by rw [h1.1], rx, h1.2, ?_⟩
    rw [e2]; exact r
theorem RepKV.mk {k : Key} {u : U} {x : V} {kvs : List (Key × U)} {vs : List (Key × V)} (r : RepU K H α u x) (h : RepKV K H α kvs vs) : RepKV K H α ((k, u) :: kvs) ((k, x) :: vs) :=
  ⟨by simp [h.1], by rw [List.map_cons, List.map_cons]; exact .cons r h.2⟩
theorem RepKV.val {k : Key} {u : U} : ∀ {kvs : List (Key × U)} {vs : List (Key × V)}, RepKV K H α kvs vs → valU kvs k = some u → ∃ x, valV vs k = some x ∧ RepU K H α u x
  | [], vs, _, e => by simp [valU] at e
  | kv :: kvs, vs, r, e => by
    obtain ⟨x, vs', rfl, rx, r'⟩ := r.cons
    unfold valU at e
    unfold valV
    rw [List.find?_cons] at e ⊢
    by_cases h : kv.1 = k
    · simp only [h, decide_true, Option.map_some] at e ⊢
      cases e
      exact ⟨x, rfl, rx⟩
    · simp only [h, decide_false] at e ⊢
      exact RepKV.val r' e
theorem RepKV.any {k : Key} : ∀ {kvs : List (Key × U)} {vs : List (Key × V)}, RepKV K H α kvs vs → (kvs.any fun kv => decide (kv.1 = k)) = (vs.any fun kv => decide (kv.1 = k))
  | [], vs, r => by
    obtain ⟨h1, _⟩ := r
    cases vs with
    | nil => rfl
    | cons _ _ => simp at h1
  | kv :: kvs, vs, r => by
    obtain ⟨x, vs', rfl, rx, r'⟩ := r.cons
    rw [List.any_cons, List.any_cons, RepKV.any r']
theorem RepKV.len {kvs : List (Key × U)} {vs : List (Key × V)} (r : RepKV K H α kvs vs) : kvs.length = vs.length := by
  have := congrArg List.length r.1
  simpa using this
theorem RepKV.upd {k : Key} {u : U} {x : V} (ru : RepU K H α u x) : ∀ {kvs : List (Key × U)} {vs : List (Key × V)}, RepKV K H α kvs vs → RepKV K H α (kvs.map fun kv => if kv.1 = k then (kv.1, u) else kv) (vs.map fun kv => if kv.1 = k then (kv.1, x) else kv)
  | [], vs, r => by
    obtain ⟨h1, _⟩ := r
    cases vs with
    | nil => exact .nil
    | cons _ _ => simp at h1
  | kv :: kvs, vs, r => by
    obtain ⟨y, vs', rfl, ry, r'⟩ := r.cons
    rw [List.map_cons, List.map_cons]
    by_cases h : kv.1 = k
    · rw [if_pos h, if_pos h]
      exact .mk ru (RepKV.upd ru r')
    · rw [if_neg h, if_neg h]
      exact .mk ry (RepKV.upd ru r')
theorem RepKV.add {k : Key} {u : U} {x : V} (ru : RepU K H α u x) : ∀ {kvs : List (Key × U)} {vs : List (Key × V)}, RepKV K H α kvs vs → RepKV K H α (kvs ++ [(k, u)]) (vs ++ [(k, x)])
  | [], vs, r => by
    obtain ⟨h1, _⟩ := r
    cases vs with
    | nil => exact .mk ru .nil
    | cons _ _ => simp at h1
  | kv :: kvs, vs, r => by
    obtain ⟨y, vs', rfl, ry, r'⟩ := r.cons
    exact .mk ry (RepKV.add ru r')
theorem RepKV.put {k : Key} {u : U} {x : V} {kvs : List (Key × U)} {vs : List (Key × V)} (ru : RepU K H α u x) (r : RepKV K H α kvs vs) : RepKV K H α (putD kvs k u) (putK vs k x) := by
  unfold putD putK
  rw [r.any]
  split
  · exact r.upd ru
  · exact r.add ru
theorem RepKV.mono {H' : Hp} {α' : List Addr} {kvs : List (Key × U)} {vs : List (Key × V)} (r : RepKV K H α kvs vs) (g : Gr H α H' α') : RepKV K H' α' kvs vs := ⟨r.1, r.2.mono g⟩
end
section
variable {X : Cx} {o i value : Expr} {pos pos' : Pos} {fo fi fv : FE}
end
end MR
set_option Elab.async false
set_option linter.all false
set_option maxRecDepth 100000
set_option maxHeartbeats 4000000
namespace MR
open PySem PyProof.Rows L2
theorem all0 {β : Type} {P : List β → Prop} (h : P []) (us : List β) (hl : us.length = 0) : P us := by
  cases us with
  | nil => exact h
  | cons => cases hl
theorem allS {β : Type} {n : Nat} {P : List β → Prop} (h : ∀ (a : β) (us : List β), us.length = n → P (a :: us)) (us : List β) (hl : us.length = n + 1) : P us := by
  cases us with
  | nil => cases hl
  | cons a us => exact h a us (Nat.succ.inj hl)
theorem all1 {β : Type} {P : List β → Prop} (h : ∀ a, P [a]) : ∀ us : List β, us.length = 1 → P us := allS fun a => all0 (h a)
theorem all2 {β : Type} {P : List β → Prop} (h : ∀ a b, P [a, b]) : ∀ us : List β, us.length = 2 → P us := allS fun a => all1 (h a)
theorem all3 {β : Type} {P : List β → Prop} (h : ∀ a b c, P [a, b, c]) : ∀ us : List β, us.length = 3 → P us := allS fun a => all2 (h a)
theorem all4 {β : Type} {P : List β → Prop} (h : ∀ a b c d, P [a, b, c, d]) : ∀ us : List β, us.length = 4 → P us := allS fun a => all3 (h a)
section
variable {X : Cx} {elts : List Expr} {x1 : Nat} {tpos : Pos}
end
end MR
set_option Elab.async false
set_option linter.all false
set_option maxRecDepth 100000
set_option maxHeartbeats 4000000
namespace MR
open PySem PySem.Spec PyProof.Rows L2
section
variable {X : Cx} {pins : List (Addr × Obj)} {σ : L2.St} {H H' : Hp} {s : Shared}
noncomputable def Thaw (H H' H2 : Hp) : Prop := ∀ b, H2 b = H' b ∨ ∃ o vs, H' b = some (.frz o (.dK vs)) ∧ H2 b = some (.dK vs) ∧ ∀ o u, H b ≠ some (.frz o u)
theorem Thaw.stay {H2 : Hp} (t : Thaw H H' H2) {b : Addr} {u : Option HO} (e : H' b = u) (n : ∀ o ks, u ≠ some (.frz o (.dK ks))) : H2 b = u := by
  rcases t b with z | ⟨o, vs, z, _⟩
  · rw [z]; exact e
  · rw [e] at z; exact absurd z (n _ _)
end
section
variable {K : PySem.W.Frag} {H H' : Hp} {α : List Addr}
mutual
theorem RepU.via (g : ∀ a xs, SqT K H a xs → SqT K H' a xs) : ∀ (u : U) (v : V), RepU K H α u v → RepU K H' α u v
  | .non, _, h => h
  | .bl _, _, h => h
  | .int _, _, h => h
  | .str _, _, h => h
  | .tup l, v, h => by
    unfold RepU at h ⊢
    obtain ⟨a, xs, e, s, r⟩ := h
    exact ⟨a, xs, e, g _ _ s, RepL.via g l xs r⟩
  | .ref n, v, h => by
    unfold RepU at h ⊢
    exact h
theorem RepL.via (g : ∀ a xs, SqT K H a xs → SqT K H' a xs) : ∀ (l : List U) (xs : List V), RepL K H α l xs → RepL K H' α l xs
  | [], xs, h => h
  | u :: l, xs, h => by
    unfold RepL at h ⊢
    obtain ⟨x, r, e, h1, h2⟩ := h
    exact ⟨x, r, e, RepU.via g u x h1, RepL.via g l r h2⟩
end
end
end MR
set_option Elab.async false
set_option linter.all false
set_option maxRecDepth 100000
set_option maxHeartbeats 4000000
namespace MR
open PySem PySem.Spec PyProof.Rows L2
structure DObj (P : Program) (w : World) (o : Obj) (kvs : List (Key × V)) (vs : List (Key × Value)) (ep : Nat) : Prop where
  rel : KV kvs vs
  at_ : ∀ (h : Heap) (d : Addr), h.get? d = some o → h.DictAt (mixKind P w) d vs ep
theorem KV.at_ : ∀ {kvs : List (Key × V)} {vs : List (Key × Value)} {i : Nat} {p : Key × Value}, KV kvs vs → vs[i]? = some p → ∃ q, kvs[i]? = some q ∧ q.1 = p.1 ∧ RelV q.2 p.2
  | _, _, i, p, .nil, e => by simp at e
  | _, _, 0, p, .cons r t, e => by simp at e; subst e; exact ⟨_, rfl, r⟩
  | _, _, i + 1, p, .cons r t, e => by simpa using KV.at_ (i := i) t (by simpa using e)
section
variable {P : Program} {w : World} {K : PySem.W.Frag} {d it : Addr} {o : Obj} {kvs : List (Key × V)} {vs : List (Key × Value)} {ep : Nat}
end
section
variable {X : Cx} {tg o e : Expr} {apos cpos : Pos} {td : TE}
structure M0 (X : Cx) (o : Expr) (m : Str) (apos cpos : Pos) : Prop where
  base : attributeBase o m X.env (eval o X.env) = eval o X.env
  few : ((backTo cpos (starEach [] X.env)).all (fun x => !x.1) && (backToKw cpos (keywordEach [] X.env)).all (fun x => x.1.isSome)
    && decide (([] : List Expr).length + ([] : List Keyword).length + (if ([] : List Keyword).isEmpty then 0 else 1) < 30)) = true
  line : (apos.endLine == cpos.line) = true
  trees : backTo cpos (starEach [] X.env) = []
end
section
variable {K : PySem.W.Frag} {H : Hp} {α : List Addr} {L : UH} {a : Addr} {ob : Obj}
end
section
variable {X : Cx} {tg o : Expr} {apos cpos : Pos} {fo : FE}
theorem find_any (k : Key) : ∀ kvs : List (Key × U), (kvs.find? fun kv => decide (kv.1 = k)).isSome = kvs.any fun kv => decide (kv.1 = k)
  | [] => rfl
  | kv :: kvs => by
    rw [List.find?_cons, List.any_cons]
    by_cases h : kv.1 = k
    · simp [h]
    · simp only [h, decide_false, Bool.false_or]
      exact find_any k kvs
theorem RepKV.some {K : PySem.W.Frag} {H : Hp} {α : List Addr} {kvs : List (Key × U)} {vs : List (Key × V)} (r : RepKV K H α kvs vs) (k : Key) : (valU kvs k).isSome = (valV vs k).isSome := by
  have h1 : (valU kvs k).isSome = kvs.any fun kv => decide (kv.1 = k) := by
    unfold valU
    rw [Option.isSome_map]
    exact find_any k kvs
  rw [h1, r.any, valV_any]
end
noncomputable def dropD (kvs : List (Key × U)) (k : Key) : List (Key × U) := kvs.filter fun kv => decide (kv.1 ≠ k)
theorem RepKV.drop {K : PySem.W.Frag} {H : Hp} {α : List Addr} (k : Key) : ∀ {kvs : List (Key × U)} {vs : List (Key × V)}, RepKV K H α kvs vs → RepKV K H α (dropD kvs k) (dropK vs k)
  | [], vs, r => by
    have := r.1
    cases vs with
    | nil => exact .nil
    | cons _ _ => simp at this
  | kv :: kvs, vs, r => by
    obtain ⟨x, vs', rfl, rx, r'⟩ := r.cons
    unfold dropD dropK
    rw [List.filter_cons, List.filter_cons]
    by_cases h : kv.1 = k
    · simp only [h, ne_eq, not_true_eq_false, decide_false, Bool.false_eq_true, if_false]
      exact RepKV.drop k r'
    · simp only [h, ne_eq, not_false_eq_true, decide_true, if_true]
      exact .mk rx (RepKV.drop k r')
end MR
set_option Elab.async false
set_option linter.all false
set_option maxRecDepth 100000
set_option maxHeartbeats 4000000
namespace MR
open PySem PySem.Spec PyProof.Rows PySem.Calls L2
section
variable {X : Cx}
end
end MR
namespace MR
open PySem PySem.Spec PyProof.Rows PySem.Calls L2
end MR
set_option Elab.async false
set_option linter.all false
set_option maxRecDepth 100000
set_option maxHeartbeats 4000000
namespace MR
open PySem PySem.Spec PyProof.Rows PySem.Calls L2
noncomputable def fmtOk (n : Int) : Bool := decide (-100000000000000000000 ≤ n) && decide (n ≤ 100000000000000000000)
theorem fmt_log {n : Int} (h : fmtOk n = true) : n.natAbs.log2 < 1920 := by
  unfold fmtOk at h
  simp only [Bool.and_eq_true, decide_eq_true_eq] at h
  have h1 : n.natAbs ≤ 100000000000000000000 := by omega
  by_cases h0 : n.natAbs = 0
  · rw [h0]; decide
  · rw [Nat.log2_lt h0]
    refine Nat.lt_of_le_of_lt h1 ?_
    have : (100000000000000000000 : Nat) < 2 ^ 100 := by decide
    exact Nat.lt_of_lt_of_le this (Nat.pow_le_pow_right (by decide) (by decide))
noncomputable def numT (n : Int) : Str := Str.ofString (toString n)
noncomputable def tFmt (t : TE) : TE := fun σ H Q => t σ H fun v H1 => (∃ x, v = .str x ∧ x.length ≤ sizeLine ∧ Q (.str x) H1) ∨ ∃ n, v = .int n ∧ fmtOk n = true ∧ Q (.str (numT n)) H1
section
variable {X : Cx}
theorem pe_fmt {e : Expr} {t : TE} {pos : Pos} (h : PE X e t) : PE X (.FormattedValue e (-1) none pos) (tFmt t) := by
  intro pins s σ H Q I q
  refine FormattedValue_plain (thn (h pins s σ H _ I q) fun v s1 ⟨x, H1, I1, r1, q1⟩ => ?_)
  rcases q1 with ⟨a, rfl, hl, q⟩ | ⟨n, rfl, hn, q⟩
  · obtain ⟨t', rfl⟩ := r1
    exact formatField_str (fun t'' tk => ⟨.str a, H1, I1.tok tk, ⟨_, rfl⟩, q⟩) hl
  · obtain ⟨t', rfl⟩ := r1
    exact formatField_int_small (fmt_log hn) ⟨.str (numT n), H1, I1.tok _, ⟨_, rfl⟩, q⟩
noncomputable def tJ : Str → List TE → L2.St → Hp → VK → Prop
  | out, [], _, H, Q => out.length ≤ sizeLine ∧ Q (.str out) H
  | out, t :: r, σ, H, Q => t σ H fun v H1 => ∃ x, v = .str x ∧ (out ++ x).length ≤ sizeLine ∧ tJ (out ++ x) r σ H1 Q
inductive PEs (X : Cx) : List Expr → List TE → Prop
  | nil : PEs X [] []
  | cons {e : Expr} {t : TE} {es : List Expr} {ts : List TE} (h : PE X e t) (r : PEs X es ts) : PEs X (e :: es) (t :: ts)
theorem join_walk {es : List Expr} {ts : List TE} (h : PEs X es ts) : ∀ (pins : List (Addr × Obj)) (s : Shared) (σ : L2.St) (H : Hp) (Q : VK) (out : Str), Inv X pins σ H s →
    tJ out ts σ H Q → wpAny (model X.prog X.w) X.A (joinParts out (evalEach es X.env)) (EP X pins σ Q) X.xe s := by
  induction h with
  | nil =>
    intro pins s σ H Q out I q
    obtain ⟨hl, q⟩ := q
    exact joinParts_nil ⟨.str out, H, I.tok _, ⟨_, rfl⟩, q⟩ hl
  | @cons e t es ts h r ih =>
    intro pins s σ H Q out I q
    show wpAny _ _ (joinParts out (eval e X.env :: evalEach es X.env)) _ _ _
    refine joinParts_cons (thn (h pins s σ H _ I q) fun v s1 ⟨x, H1, I1, r1, y, ey, hl, q1⟩ => ?_)
    subst ey
    obtain ⟨t', rfl⟩ := r1
    exact ⟨hl, ih pins s1 σ H1 Q (out ++ y) I1 q1⟩
theorem pe_joined {v1 v2 : Expr} {es : List Expr} {ts : List TE} {pos : Pos} (h : PEs X (v1 :: v2 :: es) ts) : PE X (.JoinedStr (v1 :: v2 :: es) pos) (tJ Str.empty ts) := fun pins s σ H Q I q =>
  JoinedStr_many (join_walk h pins s σ H Q Str.empty I q)
end
noncomputable def fFmt (f : FE) : FE := fun δ L => (f δ L).bind fun p => match p.1 with
  | .str x => if small x.length = true then some (.str x, p.2) else none
  | .int n => if fmtOk n = true then some (.str (numT n), p.2) else none
  | _ => none
theorem pf_fmt {X : Cx} {e : Expr} {f : FE} {pos : Pos} (h : PEF X e f) : PEF X (.FormattedValue e (-1) none pos) (fFmt f) := by
  refine PE.imp (pe_fmt h) ?_
  rintro σ H Q ⟨α, δ, L, A, S, z, L3, e, q⟩
  obtain ⟨⟨u, L1⟩, e1, e⟩ := Option.bind_eq_some_iff.mp e
  refine ⟨α, δ, L, A, S, u, L1, e1, fun x H1 α1 g1 A1 r1 => ?_⟩
  simp only at e
  split at e
  · split at e
    · rename_i hc
      cases e
      unfold RepU at r1
      subst r1
      exact .inl ⟨_, rfl, small_le hc, q _ _ _ g1 A1 (by unfold RepU; rfl)⟩
    · cases e
  · split at e
    · rename_i hc
      cases e
      unfold RepU at r1
      subst r1
      exact .inr ⟨_, rfl, hc, q _ _ _ g1 A1 (by unfold RepU; rfl)⟩
    · cases e
  · cases e
noncomputable def goJ : Str → List FE → UE → UH → Option (U × UH)
  | out, [], _, L => some (.str out, L)
  | out, f :: r, δ, L => (f δ L).bind fun p => match p.1 with
    | .str x => if small (out ++ x).length = true then goJ (out ++ x) r δ p.2 else none
    | _ => none
noncomputable def fJoined (fs : List FE) : FE := fun δ L => goJ Str.empty fs δ L
inductive PFs (X : Cx) : List Expr → List FE → Prop
  | nil : PFs X [] []
  | cons {e : Expr} {f : FE} {es : List Expr} {fs : List FE} (h : PEF X e f) (r : PFs X es fs) : PFs X (e :: es) (f :: fs)
theorem PFs.pes {X : Cx} {es : List Expr} {fs : List FE} (h : PFs X es fs) : PEs X es (fs.map (lE X.K)) := by
  induction h with
  | nil => exact .nil
  | cons h r ih => exact .cons h ih
theorem goJ_ok {K : PySem.W.Frag} : ∀ (fs : List FE) (out : Str) (σ : L2.St) (H : Hp) (Q : VK) (α : List Addr) (δ : UE) (L : UH) (z : U) (L3 : UH), Abs K H α L → RepS K H α δ σ → goJ out fs δ L = some (z, L3) → out.length ≤ sizeLine →
    (∀ v H' α', Gr H α H' α' → Abs K H' α' L3 → RepU K H' α' z v → Q v H') → tJ out (fs.map (lE K)) σ H Q
  | [], out, σ, H, Q, α, δ, L, z, L3, A, S, e, hl, q => by
    cases e
    exact ⟨hl, q _ H α (.refl _ _) A (by unfold RepU; rfl)⟩
  | f :: r, out, σ, H, Q, α, δ, L, z, L3, A, S, e, hl, q => by
    unfold goJ at e
    obtain ⟨⟨u, L1⟩, e1, e⟩ := Option.bind_eq_some_iff.mp e
    refine ⟨α, δ, L, A, S, u, L1, e1, fun x H1 α1 g1 A1 r1 => ?_⟩
    simp only at e
    split at e
    · split at e
      · rename_i x' hc
        unfold RepU at r1
        subst r1
        exact ⟨x', rfl, small_le hc, goJ_ok r (out ++ x') σ H1 Q α1 δ L1 z L3 A1 (S.mono g1) e (small_le hc) fun v H' α' g A' r' => q v H' α' (g1.trans g) A' r'⟩
      · cases e
    · cases e
theorem pf_joined {X : Cx} {v1 v2 : Expr} {es : List Expr} {fs : List FE} {pos : Pos} (h : PFs X (v1 :: v2 :: es) fs) : PEF X (.JoinedStr (v1 :: v2 :: es) pos) (fJoined fs) := by
  refine PE.imp (pe_joined h.pes) ?_
  rintro σ H Q ⟨α, δ, L, A, S, z, L3, e, q⟩
  exact goJ_ok fs Str.empty σ H Q α δ L z L3 A S e (Nat.zero_le _) q
end MR
set_option Elab.async false
set_option linter.all false
set_option maxRecDepth 100000
set_option maxHeartbeats 1000000
namespace SO
open PySem PySem.W PyProof.Rows
def On {α : Type} (n : Nat) (lt : Nat → Nat → Bool) (P : α → Prop) : KasT α → Prop
  | .ret a => P a
  | .ask i j k => i < n ∧ j < n ∧ On n lt P (k (lt i j))
theorem On.bind {α β : Type} {n : Nat} {lt : Nat → Nat → Bool} {P : α → Prop} {Q : β → Prop} {f : α → KasT β} (hf : ∀ a, P a → On n lt Q (f a)) : ∀ {t : KasT α}, On n lt P t → On n lt Q (t.bind f)
  | .ret a, h => hf a h
  | .ask i j k, h => ⟨h.1, h.2.1, On.bind hf h.2.2⟩
theorem On.imp {α : Type} {n : Nat} {lt : Nat → Nat → Bool} {P Q : α → Prop} (hf : ∀ a, P a → Q a) : ∀ {t : KasT α}, On n lt P t → On n lt Q t
  | .ret a, h => hf a h
  | .ask i j k, h => ⟨h.1, h.2.1, On.imp hf h.2.2⟩
theorem On.wp {α : Type} {n : Nat} {lt : Nat → Nat → Bool} {P : α → Prop} {cmp : Nat → Nat → (Bool → Shared → Prop) → Shared → Prop} {s : Shared} {Q : α → Shared → Prop} (hc : ∀ i j C, i < n → j < n → C (lt i j) s → cmp i j C s) (hq : ∀ a, P a → Q a s) : ∀ {t : KasT α}, On n lt P t → t.kasWp cmp Q s
  | .ret a, h => hq a h
  | .ask i j k, h => hc i j _ h.1 h.2.1 (On.wp hc hq h.2.2)
structure Wo (lt : Nat → Nat → Bool) : Prop where
  asym : ∀ i j, lt i j = true → lt j i = false
  tr : ∀ i j k, lt j i = false → lt k j = false → lt k i = false
section
variable {lt : Nat → Nat → Bool} {n : Nat}
def Le (lt : Nat → Nat → Bool) (i j : Nat) : Prop := lt j i = false
def Eqv (lt : Nat → Nat → Bool) (i j : Nat) : Prop := Le lt i j ∧ Le lt j i
theorem Wo.refl (W : Wo lt) (i : Nat) : Le lt i i := by
  unfold Le
  cases h : lt i i with
  | false => rfl
  | true => have := W.asym i i h; rw [h] at this; cases this
theorem Wo.le (W : Wo lt) {i j : Nat} (h : lt i j = true) : Le lt i j := W.asym i j h
theorem Wo.trans (W : Wo lt) {i j k : Nat} (h1 : Le lt i j) (h2 : Le lt j k) : Le lt i k := W.tr i j k h1 h2
def at0 (p : Array Nat) (i : Nat) : Nat := p.getD i 0
theorem at0_of {p q : Array Nat} {i j : Nat} (h : p[i]? = q[j]?) : at0 p i = at0 q j := by
  unfold at0
  rw [Array.getD_eq_getD_getElem?, Array.getD_eq_getD_getElem?, h]
structure Pm (n : Nat) (p : Array Nat) : Prop where
  size : p.size = n
  perm : p.toList.Perm (List.range n)
theorem Pm.bd {p : Array Nat} (h : Pm n p) (h0 : 0 < n) (i : Nat) : at0 p i < n := by
  unfold at0
  rw [Array.getD_eq_getD_getElem?]
  cases hi : p[i]? with
  | none => exact h0
  | some x =>
    have : x ∈ p.toList := by
      rw [← Array.getElem?_toList] at hi
      exact List.mem_of_getElem? hi
    exact List.mem_range.mp (h.perm.mem_iff.mp this)
def Up (lt : Nat → Nat → Bool) (p : Array Nat) (k : Nat) : Prop := ∀ i j, i ≤ j → j < k → Le lt (at0 p i) (at0 p j)
def Dn (lt : Nat → Nat → Bool) (p : Array Nat) (k : Nat) : Prop := ∀ i j, i ≤ j → j < k → Le lt (at0 p j) (at0 p i)
theorem Up.one (W : Wo lt) (p : Array Nat) : Up lt p 1 := fun i j h1 h2 => by
  have : i = j := by omega
  subst this; exact W.refl _
theorem Up.snoc (W : Wo lt) {p : Array Nat} {m : Nat} (h : Up lt p m) (hm : 1 ≤ m) (hl : Le lt (at0 p (m - 1)) (at0 p m)) : Up lt p (m + 1) := fun i j h1 h2 => by
  by_cases hj : j < m
  · exact h i j h1 hj
  · have hj : j = m := by omega
    subst hj
    by_cases hi : i = j
    · subst hi; exact W.refl _
    · exact W.trans (h i (j - 1) (by omega) (by omega)) hl
theorem Dn.snoc (W : Wo lt) {p : Array Nat} {m : Nat} (h : Dn lt p m) (hm : 1 ≤ m) (hl : Le lt (at0 p m) (at0 p (m - 1))) : Dn lt p (m + 1) := fun i j h1 h2 => by
  by_cases hj : j < m
  · exact h i j h1 hj
  · have hj : j = m := by omega
    subst hj
    by_cases hi : i = j
    · subst hi; exact W.refl _
    · exact W.trans hl (h i (j - 1) (by omega) (by omega))
theorem rev_at {p : Array Nat} {i j : Nat} (hj : j ≤ p.size) (k : Nat) : at0 (kas_rev p i j) k = if i ≤ k ∧ k < j then at0 p (i + j - 1 - k) else at0 p k := by
  have h := getElem?_mirror_all (xs := p) (i := i) hj k
  unfold kas_rev
  split
  · rename_i hc; rw [if_pos hc] at h; exact at0_of h
  · rename_i hc; rw [if_neg hc] at h; exact at0_of h
theorem Pm.rev {p : Array Nat} (h : Pm n p) (i j : Nat) : Pm n (kas_rev p i j) := ⟨by unfold kas_rev; rw [mirror_size]; exact h.size, (mirror_perm p i j _).toList.trans h.perm⟩
theorem Pm.bub {p : Array Nat} (h : Pm n p) (i j : Nat) : Pm n (bubble p i j) := ⟨by rw [bubble_size]; exact h.size, (bubble_perm p i j).toList.trans h.perm⟩
theorem bub_at {p : Array Nat} {k l : Nat} (hk : k < p.size) (hl : l ≤ k) (i : Nat) : at0 (bubble p k (k - l)) i = if i = l then at0 p k else if l < i ∧ i ≤ k then at0 p (i - 1) else at0 p i := by
  have h := getElem?_bubble (xs := p) hk (k - l) (by omega) i
  have e : k - (k - l) = l := by omega
  rw [e] at h
  split
  · rename_i hc; rw [if_pos hc] at h; exact at0_of h
  · rename_i hc
    rw [if_neg hc] at h
    split
    · rename_i hd; rw [if_pos hd] at h; exact at0_of h
    · rename_i hd; rw [if_neg hd] at h; exact at0_of h
theorem asc_on (W : Wo lt) {p : Array Nat} {nrem : Nat} (h0 : 0 < n) (hp : Pm n p) : ∀ (f m : Nat), 1 ≤ m → m + f = nrem → Up lt p m → On n lt (fun m' => m ≤ m' ∧ m' ≤ nrem ∧ Up lt p m' ∧ (m' = nrem ∨ lt (at0 p m') (at0 p (m' - 1)) = true)) (kas_asc p f m)
  | 0, m, h1, hf, hu => ⟨Nat.le_refl _, by omega, hu, .inl (by omega)⟩
  | f + 1, m, h1, hf, hu => by
    refine ⟨hp.bd h0 _, hp.bd h0 _, ?_⟩
    show On n lt _ (if lt (at0 p m) (at0 p (m - 1)) = true then KasT.ret m else kas_asc p f (m + 1))
    cases hl : lt (at0 p m) (at0 p (m - 1)) with
    | true => exact ⟨Nat.le_refl _, by omega, hu, .inr hl⟩
    | false =>
      exact (asc_on W h0 hp f (m + 1) (by omega) (by omega) (hu.snoc W h1 hl)).imp fun m' ⟨a, b, c⟩ => ⟨by omega, b, c⟩
def Tl (lt : Nat → Nat → Bool) (p : Array Nat) (m q : Nat) : Prop := ∀ i, m - (q + 1) ≤ i → i < m → Eqv lt (at0 p i) (at0 p (m - 1))
theorem Tl.rev (W : Wo lt) {p : Array Nat} {m q : Nat} (h : Tl lt p m q) (hq : q < m) (hm : m ≤ p.size) (k : Nat) : Eqv lt (at0 (kas_rev p (m - (q + 1)) m) k) (at0 p k) := by
  rw [rev_at hm]
  split
  · rename_i hc
    have a := h (m - (q + 1) + m - 1 - k) (by omega) (by omega)
    have b := h k hc.1 hc.2
    exact ⟨W.trans a.1 b.2, W.trans b.1 a.2⟩
  · exact ⟨W.refl _, W.refl _⟩
theorem Dn.eqv (W : Wo lt) {p p' : Array Nat} {m : Nat} (h : Dn lt p m) (he : ∀ k, Eqv lt (at0 p' k) (at0 p k)) : Dn lt p' m := fun i j h1 h2 => W.trans (he j).1 (W.trans (h i j h1 h2) (he i).2)
theorem desc_on (W : Wo lt) {nrem : Nat} (h0 : 0 < n) (hz : nrem ≤ n) : ∀ (f : Nat) (p : Array Nat) (m q : Nat), Pm n p → 1 ≤ m → m + f = nrem → Dn lt p m → q < m → Tl lt p m q →
    On n lt (fun r => Pm n r.1 ∧ 1 ≤ r.2.1 ∧ r.2.1 ≤ nrem ∧ Dn lt r.1 r.2.1 ∧ r.2.2 < r.2.1 ∧ Tl lt r.1 r.2.1 r.2.2) (kas_desc f p m q)
  | 0, p, m, q, hp, h1, hf, hd, hq, ht => ⟨hp, h1, (by show m ≤ nrem; omega), hd, hq, ht⟩
  | f + 1, p, m, q, hp, h1, hf, hd, hq, ht => by
    refine ⟨hp.bd h0 _, hp.bd h0 _, ?_⟩
    show On n lt _ (if lt (at0 p m) (at0 p (m - 1)) = true then _ else _)
    have tl0 : ∀ p' : Array Nat, Tl lt p' (m + 1) 0 := fun p' i i1 i2 => by
      have : i = m := by omega
      subst this
      rw [Nat.add_sub_cancel]; exact ⟨W.refl _, W.refl _⟩
    cases hl : lt (at0 p m) (at0 p (m - 1)) with
    | true =>
      have hms : m ≤ p.size := by rw [hp.size]; omega
      rw [if_pos rfl]
      by_cases hq0 : q > 0
      · rw [if_pos hq0]
        have he := ht.rev W hq hms
        have hm' : at0 (kas_rev p (m - (q + 1)) m) m = at0 p m := by rw [rev_at hms, if_neg (by omega)]
        have hd' := (hd.eqv W he).snoc W h1 (by rw [hm']; exact W.trans (W.le hl) (he (m - 1)).2)
        exact desc_on W h0 hz f _ (m + 1) 0 (hp.rev _ _) (by omega) (by omega) hd' (by omega) (tl0 _)
      · rw [if_neg hq0]
        exact desc_on W h0 hz f p (m + 1) 0 hp (by omega) (by omega) (hd.snoc W h1 (W.le hl)) (by omega) (tl0 _)
    | false =>
      rw [if_neg (by simp)]
      refine ⟨hp.bd h0 _, hp.bd h0 _, ?_⟩
      show On n lt _ (if lt (at0 p (m - 1)) (at0 p m) = true then _ else _)
      cases hl2 : lt (at0 p (m - 1)) (at0 p m) with
      | true => rw [if_pos rfl]; exact ⟨hp, h1, (by show m ≤ nrem; omega), hd, hq, ht⟩
      | false =>
        rw [if_neg (by simp)]
        refine desc_on W h0 hz f p (m + 1) (q + 1) hp (by omega) (by omega) (hd.snoc W h1 hl2) (by omega) fun i i1 i2 => ?_
        rw [Nat.add_sub_cancel]
        by_cases hi : i = m
        · subst hi; exact ⟨W.refl _, W.refl _⟩
        · have a := ht i (by omega) (by omega)
          exact ⟨W.trans a.1 hl, W.trans hl2 a.2⟩
theorem tail_on (W : Wo lt) {m nrem : Nat} {p : Array Nat} (h0 : 0 < n) (hz : nrem ≤ n) (hp : Pm n p) (h1 : 1 ≤ m) (hm : m ≤ nrem) (hd : Dn lt p m) : On n lt (fun r => Pm n r.2 ∧ 1 ≤ r.1 ∧ r.1 ≤ nrem ∧ Up lt r.2 r.1) (kas_tail3 m nrem p) := by
  have hms : m ≤ p.size := by rw [hp.size]; omega
  have hu : Up lt (kas_rev p 0 m) m := fun i j i1 i2 => by
    rw [rev_at hms, rev_at hms, if_pos (by omega), if_pos (by omega)]
    exact hd _ _ (by omega) (by omega)
  unfold kas_tail3
  exact On.bind (fun a ⟨a1, a2, a3, _⟩ => ⟨hp.rev _ _, by omega, a2, a3⟩) (asc_on (nrem := nrem) W h0 (hp.rev 0 m) (nrem - m) m h1 (by omega) hu)
theorem descPart_on (W : Wo lt) {m nrem : Nat} {p : Array Nat} (h0 : 0 < n) (hz : nrem ≤ n) (hp : Pm n p) (hm : m + 1 ≤ nrem) (hd : Dn lt p (m + 1)) : On n lt (fun r => Pm n r.2 ∧ 1 ≤ r.1 ∧ r.1 ≤ nrem ∧ Up lt r.2 r.1) (kas_descPart m nrem p) := by
  unfold kas_descPart
  have tl0 : Tl lt p (m + 1) 0 := fun i i1 i2 => by
    have : i = m := by omega
    subst this
    rw [Nat.add_sub_cancel]; exact ⟨W.refl _, W.refl _⟩
  refine On.bind (fun r ⟨a1, a2, a3, a4, a5, a6⟩ => ?_) (desc_on W h0 hz (nrem - (m + 1)) p (m + 1) 0 hp (by omega) (by omega) hd (by omega) tl0)
  have hms : r.2.1 ≤ r.1.size := by rw [a1.size]; omega
  split
  · exact tail_on W h0 hz (a1.rev _ _) a2 a3 (a4.eqv W (a6.rev W a5 hms))
  · exact tail_on W h0 hz a1 a2 a3 a4
theorem count_on (W : Wo lt) {nrem : Nat} {p : Array Nat} (h0 : 0 < n) (hz : nrem ≤ n) (h1 : 1 ≤ nrem) (hp : Pm n p) : On n lt (fun r => Pm n r.2 ∧ 1 ≤ r.1 ∧ r.1 ≤ nrem ∧ Up lt r.2 r.1) (kas_count nrem p) := by
  unfold kas_count
  refine On.bind (fun m ⟨a1, a2, a3, a4⟩ => ?_) (asc_on (nrem := nrem) W h0 hp (nrem - 1) 1 (Nat.le_refl _) (by omega) (Up.one W p))
  by_cases hm : (m == nrem) = true
  · rw [if_pos hm]; exact ⟨hp, by omega, a2, a3⟩
  · rw [if_neg hm]
    have hne : m ≠ nrem := by simpa using hm
    have hlt : lt (at0 p m) (at0 p (m - 1)) = true := a4.resolve_left hne
    by_cases hm1 : m > 1
    · rw [if_pos hm1]
      refine ⟨hp.bd h0 _, hp.bd h0 _, ?_⟩
      show On n lt _ (if lt (at0 p 0) (at0 p (m - 1)) = true then _ else _)
      cases hl : lt (at0 p 0) (at0 p (m - 1)) with
      | true => rw [if_pos rfl]; exact ⟨hp, by omega, a2, a3⟩
      | false =>
        rw [if_neg (by simp)]
        have hms : m ≤ p.size := by rw [hp.size]; omega
        have hall : ∀ i j, i < m → j < m → Le lt (at0 p i) (at0 p j) := fun i j i1 j1 => W.trans (a3 i (m - 1) (by omega) (by omega)) (W.trans hl (a3 0 j (by omega) j1))
        refine descPart_on W h0 hz (hp.rev 0 m) (by omega) ?_
        have hd : Dn lt (kas_rev p 0 m) m := fun i j i1 i2 => by
          rw [rev_at hms, rev_at hms, if_pos (by omega), if_pos (by omega)]
          exact hall _ _ (by omega) (by omega)
        refine hd.snoc W (by omega) ?_
        rw [rev_at hms, rev_at hms, if_neg (by omega), if_pos (by omega)]
        exact W.trans (W.le hlt) (hall _ _ (by omega) (by omega))
    · rw [if_neg hm1]
      have : m = 1 := by omega
      subst this
      refine descPart_on W h0 hz hp (by omega) ?_
      have hd : Dn lt p 1 := fun i j h1 h2 => by
        have : i = j := by omega
        subst this; exact W.refl _
      exact hd.snoc W (Nat.le_refl _) (W.le hlt)
theorem place_on (W : Wo lt) {p : Array Nat} {k : Nat} (h0 : 0 < n) (hp : Pm n p) (hu : Up lt p k) : ∀ (f l r : Nat), l ≤ r → r ≤ k → r - l ≤ f → (∀ i, i < l → Le lt (at0 p i) (at0 p k)) → (∀ i, r ≤ i → i < k → Le lt (at0 p k) (at0 p i)) →
    On n lt (fun l' => l' ≤ k ∧ (∀ i, i < l' → Le lt (at0 p i) (at0 p k)) ∧ ∀ i, l' ≤ i → i < k → Le lt (at0 p k) (at0 p i)) (kas_place p k f l r)
  | 0, l, r, h1, h2, h3, h4, h5 => ⟨by omega, h4, fun i i1 i2 => h5 i (by omega) i2⟩
  | f + 1, l, r, h1, h2, h3, h4, h5 => by
    unfold kas_place
    by_cases hlr : l ≥ r
    · rw [if_pos hlr]; exact ⟨by omega, h4, fun i i1 i2 => h5 i (by omega) i2⟩
    · rw [if_neg hlr]
      refine ⟨hp.bd h0 _, hp.bd h0 _, ?_⟩
      show On n lt _ (if lt (at0 p k) (at0 p ((l + r) / 2)) = true then _ else _)
      cases hl : lt (at0 p k) (at0 p ((l + r) / 2)) with
      | true =>
        rw [if_pos rfl]
        exact place_on W h0 hp hu f l ((l + r) / 2) (by omega) (by omega) (by omega) h4 fun i i1 i2 => W.trans (W.le hl) (hu _ _ i1 i2)
      | false =>
        rw [if_neg (by simp)]
        exact place_on W h0 hp hu f ((l + r) / 2 + 1) r (by omega) h2 (by omega) (fun i i1 => W.trans (hu i ((l + r) / 2) (by omega) (by omega)) hl) h5
theorem bin_on (W : Wo lt) (h0 : 0 < n) : ∀ (f : Nat) (p : Array Nat) (k : Nat), Pm n p → Up lt p k → k + f = n → On n lt (fun p' => Pm n p' ∧ Up lt p' n) (kas_bin f p k)
  | 0, p, k, hp, hu, hk => ⟨hp, (show k = n by omega) ▸ hu⟩
  | f + 1, p, k, hp, hu, hk => by
    unfold kas_bin
    refine On.bind (fun l ⟨a1, a2, a3⟩ => ?_) (place_on W h0 hp hu k 0 k (by omega) (Nat.le_refl _) (by omega) (fun i h => by omega) fun i h1 h2 => by omega)
    have hks : k < p.size := by rw [hp.size]; omega
    refine bin_on W h0 f _ (k + 1) (hp.bub _ _) (fun i j i1 i2 => ?_) (by omega)
    rw [bub_at hks a1, bub_at hks a1]
    by_cases hi : i = l
    · rw [if_pos hi]
      by_cases hj : j = l
      · rw [if_pos hj]; exact W.refl _
      · rw [if_neg hj, if_pos (by omega)]; exact a3 _ (by omega) (by omega)
    · rw [if_neg hi]
      by_cases hi2 : l < i ∧ i ≤ k
      · rw [if_pos hi2, if_neg (by omega), if_pos (by omega)]
        exact hu _ _ (by omega) (by omega)
      · rw [if_neg hi2]
        by_cases hj : j = l
        · rw [if_pos hj]; exact a2 _ (by omega)
        · rw [if_neg hj]
          by_cases hj2 : l < j ∧ j ≤ k
          · rw [if_pos hj2]; exact hu _ _ (by omega) (by omega)
          · rw [if_neg hj2]; exact hu _ _ i1 (by omega)
theorem sort_on (W : Wo lt) (h0 : 0 < n) : On n lt (fun p => Pm n p ∧ Up lt p n) (kas_sort n) := by
  unfold kas_sort
  have hp : Pm n (List.toArray (List.range n)) := ⟨by simp, by simp⟩
  refine On.bind (fun r ⟨a1, a2, a3, a4⟩ => ?_) (count_on W h0 (Nat.le_refl n) h0 hp)
  by_cases hr : r.1 < n
  · rw [if_pos hr]
    have hm : max r.1 1 = r.1 := by omega
    rw [hm]
    exact bin_on W h0 _ _ _ a1 a4 (by omega)
  · rw [if_neg hr]
    have : r.1 = n := by omega
    exact ⟨a1, by rw [← this]; exact a4⟩
end
end SO
set_option Elab.async false
set_option linter.all false
set_option maxRecDepth 100000
set_option maxHeartbeats 1000000
namespace SO
open PySem PySem.W PySem.Calls PyProof.Rows
section
variable {P : Program} {w : World} {A : Around} {E : Value → Shared → Prop} {s : Shared} {vs : List Value} {lt : Nat → Nat → Bool} {κ : SortKind}
def Kb (a : Addr) (h h' : Heap) : Prop := ∀ b o, b ≠ a → h.get? b = some o → h'.get? b = some o
theorem Kb.trans {a : Addr} {h h1 h2 : Heap} (x : Kb a h h1) (y : Kb a h1 h2) : Kb a h h2 := fun b o hb e => y b o hb (x b o hb e)
theorem kb_upd (h : Heap) (a : Addr) (f : Obj → Obj) : Kb a h (h.update a f) := fun b o hb e => ((Heap.SameBut.update h a f).2 b hb).trans e
def outV (vs : List Value) (p : Array Nat) : List Value := p.toList.map fun i => vs.getD i Value.none
theorem outV_range (vs : List Value) : outV vs (List.toArray (List.range vs.length)) = vs := by
  unfold outV
  apply List.ext_getElem
  · simp
  · intro i h1 h2
    simp [h2]
end
end SO
set_option Elab.async false
set_option linter.all false
set_option maxRecDepth 100000
set_option maxHeartbeats 4000000
namespace MR
open PySem PySem.Spec PyProof.Rows PySem.Calls L2 SO
noncomputable def ltT : List Int → List Int → Bool
  | _, [] => false
  | [], _ :: _ => true
  | a :: x, b :: y => if a == b then ltT x y else decide (a < b)
theorem ltT_asym : ∀ x y : List Int, ltT x y = true → ltT y x = false
  | x, [], h => by unfold ltT at h; cases h
  | [], b :: y, _ => by simp [ltT]
  | a :: x, b :: y, h => by
    unfold ltT at h ⊢
    by_cases e : a = b
    · subst e
      simp only [beq_self_eq_true, if_true] at h ⊢
      exact ltT_asym x y h
    · have h1 : (a == b) = false := by simpa using e
      have h2 : (b == a) = false := by simpa using fun q => e q.symm
      simp only [h1, h2, Bool.false_eq_true, if_false, decide_eq_true_eq] at h ⊢
      simp only [decide_eq_false_iff_not]; omega
theorem ltT_tr : ∀ x y z : List Int, ltT y x = false → ltT z y = false → ltT z x = false
  | [], _, z, _, _ => by unfold ltT; rfl
  | a :: x, [], z, h, _ => by simp [ltT] at h
  | a :: x, b :: y, [], _, h => by simp [ltT] at h
  | a :: x, b :: y, c :: z, h1, h2 => by
    unfold ltT at h1 h2 ⊢
    by_cases e1 : b = a
    · subst e1
      simp only [beq_self_eq_true, if_true] at h1
      by_cases e2 : c = b
      · subst e2
        simp only [beq_self_eq_true, if_true] at h2 ⊢
        exact ltT_tr x y z h1 h2
      · have q : (c == b) = false := by simpa using e2
        simp only [q, Bool.false_eq_true, if_false] at h2 ⊢
        exact h2
    · have q1 : (b == a) = false := by simpa using e1
      simp only [q1, Bool.false_eq_true, if_false, decide_eq_false_iff_not] at h1
      by_cases e2 : c = b
      · subst e2
        simp only [q1, Bool.false_eq_true, if_false, decide_eq_false_iff_not]; exact h1
      · have q2 : (c == b) = false := by simpa using e2
        simp only [q2, Bool.false_eq_true, if_false, decide_eq_false_iff_not] at h2
        have e3 : c ≠ a := by omega
        have q3 : (c == a) = false := by simpa using e3
        simp only [q3, Bool.false_eq_true, if_false, decide_eq_false_iff_not]; omega
theorem ltT_anti : ∀ x y : List Int, ltT x y = false → ltT y x = false → x = y
  | [], [], _, _ => rfl
  | a :: x, [], _, h => by simp [ltT] at h
  | [], b :: y, h, _ => by simp [ltT] at h
  | a :: x, b :: y, h1, h2 => by
    unfold ltT at h1 h2
    by_cases e : a = b
    · subst e
      simp only [beq_self_eq_true, if_true] at h1 h2
      rw [ltT_anti x y h1 h2]
    · have q1 : (a == b) = false := by simpa using e
      have q2 : (b == a) = false := by simpa using fun q => e q.symm
      simp only [q1, q2, Bool.false_eq_true, if_false, decide_eq_false_iff_not] at h1 h2
      omega
noncomputable def leT (x y : List Int) : Prop := ltT y x = false
theorem sort_same : ∀ {a b : List (List Int)}, a.Perm b → a.Pairwise leT → b.Pairwise leT → a = b
  | [], b, p, _, _ => p.nil_eq
  | x :: r, [], p, _, _ => absurd p.length_eq (by simp)
  | x :: r, y :: t, p, ha, hb => by
    have hx : x ∈ y :: t := p.mem_iff.mp (List.mem_cons_self ..)
    have hy : y ∈ x :: r := p.mem_iff.mpr (List.mem_cons_self ..)
    have e : x = y := by
      rcases List.mem_cons.mp hx with h | h
      · exact h
      · rcases List.mem_cons.mp hy with h' | h'
        · exact h'.symm
        · exact ltT_anti x y ((List.pairwise_cons.mp hb).1 x h) ((List.pairwise_cons.mp ha).1 y h')
    subst e
    rw [sort_same p.cons_inv (List.pairwise_cons.mp ha).2 (List.pairwise_cons.mp hb).2]
inductive Tups (K : PySem.W.Frag) (H : Hp) : List (List Int) → List V → Prop
  | nil : Tups K H [] []
  | cons {a : Addr} {n : Int} {t : List Int} {ts : List (List Int)} {ys : List V} (h : SqT K H a ((n :: t).map V.int)) (r : Tups K H ts ys) : Tups K H ((n :: t) :: ts) (.ref a :: ys)
theorem Tups.len {K : PySem.W.Frag} {H : Hp} {ts : List (List Int)} {ys : List V} (r : Tups K H ts ys) : ts.length = ys.length := by
  induction r with
  | nil => rfl
  | cons h r ih => simp [ih]
theorem Tups.at_ {K : PySem.W.Frag} {H : Hp} {ts : List (List Int)} {ys : List V} (r : Tups K H ts ys) : ∀ i, i < ts.length → ∃ (a : Addr) (n : Int) (t : List Int), ts[i]? = some (n :: t) ∧ ys[i]? = some (.ref a) ∧ SqT K H a ((n :: t).map V.int) := by
  induction r with
  | nil => intro i h; simp at h
  | @cons a n t ts ys h r ih =>
    intro i hi
    cases i with
    | zero => exact ⟨a, n, t, rfl, rfl, h⟩
    | succ i => simpa using ih i (by simpa using hi)
theorem lex_ok {P : Program} {w : World} {A : Around} {b fin : Bool} {s : Shared} {Q : Bool → Shared → Prop} : ∀ (ns ms : List Int) (xs ys : List Value) (i : Nat), Vals (ns.map V.int) xs → Vals (ms.map V.int) ys → fin = decide (ns.length < ms.length) → Q (ltT ns ms) s → PySem.W.KatLex P w A b fin Q (xs.zip ys) i s
  | [], ms, xs, ys, i, rx, ry, hf, q => by
    rw [List.map_nil] at rx; cases rx
    rw [List.zip_nil_left]
    refine PySem.W.kat_nil ?_
    rw [hf]
    cases ms with
    | nil => exact q
    | cons m ms => simpa [ltT] using q
  | n :: ns, [], xs, ys, i, rx, ry, hf, q => by
    rw [List.map_nil] at ry; cases ry
    rw [List.zip_nil_right]
    refine PySem.W.kat_nil ?_
    rw [hf]
    simpa [ltT] using q
  | n :: ns, m :: ms, xs, ys, i, rx, ry, hf, q => by
    rw [List.map_cons] at rx ry
    cases rx with
    | cons r1 r2 =>
      cases ry with
      | cons s1 s2 =>
        obtain ⟨t, rfl⟩ := r1
        obtain ⟨u, rfl⟩ := s1
        rw [List.zip_cons_cons]
        refine PySem.W.kat_cons (PySem.wpAny_eqBool_int ?_)
        unfold ltT at q
        cases e : (n == m) with
        | true =>
          rw [e, if_pos rfl] at q
          exact PySem.W.kat_yes (lex_ok ns ms _ _ (i + 1) r2 s2 (by rw [hf]; simp) q)
        | false =>
          rw [e, if_neg (by simp)] at q
          refine PySem.W.kat_no ?_
          cases (b && i == 0) with
          | true => exact oneLt_int q
          | false => exact PySem.W.kat_one _ _ (lt_int q)
section
variable {X : Cx}
end
noncomputable def toTI : U → Option (List Int)
  | .tup l => mapO toI l
  | _ => none
noncomputable def tupI (l : List Int) : U := .tup (l.map U.int)
theorem toTI_eq : ∀ {us : List U} {ts : List (List Int)}, mapO toTI us = some ts → us = ts.map tupI
  | [], ts, e => by simp only [mapO] at e; cases e; rfl
  | u :: us, ts, e => by
    simp only [mapO] at e
    obtain ⟨t, e1, e⟩ := Option.bind_eq_some_iff.mp e
    obtain ⟨tr, e2, e⟩ := Option.map_eq_some_iff.mp e
    subst e
    rw [List.map_cons, toTI_eq e2]
    congr 1
    cases u with
    | tup l =>
      have : ∀ (l : List U) (t : List Int), mapO toI l = some t → l = t.map U.int := by
        intro l
        induction l with
        | nil => intro t e; simp only [mapO] at e; cases e; rfl
        | cons a l ih =>
          intro t e
          simp only [mapO] at e
          obtain ⟨x, x1, e⟩ := Option.bind_eq_some_iff.mp e
          obtain ⟨y, y1, e⟩ := Option.map_eq_some_iff.mp e
          subst e
          rw [List.map_cons, ← ih y y1]
          cases a <;> first | (cases x1; rfl) | cases x1
      unfold tupI
      rw [this l t e1]
    | _ => cases e1
end MR
set_option Elab.async false
set_option linter.all false
set_option maxRecDepth 100000
set_option maxHeartbeats 4000000
namespace SO
open PySem PySem.W PyProof.Rows
def runK {α : Type} (lt : Nat → Nat → Bool) : KasT α → α
  | .ret a => a
  | .ask i j k => runK lt (k (lt i j))
theorem On.run {α : Type} {n : Nat} {lt : Nat → Nat → Bool} {P : α → Prop} : ∀ {t : KasT α}, On n lt P t → On n lt (fun a => a = runK lt t) t
  | .ret a, h => rfl
  | .ask i j k, h => ⟨h.1, h.2.1, On.run h.2.2⟩
theorem On.holds {α : Type} {n : Nat} {lt : Nat → Nat → Bool} {P : α → Prop} : ∀ {t : KasT α}, On n lt P t → P (runK lt t)
  | .ret a, h => h
  | .ask i j k, h => by
    show P (runK lt (k (lt i j)))
    exact On.holds h.2.2
def sortN (lt : Nat → Nat → Bool) (n : Nat) : List Nat := if n < 2 then List.range n else (runK lt (kas_sort n)).toList
theorem sortN_perm {n : Nat} {lt : Nat → Nat → Bool} (W : Wo lt) : (sortN lt n).Perm (List.range n) := by
  unfold sortN
  split
  · exact .refl _
  · exact (sort_on (n := n) W (by omega)).holds.1.perm
end SO
namespace MR
open PySem PySem.Spec PyProof.Rows PySem.Calls L2 SO
section
variable {X : Cx} {pins : List (Addr × Obj)} {σ : L2.St} {H : Hp} {s : Shared} {h' : Heap}
theorem Inv.adopt {a : Addr} {o : HO} {t' : Nat} (I : L2.Inv X pins σ H s) (hf : FpOk X pins H a) (k : ∀ b o, b ≠ a → s.heap.get? b = some o → h'.get? b = some o) (new : ObjOk X.prog X.w (upd H a o) h' a o) :
    L2.Inv X pins σ (upd H a o) { s with heap := h', toks := t' } := by
  have hn : H a = none := hf.1
  have na : ∀ b u, H b = some u → b ≠ a := fun b u e z => by rw [z, hn] at e; cases e
  have st := Stay.new hn o
  refine I.step (g' := s.gens) (d' := s.drawn) (ch := [a]) (fun b hb => ?_) (fun b o _ _ hc e _ => k b o (fun z => hc (by simp [z])) e) (fun b o _ _ hc e _ => ⟨o.slots, k b o (fun z => hc (by simp [z])) e⟩) (fun b u hc e n => ?_) (fun b u hc e => ⟨u, k b u (fun z => hc (by simp [z])) e⟩) st.1 st.2 (fun b ps e => ⟨#[], ?_⟩) (fun m hm => ?_) (fun b u e => ?_) I.bare
  · have e : b = a := by simpa using hb
    subst e
    obtain ⟨_, f1, _, f3, f4, f5⟩ := hf
    exact ⟨f3, f1, f4, f5⟩
  · rw [upd_ne (fun z => hc (by simp [z]))]; exact n
  · rw [upd_ne (na b _ e), e]; simp
  · obtain ⟨o1, es, ep, ho, r⟩ := hm
    exact ⟨o1, es, ep, k _ o1 (Ne.symm hf.2.1) ho, r⟩
  · by_cases hb : b = a
    · subst hb; rw [upd_same] at e; cases e; exact new
    · rw [upd_ne hb] at e
      refine (I.hok b u e).stay (fun c v hc q => k c v ?_ q) (fun c q => by rw [upd_ne (na c _ q)]; exact q) fun c xs q => by rw [upd_ne (na c _ q)]; exact q
      rcases hc with z | z
      · rw [z]; exact hb
      · exact na c _ z
theorem run_key {A : Around} {k : Nat} {f : Addr} {fd : FuncData} {p : Str} {m : FN} (F : FnOk X.prog X.w X.K X.mg X.base CX0 k f fd [p] (spF X.K 1 m)) (hr : Room k A) (hA : A.frames = X.A.frames) (hb : Binds X.K fd [p] [])
    (I : L2.Inv X pins σ H s) {α : List Addr} {L : UH} {u z : U} {y : V} {x : Value} (Ab : Abs X.K H α L) (ru : RepU X.K H α u y) (rx : L2.RelV y x) (hm : m [u] L = some (z, L)) :
    wpAny (model X.prog X.w) A (call (.ref f) [x]) (EP X pins σ (fun v H' => ∃ α', Gr H α H' α' ∧ Abs X.K H' α' L ∧ RepU X.K H' α' z v)) (fun _ _ => False) s := by
  have e0 := I.env0
  have e1 : Env0 X.prog X.w X.K X.mg X.base A X.stack s H := ⟨hA.trans e0.frames, e0.mod, e0.bs, e0.bsz, e0.funs, e0.frf, e0.hok, e0.bare⟩
  have hsp : spF X.K 1 m [y] H (fun v H' => ∃ α', Gr H α H' α' ∧ Abs X.K H' α' L ∧ RepU X.K H' α' z v) E0 := ⟨α, L, [u], Ab, .cons ru .nil, rfl, z, L, hm, fun v H' α' g A' r' => ⟨α', g, A', r'⟩⟩
  have hbt := hb s [x] I.kIn (by simp)
  refine wpAny_call (codeAny_mono (F.run A X.stack s H ⟨[x], []⟩ [x] [y] _ E0 hr e1 (by simpa using hbt) (.cons rx .nil) hsp) fun r s' hq => ?_)
  cases r with
  | error e => exact hq
  | ok fl =>
    cases fl with
    | ret u => exact I.after hq
    | next => exact False.elim hq
    | brk => exact False.elim hq
    | cont => exact False.elim hq
end
section
variable {X : Cx} {pins : List (Addr × Obj)} {σ : L2.St} {H : Hp} {s : Shared}
theorem toI_map : ∀ l : List Int, mapO toI (l.map U.int) = some l
  | [] => rfl
  | a :: r => by simp only [List.map_cons, mapO, toI, toI_map r, Option.bind_some, Option.map_some]
noncomputable def ltK (ks : List (List Int)) (i j : Nat) : Bool := ltT (ks.getD i []) (ks.getD j [])
theorem ltK_wo (ks : List (List Int)) : Wo (ltK ks) := ⟨fun i j h => ltT_asym _ _ h, fun i j k h1 h2 => ltT_tr _ _ _ h1 h2⟩
theorem lsortK {k : Nat} {f a : Addr} {fd : FuncData} {p : Str} {m : FN} {c0 : Nat} {vs : List Value} {ys : List V} {us : List U} {ks : List (List Int)} {α : List Addr} {L : UH}
    (F : FnOk X.prog X.w X.K X.mg X.base CX0 k f fd [p] (spF X.K 1 m)) (hr : Room k X.A.in1.in1) (hb : Binds X.K fd [p] []) (I : L2.Inv X pins σ H s) (fa : FpOk X pins H a)
    (ho : s.heap.get? a = some (seqObj "list" vs.toArray c0)) (rv : Vals ys vs) (ru : RepL X.K H α us ys) (Ab : Abs X.K H α L) (hl : ks.length = vs.length) (hk1 : ∀ t ∈ ks, t ≠ [])
    (hk : ∀ (i : Nat) (u : U) (t : List Int), us[i]? = some u → ks[i]? = some t → m [u] L = some (tupI t, L)) (h64 : vs.length < 64) :
    wpAny (model X.prog X.w) X.A.in1.in1 (ksk_tree a (.ref f) false) (fun fin s' => fin = .done (.ret .none) ∧ ∃ H' α', L2.Inv X pins σ (upd H' a (.lst ((sortN (ltK ks) vs.length).map fun i => ys.getD i .non))) s' ∧ H' a = none ∧ Gr H α H' α' ∧ Abs X.K H' α' L) X.xe s := by
  have hyl := rv.length
  have hul := ru.length
  have z1 : vs.toArray.size ≤ sizeLine := by rw [List.size_toArray, sizeLine_eq]; omega
  obtain ⟨e1, h1⟩ : ∃ e1, (s.heap.update a (Obj.mapSeq fun _ => (#[] : Array Value))).get? a = some (seqObj "list" #[] e1) := ⟨_, get?_update_seq ho fun _ => #[]⟩
  have hlt : a < s.heap.objs.size := Heap.lt_size ho
  have sb := Heap.SameBut.update s.heap a (Obj.mapSeq fun _ => (#[] : Array Value))
  have I1 : L2.Inv X pins σ H { s with heap := s.heap.update a (Obj.mapSeq fun _ => (#[] : Array Value)) } := I.turned (t' := s.toks) (fun b o hb e => (sb.2 b hb).trans e) fa.1 fa.2.1 fa.2.2.2.1 fa.2.2.2.2.1 fa.2.2.2.2.2
  have hs1 : (s.heap.update a (Obj.mapSeq fun _ => (#[] : Array Value))).objs.size = s.heap.objs.size := Heap.size_update ..
  generalize hA : s.heap.update a (Obj.mapSeq fun _ => (#[] : Array Value)) = hp1 at h1 I1 hs1
  have I2 : L2.Inv X pins σ H { s with heap := hp1.push { cls := .type "tuple", data := .seq vs.toArray } } := I1.kept (t' := s.toks) fun b o e => Heap.get?_push_of_some _ e
  have h2 : (hp1.push { cls := .type "tuple", data := .seq vs.toArray }).get? a = some (seqObj "list" #[] e1) := Heap.get?_push_of_some _ h1
  have hs2 : (hp1.push { cls := .type "tuple", data := .seq vs.toArray }).objs.size = s.heap.objs.size + 1 := by rw [Heap.size_push, hs1]
  generalize hB : hp1.push { cls := .type "tuple", data := .seq vs.toArray } = hp2 at I2 h2 hs2
  have I3 : L2.Inv X pins σ H { s with heap := hp2.push { cls := .type "list", data := .seq (List.toArray []) } } := I2.kept (t' := s.toks) fun b o e => Heap.get?_push_of_some _ e
  have h3 : (hp2.push { cls := .type "list", data := .seq (List.toArray []) }).get? a = some (seqObj "list" #[] e1) := Heap.get?_push_of_some _ h2
  have hkS : (hp2.push { cls := .type "list", data := .seq (List.toArray []) }).get? hp2.objs.size = some (seqObj "list" #[] 0) := Heap.get?_push_size _ rfl
  have fk : FpOk X pins H hp2.objs.size := I2.fpOk (s := { s with heap := hp2 }) (Nat.le_refl _) (I2.hok.fresh (Nat.le_refl _))
  have hne : hp2.objs.size ≠ a := by rw [hs2]; exact Nat.ne_of_gt (Nat.lt_succ_of_lt hlt)
  generalize hC : hp2.push { cls := .type "list", data := .seq (List.toArray []) } = hp3 at I3 h3 hkS
  generalize hS : hp2.objs.size = kS at hkS fk hne
  unfold ksk_tree
  refine wpAny_bind (listItems_at ho rfl (wpAny_bind (listUpdate_at ho rfl ?_ z1 (Nat.zero_le _))))
  rw [hA]
  refine wpAny_bind (seqEpoch_at (s := { s with heap := hp1 }) h1 rfl (wpAny_bind (wpAny_newTuple ?_ (by show vs.length ≤ _; rw [sizeLine_eq]; omega))))
  show wpAny _ _ _ _ _ ({ s with heap := hp1.push { cls := .type "tuple", data := .seq vs.toArray } } : Shared)
  rw [hB]
  refine wpAny_bind (wpAny_newList ?_ (Nat.zero_le _))
  show wpAny _ _ _ _ _ ({ s with heap := hp2.push { cls := .type "list", data := .seq (List.toArray []) } } : Shared)
  rw [hC]
  show wpAny _ _ (holding _ (ksk_rest a (.ref f) false vs.toArray e1 (.ref hp2.objs.size))) _ _ _
  rw [hS]
  refine wpAny_holding ?_
  unfold ksk_rest
  refine wpAny_bind (wpAny_rule ?_)
  rw [← Array.forIn_toList]
  have pin2 : ∀ (kv : List Value) (e : Nat) (H' : Hp) (s' : Shared), L2.Inv X pins σ H' s' → H' kS = none → H' a = none → s'.heap.get? kS = some (seqObj "list" kv.toArray e) → s'.heap.get? a = some (seqObj "list" #[] e1) → L2.Inv X ((kS, seqObj "list" kv.toArray e) :: (a, seqObj "list" #[] e1) :: pins) σ H' s' := by
    intro kv e H' s' J n1 n2 g1 g2
    refine J.pins_of fun q hq => ?_
    rcases List.mem_cons.mp hq with rfl | hq
    · exact ⟨g1, n1, fk.2.1, fk.2.2.1, fun v z => by cases z⟩
    · rcases List.mem_cons.mp hq with rfl | hq
      · exact ⟨g2, n2, fa.2.1, fa.2.2.1, fun v z => by cases z⟩
      · exact J.pin q (List.mem_append_right _ hq)
  refine wpAny_bind (ksk_fold (fun j s' => ∃ (H' : Hp) (α' : List Addr) (kv : List Value) (kx : List V) (e : Nat), L2.Inv X ((kS, seqObj "list" kv.toArray e) :: (a, seqObj "list" #[] e1) :: pins) σ H' s' ∧ Gr H α H' α' ∧ Abs X.K H' α' L ∧ Vals kx kv ∧ RepL X.K H' α' ((ks.take j).map tupI) kx) vs 0 _
    ⟨H, α, [], [], 0, pin2 [] 0 H _ I3 fk.1 fa.1 hkS h3, .refl _ _, Ab, .nil, .nil⟩ ?step ?done)
  case step =>
    rintro j x s' hx ⟨H', α', kv, kx, e, J, g, A', rk, rr⟩
    simp only [Nat.zero_add] at rr ⊢
    have hj : j < vs.length := (List.getElem?_eq_some_iff.mp hx).1
    obtain ⟨t, ht⟩ : ∃ t, ks[j]? = some t := ⟨ks[j], List.getElem?_eq_getElem (by omega)⟩
    obtain ⟨y, hy⟩ : ∃ y, ys[j]? = some y := ⟨ys[j], List.getElem?_eq_getElem (by omega)⟩
    obtain ⟨x', hx', rx⟩ := rv.get hy
    rw [hx] at hx'; cases hx'
    obtain ⟨u, hu, ry⟩ := ru.get' hy
    have hkl := rr.length
    have hkl2 := rk.length
    rw [List.length_map, List.length_take] at hkl
    refine wpAny_bind (wpAny_attempt (wpAny_mono (run_key (A := X.A.in1.in1) F hr rfl hb J A' (ry.mono g) rx (hk j u t hu ht)) (fun v s'' hv => ?_) fun _ _ hF => hF.elim))
    obtain ⟨v', H2, J2, rv', α2, g2, A2, r2⟩ := hv
    dsimp only
    have p1 := J2.pin (kS, seqObj "list" kv.toArray e) (List.mem_append_right _ (List.mem_cons_self ..))
    have p2 := J2.pin (a, seqObj "list" #[] e1) (List.mem_append_right _ (List.mem_cons_of_mem _ (List.mem_cons_self ..)))
    have J3 : L2.Inv X pins σ H2 s'' := J2.pins_of fun q hq => J2.pin q (List.mem_append_right _ (List.mem_cons_of_mem _ (List.mem_cons_of_mem _ hq)))
    have sb2 := Heap.SameBut.update s''.heap kS (Obj.mapSeq (·.push v))
    obtain ⟨e2, he2⟩ : ∃ e2, (s''.heap.update kS (Obj.mapSeq (·.push v))).get? kS = some (seqObj "list" (kv.toArray.push v) e2) := ⟨_, get?_update_seq p1.1 (·.push v)⟩
    have J4 : L2.Inv X pins σ H2 { s'' with heap := s''.heap.update kS (Obj.mapSeq (·.push v)) } := J3.turned (t' := s''.toks) (fun b o hb e => (sb2.2 b hb).trans e) p1.2.1 fk.2.1 fk.2.2.2.1 fk.2.2.2.2.1 fk.2.2.2.2.2
    refine wpAny_bind (listUpdate_at p1.1 rfl ?_ (by rw [List.size_toArray, sizeLine_eq]; omega) (by rw [Array.size_push, List.size_toArray, sizeLine_eq]; omega))
    have hpush : kv.toArray.push v = (kv ++ [v]).toArray := by simp
    rw [hpush] at he2
    refine wpAny_pure ⟨rfl, H2, α2, kv ++ [v], kx ++ [v'], e2, pin2 (kv ++ [v]) e2 H2 _ J4 p1.2.1 p2.2.1 he2 ((sb2.2 a (Ne.symm hne)).trans p2.1), g.trans g2, A2, rk.append (.cons rv' .nil), ?_⟩
    have htk : ks.take (j + 1) = ks.take j ++ [t] := by rw [List.take_add_one, ht]; rfl
    rw [htk, List.map_append]
    exact (rr.mono g2).append (.cons r2 .nil)
  case done =>
    rintro s' ⟨H', α', kv, kx, e, J, g, A', rk, rr⟩
    have htk : ks.take (0 + vs.length) = ks := List.take_of_length_le (by omega)
    rw [htk] at rr
    have hkl := rr.length
    have hkl2 := rk.length
    rw [List.length_map] at hkl
    have hkv : kv.length = vs.length := by omega
    have p1 := J.pin (kS, seqObj "list" kv.toArray e) (List.mem_append_right _ (List.mem_cons_self ..))
    have p2 := J.pin (a, seqObj "list" #[] e1) (List.mem_append_right _ (List.mem_cons_of_mem _ (List.mem_cons_self ..)))
    have J3 : L2.Inv X pins σ H' s' := J.pins_of fun q hq => J.pin q (List.mem_append_right _ (List.mem_cons_of_mem _ (List.mem_cons_of_mem _ hq)))
    refine wpAny_bind (listItems_at p1.1 rfl ?_)
    have hat : ∀ i, i < kv.length → ∃ (b : Addr) (n : Int) (t : List Int) (ws : List Value), kv[i]? = some (.ref b) ∧ ks.getD i [] = n :: t ∧ Vals ((n :: t).map V.int) ws ∧ IsTup s'.heap b ws.toArray := by
      intro i hi
      obtain ⟨t, ht⟩ : ∃ t, ks[i]? = some t := ⟨ks[i], List.getElem?_eq_getElem (by omega)⟩
      obtain ⟨y, hy, ry⟩ := rr.get (i := i) (u := tupI t) (by rw [List.getElem?_map, ht]; rfl)
      obtain ⟨v, hv, rx⟩ := rk.get hy
      unfold tupI RepU at ry
      obtain ⟨b, xs, rfl, sq, rl⟩ := ry
      cases rx
      have hxs := toIs_ok rl (toI_map t)
      rw [hxs] at sq
      obtain ⟨ws, r2, it, _⟩ := J3.tuple sq
      cases t with
      | nil => exact absurd rfl (hk1 [] (List.mem_of_getElem? ht))
      | cons n t => exact ⟨b, n, t, ws, hv, by rw [List.getD_eq_getElem?_getD, ht]; rfl, r2, it⟩
    have fin : ∀ (q : Array Nat) (st : SortSt), q.toList = sortN (ltK ks) vs.length → (arrOf st).map (·.2) = (outV vs q).toArray → failedOf st = none → wpAny (model X.prog X.w) X.A.in1.in1 (ksk_tail a false e1 (.ref kS) st)
        (fun fin s' => fin = .done (.ret .none) ∧ ∃ H' α', L2.Inv X pins σ (upd H' a (.lst ((sortN (ltK ks) vs.length).map fun i => ys.getD i .non))) s' ∧ H' a = none ∧ Gr H α H' α' ∧ Abs X.K H' α' L) X.xe s' := by
      intro q st hq hout hfail
      have hperm := sortN_perm (n := vs.length) (ltK_wo ks)
      have hlen : (outV vs q).length = vs.length := by unfold outV; rw [hq, List.length_map, hperm.length_eq, List.length_range]
      have sb1 := Heap.SameBut.update s'.heap kS (Obj.mapSeq fun _ => (#[] : Array Value))
      have J4 : L2.Inv X pins σ H' { s' with heap := s'.heap.update kS (Obj.mapSeq fun _ => (#[] : Array Value)) } := J3.turned (t' := s'.toks) (fun b o hb e => (sb1.2 b hb).trans e) p1.2.1 fk.2.1 fk.2.2.2.1 fk.2.2.2.2.1 fk.2.2.2.2.2
      have ga : (s'.heap.update kS (Obj.mapSeq fun _ => (#[] : Array Value))).get? a = some (seqObj "list" #[] e1) := (sb1.2 a (Ne.symm hne)).trans p2.1
      generalize hG : s'.heap.update kS (Obj.mapSeq fun _ => (#[] : Array Value)) = g1 at J4 ga
      have sb3 := Heap.SameBut.update g1 a (Obj.mapSeq fun _ => (outV vs q).toArray)
      obtain ⟨c2, hc2⟩ : ∃ c2, (g1.update a (Obj.mapSeq fun _ => (outV vs q).toArray)).get? a = some (seqObj "list" (outV vs q).toArray c2) := ⟨_, get?_update_seq ga fun _ => (outV vs q).toArray⟩
      have hlt' : ∀ k ∈ sortN (ltK ks) vs.length, k < ys.length := fun k hk => by
        have := List.mem_range.mp (hperm.mem_iff.mp hk)
        omega
      have hrel : Vals ((sortN (ltK ks) vs.length).map fun i => ys.getD i .non) (outV vs q) := by
        unfold outV
        rw [hq]
        have : ∀ js : List Nat, (∀ k ∈ js, k < ys.length) → Vals (js.map fun i => ys.getD i .non) (js.map fun i => vs.getD i Value.none) := by
          intro js
          induction js with
          | nil => intro _; exact .nil
          | cons k js ih =>
            intro hk
            have hk0 := hk k (List.mem_cons_self ..)
            obtain ⟨v, e3, rr⟩ := rv.get (List.getElem?_eq_getElem hk0)
            refine .cons ?_ (ih fun x hx => hk x (List.mem_cons_of_mem _ hx))
            show L2.RelV (ys.getD k .non) (vs.getD k Value.none)
            rw [List.getD_eq_getElem?_getD, List.getD_eq_getElem?_getD, List.getElem?_eq_getElem hk0, e3]
            exact rr
        exact this _ hlt'
      have hsz : ((sortN (ltK ks) vs.length).map fun i => ys.getD i .non).length ≤ sizeLine := by
        rw [List.length_map, hperm.length_eq, List.length_range, sizeLine_eq]; omega
      have J5 : L2.Inv X pins σ (upd H' a (.lst ((sortN (ltK ks) vs.length).map fun i => ys.getD i .non))) { s' with heap := g1.update a (Obj.mapSeq fun _ => (outV vs q).toArray) } :=
        Inv.adopt (s := { s' with heap := g1 }) (t' := s'.toks) J4 ⟨p2.2.1, fa.2⟩ (fun b o hb e => (sb3.2 b hb).trans e) ⟨hsz, outV vs q, c2, hrel, hc2⟩
      unfold ksk_tail
      refine wpAny_bind (listUpdate_at p1.1 rfl ?_ (by rw [List.size_toArray, sizeLine_eq]; omega) (Nat.zero_le _))
      rw [hG]
      refine wpAny_bind (wpAny_letGo (wpAny_bind (seqEpoch_at (s := { s' with heap := g1 }) ga rfl ?_)))
      have hout' : (if false = true then ((arrOf st).map (·.2)).reverse else (arrOf st).map (·.2)) = (outV vs q).toArray := by rw [if_neg (by simp)]; exact hout
      rw [hout', hfail]
      refine wpAny_bind (listUpdate_at (s := { s' with heap := g1 }) ga rfl ?_ (Nat.zero_le _) (by rw [List.size_toArray, hlen, sizeLine_eq]; omega))
      simp only [bne_self_eq_false, Bool.false_eq_true, if_false]
      exact wpAny_pure ⟨rfl, H', α', J5, p2.2.1, g, A'⟩
    unfold ksk_end
    simp only [Bool.false_eq_true, if_false]
    by_cases hsmall : vs.toArray.size < 2
    · rw [if_pos hsmall, if_pos hsmall]
      have hs2 : vs.length < 2 := by simpa using hsmall
      refine wpAny_bind (wpAny_pure ?_)
      rw [StateT.run_pure]
      refine wpAny_bind (wpAny_pure (fin (List.toArray (List.range vs.length)) (SortSt.mk' general' (kv.toArray.zip vs.toArray) #[] 7 none) ?_ ?_ rfl))
      · unfold sortN; rw [if_pos hs2]
      · rw [outV_range]
        show (kv.toArray.zip vs.toArray).map (·.2) = vs.toArray
        apply Array.ext
        · simp; omega
        · intro i i1 i2; simp
    · rw [if_neg hsmall, if_neg hsmall]
      have hs2 : 2 ≤ vs.length := by simp at hsmall; omega
      have mk : ∀ (m : Nat), m ≤ kv.length → ∃ fs : List Value, PySem.W.KatTups s'.heap (kv.drop (kv.length - m)) fs ∧ fs.length = m ∧ ∀ v ∈ fs, PySem.W.Looks (model X.prog X.w) s'.heap (typeOf v) (.type "int") := by
        intro m
        induction m with
        | zero => intro _; exact ⟨[], by rw [Nat.sub_zero, List.drop_length]; exact PySem.W.KatTups.nil, rfl, by simp⟩
        | succ m ih =>
          intro hm
          obtain ⟨fs, k1, k2, k3⟩ := ih (by omega)
          obtain ⟨b, n, t, ws, q1, _, r2, it⟩ := hat (kv.length - (m + 1)) (by omega)
          obtain ⟨o, ho', hcls, nn, hd⟩ := it
          rw [List.map_cons] at r2
          cases r2 with
          | @cons _ v0 _ vr rr rs =>
            obtain ⟨tk, rfl⟩ := rr
            have hdrop : kv.drop (kv.length - (m + 1)) = .ref b :: kv.drop (kv.length - m) := by
              have hlt2 : kv.length - (m + 1) < kv.length := by omega
              rw [List.drop_eq_getElem_cons hlt2]
              have : kv[kv.length - (m + 1)] = .ref b := by
                rw [List.getElem?_eq_getElem hlt2] at q1; exact Option.some.inj q1
              rw [this]
              congr 2; omega
            refine ⟨.int n tk :: fs, ?_, by simp [k2], fun v hv => ?_⟩
            · rw [hdrop]
              exact PySem.W.KatTups.cons ho' hcls hd rfl k1
            · rcases List.mem_cons.mp hv with e | e
              · subst e
                exact PySem.W.Looks.now
              · exact k3 v e
      obtain ⟨fs, k1, k2, k3⟩ := mk kv.length (Nat.le_refl _)
      rw [Nat.sub_self, List.drop_zero] at k1
      refine wpAny_bind (PySem.W.kat_kind k1 (by omega) k3 rfl ?_)
      have ask : ∀ (i j : Nat) (C : Bool → Shared → Prop), i < vs.length → j < vs.length → C (ltK ks i j) s' → PySem.W.kas_ask X.prog X.w X.A.in1.in1 (tuples' (Value.type "int" != Value.type "tuple")) kv i j C s' := by
        intro i j C hi hj hC
        obtain ⟨b, n, t, ws, q1, q2, r2, it⟩ := hat i (by omega)
        obtain ⟨b', n', t', ws', q1', q2', r2', it'⟩ := hat j (by omega)
        obtain ⟨o, ho1, _, c1, hd⟩ := it
        obtain ⟨o', ho2, _, c2, hd'⟩ := it'
        have g1 : kv.getD i Value.none = .ref b := by rw [List.getD_eq_getElem?_getD, q1]; rfl
        have g2 : kv.getD j Value.none = .ref b' := by rw [List.getD_eq_getElem?_getD, q1']; rfl
        unfold PySem.W.kas_ask
        rw [g1, g2]
        refine PySem.W.kat_lt ho1 hd ho2 hd' ?_
        have hl1 := r2.length
        have hl2 := r2'.length
        rw [List.length_map] at hl1 hl2
        refine lex_ok (n :: t) (n' :: t') ws ws' 0 r2 r2' ?_ ?_
        · rw [List.size_toArray, List.size_toArray, ← hl1, ← hl2]
        · rw [← q2, ← q2']; exact hC
      have on := (sort_on (n := vs.length) (ltK_wo ks) (by omega)).run.wp (cmp := PySem.W.kas_ask X.prog X.w X.A.in1.in1 (tuples' (Value.type "int" != Value.type "tuple")) kv) (s := s') (Q := fun q s2 => q = runK (ltK ks) (PySem.W.kas_sort vs.length) ∧ s2 = s') (fun i j C hi hj hC => ask i j C hi hj hC) fun q h => ⟨h, rfl⟩
      refine wpAny_bind (wpAny_mono (PySem.W.kat_run (ks := kv) (vs := vs) (Q := fun st s2 => ∃ q : Array Nat, arrOf st = q.map (PySem.W.kas_item (kv.toArray.zip vs.toArray)) ∧ failedOf st = none ∧ q = runK (ltK ks) (PySem.W.kas_sort vs.length) ∧ s2 = s') hkv hs2 h64 (fun q st s2 _ q1 q2 q3 => ⟨q, q1, q2, q3⟩) on) ?_ fun _ _ e => e)
      rintro ⟨⟨⟩, st⟩ s2 ⟨q, q1, q2, q3, rfl⟩
      refine fin q st ?_ (PySem.W.kat_snds hkv q1) q2
      unfold sortN
      rw [if_neg (by omega), q3]
theorem sortKey {k : Nat} {f l : Addr} {fd : FuncData} {p : Str} {m : FN} {ys : List V} {us : List U} {ks : List (List Int)} {α : List Addr} {L : UH} {Q : VK}
    (F : FnOk X.prog X.w X.K X.mg X.base CX0 k f fd [p] (spF X.K 1 m)) (hr : Room (k + 2) X.A) (hb : Binds X.K fd [p] []) (I : L2.Inv X pins σ H s) (hq : SqL X.K H l ys) (ru : RepL X.K H α us ys) (Ab : Abs X.K H α L) (hl : ks.length = ys.length) (hk1 : ∀ t ∈ ks, t ≠ [])
    (hk : ∀ (i : Nat) (u : U) (t : List Int), us[i]? = some u → ks[i]? = some t → m [u] L = some (tupI t, L)) (h64 : ys.length < 64)
    (q : ∀ (b : Addr) (H' : Hp) (α' : List Addr), H' b = none → Gr H α H' α' → Abs X.K H' α' L → Q (.ref b) (upd H' b (.lst ((sortN (ltK ks) ys.length).map fun i => ys.getD i .non)))) :
    wpAny (model X.prog X.w) X.A (call (.builtin "sorted") [.ref l] [(Str.ofString "key", .ref f)]) (EP X pins σ Q) X.xe s := by
  obtain ⟨its, rv, pl, hz⟩ := I.list hq
  have hlen := rv.length
  have hil := pl.isList
  have e1 : ((s.heap.push (seqObj "list" #[] 0)).update s.heap.objs.size (Obj.mapSeq (· ++ its.toArray))).objs.size = s.heap.objs.size + 1 := by rw [Heap.size_update, size_push']
  have e2 : (((s.heap.push (seqObj "list" #[] 0)).update s.heap.objs.size (Obj.mapSeq (· ++ its.toArray))).push (seqObj "list" its.toArray 0)).get? (s.heap.objs.size + 1) = some (seqObj "list" its.toArray 0) := by rw [← e1]; exact Heap.get?_push_size _ rfl
  have e0 : ∀ b o, s.heap.get? b = some o → ((s.heap.push (seqObj "list" #[] 0)).update s.heap.objs.size (Obj.mapSeq (· ++ its.toArray))).get? b = some o := fun b o q => kb_upd _ _ _ b o (Nat.ne_of_lt (Heap.lt_size q)) (Heap.get?_push_of_some _ q)
  have J0 : L2.Inv X pins σ H { s with heap := (s.heap.push (seqObj "list" #[] 0)).update s.heap.objs.size (Obj.mapSeq (· ++ its.toArray)) } := I.kept (t' := s.toks) e0
  have J1 : L2.Inv X pins σ H { s with heap := ((s.heap.push (seqObj "list" #[] 0)).update s.heap.objs.size (Obj.mapSeq (· ++ its.toArray))).push (seqObj "list" its.toArray 0) } := J0.kept (t' := s.toks) fun b o e => Heap.get?_push_of_some _ e
  have fp : FpOk X pins H (s.heap.objs.size + 1) := by
    rw [← e1]
    exact J0.fpOk (Nat.le_refl _) (J0.hok.fresh (Nat.le_refl _))
  refine call_function_entry_kw kind_sorted plain_sorted entry_sorted (ksk_s1 _ _) ?_
  unfold Builtin.«sorted»
  refine wpAny_bind (m := checkCount "sorted" 1 1 _) (wpAny_pure (wpAny_bind (collect_list hil (wpAny_bind (wpAny_newList ?_ ?y2)) ?y1)))
  case y1 => rw [sizeLine_eq]; omega
  case y2 => rw [sizeLine_eq]; omega
  show wpAny _ _ _ _ _ ({ s with heap := ((s.heap.push (seqObj "list" #[] 0)).update s.heap.objs.size (Obj.mapSeq (· ++ its.toArray))).push (seqObj "list" its.toArray 0) } : Shared)
  rw [e1]
  refine wpAny_bind (wpAny_holding (wpAny_call_entry_kw slot_list_sort ⟨_, e2, rfl⟩ entry_list_sort ?body (ksk_l1 _ _)))
  case body =>
    show wpAny (model X.prog X.w) X.A.in1.in1 (Builtin.«list.sort» ⟨[.ref (s.heap.objs.size + 1)], [(Str.ofString "key", .ref f)]⟩) _ _ _
    rw [ksk_t1]
    refine wpAny_mono (lsortK F (hr.in1.in1) hb J1 fp e2 rv ru Ab (by omega) hk1 hk (by omega)) (fun fin s' ⟨hf, H', α', J, hn, g, A'⟩ => ?_) fun _ _ e => e
    subst hf
    refine ⟨_, rfl, wpAny_pure ⟨_, rfl, .ref (s.heap.objs.size + 1), _, J, rfl, ?_⟩⟩
    have := q (s.heap.objs.size + 1) H' α' hn g A'
    rw [hlen] at this
    exact this
end
end MR
set_option Elab.async false
set_option linter.all false
set_option maxRecDepth 100000
set_option maxHeartbeats 4000000
namespace MR
open PySem PySem.Spec PyProof.Rows PySem.Calls L2 SO
open Classical in
noncomputable def keyOf (m : FN) (L : UH) (u : U) : Option (List Int) := (m [u] L).bind fun r => if r.2 = L then toTI r.1 else none
noncomputable def fSortK (m : FN) (f : FE) : FE := fun δ L => (f δ L).bind fun q => match q.1 with
  | .ref n => (seqAt q.2 n).bind fun us => (mapO (keyOf m q.2) us).bind fun ks => if us.length < 64 ∧ (ks.all fun t => !t.isEmpty) = true then some (.ref q.2.length, q.2 ++ [.lst ((sortN (ltK ks) us.length).map fun i => us.getD i .non)]) else none
  | _ => none
theorem keyOf_ok {m : FN} {L : UH} {u : U} {t : List Int} (h : keyOf m L u = some t) : m [u] L = some (tupI t, L) := by
  unfold keyOf at h
  obtain ⟨⟨z, L'⟩, e, h⟩ := Option.bind_eq_some_iff.mp h
  simp only at h
  split at h
  · rename_i hL
    subst hL
    have h1 : mapO toTI [z] = some [t] := by
      have h0 : toTI z = some t := by assumption
      simp only [mapO, h0, Option.bind_some, Option.map_some]
    have h2 := toTI_eq h1
    simp only [List.map_cons, List.map_nil, List.cons.injEq, and_true] at h2
    rw [e, h2]
  · cases h
theorem mapO_len {β γ : Type} {f : β → Option γ} : ∀ {l : List β} {r : List γ}, mapO f l = some r → l.length = r.length
  | [], r, h => by simp only [mapO] at h; cases h; rfl
  | a :: l, r, h => by
    simp only [mapO] at h
    obtain ⟨x, _, h⟩ := Option.bind_eq_some_iff.mp h
    obtain ⟨y, hy, h⟩ := Option.map_eq_some_iff.mp h
    subst h
    simp [mapO_len hy]
theorem mapO_get {β γ : Type} {f : β → Option γ} : ∀ {l : List β} {r : List γ} {i : Nat} {a : β} {b : γ}, mapO f l = some r → l[i]? = some a → r[i]? = some b → f a = some b
  | [], r, i, a, b, h, h1, h2 => by simp at h1
  | c :: l, r, i, a, b, h, h1, h2 => by
    simp only [mapO] at h
    obtain ⟨x, hx, h⟩ := Option.bind_eq_some_iff.mp h
    obtain ⟨y, hy, h⟩ := Option.map_eq_some_iff.mp h
    subst h
    cases i with
    | zero => simp at h1 h2; subst h1; subst h2; exact hx
    | succ i => exact mapO_get hy (by simpa using h1) (by simpa using h2)
theorem pf_sortK {X : Cx} {k : Nat} {f : Addr} {fd : FuncData} {pn kf : Str} {m : FN} {e : Expr} {fe : FE} {p kp kpos pos : Pos} (F : FnOk X.prog X.w X.K X.mg X.base CX0 k f fd [pn] (spF X.K 1 m)) (hr : Room (k + 2) X.A) (hb : Binds X.K fd [pn] [])
    (hg : Gl X "sorted") (hm : X.mg "sorted" = none) (hgk : Gl X kf) (hmk : X.mg kf = some (.ref f)) (he : PEF X e fe) (hd : (kf == ("__debug__" : Str)) = false := by decide)
    (hs : starEach [e] X.env = [(false, eval e X.env)] := by rfl) : PEF X (.Call (.Name "sorted" p) [e] [⟨some (Str.ofString "key"), .Name kf kp, kpos⟩] pos) (fSortK m fe) := by
  intro pins s σ H Q I h
  obtain ⟨α, δ, L, A, S, z, L3, ez, q⟩ := h
  unfold fSortK at ez
  obtain ⟨⟨u, L1⟩, e1, ez⟩ := Option.bind_eq_some_iff.mp ez
  simp only at ez
  split at ez
  · rename_i n
    obtain ⟨us, hus, ez⟩ := Option.bind_eq_some_iff.mp ez
    obtain ⟨ks, hks, ez⟩ := Option.bind_eq_some_iff.mp ez
    split at ez
    · rename_i hc
      cases ez
      refine wpAny_Call_Name_kw (ld_blt I hg hm PyProof.Rows.boot_sorted ?_)
      refine callWith_kw ?_ (by rw [hs]; rfl) (by rw [hs]; rfl) (by rfl)
      have hpa : PAF X [e] (fCons fe fNil) := paf_cons he paf_nil (hs := by rw [hs]; rfl)
      have hA : (fCons fe fNil) δ L = some ([.ref n], L1) := by
        show (fe δ L).bind _ = _
        rw [e1]; rfl
      refine thn (hpa pos pins s σ H (fun vs H1 => ∃ α1, Gr H α H1 α1 ∧ Abs X.K H1 α1 L1 ∧ RepL X.K H1 α1 [.ref n] vs) I ⟨α, δ, L, A, S, _, L1, hA, fun vs H1 α1 g1 A1 r1 => ⟨α1, g1, A1, r1⟩⟩) fun vs s1 ⟨xs, H1, I1, rx, α1, g1, A1, r1⟩ => ?_
      refine thn (pk_cons (nm := some (Str.ofString "key")) (kpos := kpos) (pe_glob (v := .ref f) hgk hmk rfl hd) pk_nil pos pins s1 σ H1 (fun zs H2 => zs = [.ref f] ∧ H2 = H1) I1 ⟨rfl, rfl⟩) fun ws s2 ⟨zs, H2, I2, rz, hz, hH⟩ => ?_
      subst hH
      subst hz
      obtain ⟨y, rfl, ry⟩ := r1.one
      obtain ⟨b, ys, rfl, sq, r2⟩ := refs_at A1 hus ry
      obtain ⟨v, rfl, rv⟩ := vals1 rx
      cases rv
      obtain ⟨v2, rfl, rv2⟩ := vals1 rz
      cases rv2
      have hlu := r2.length
      have hlk := mapO_len hks
      refine sortKey F hr hb I2 sq r2 A1 (by omega) (fun t ht => ?_) (fun i u t hu ht => keyOf_ok (mapO_get hks hu ht)) (by omega) fun c H' α' hn g' A' => ?_
      · have := List.all_eq_true.mp hc.2 t ht
        intro z; rw [z] at this; simp at this
      · have hperm := sortN_perm (n := us.length) (ltK_wo ks)
        have rl : RepL X.K H' α' ((sortN (ltK ks) us.length).map fun i => us.getD i .non) ((sortN (ltK ks) ys.length).map fun i => ys.getD i .non) := by
          rw [← hlu]
          have : ∀ js : List Nat, (∀ j ∈ js, j < us.length) → RepL X.K H' α' (js.map fun i => us.getD i .non) (js.map fun i => ys.getD i .non) := by
            intro js
            induction js with
            | nil => intro _; exact .nil
            | cons j js ih =>
              intro hj
              have hj0 := hj j (List.mem_cons_self ..)
              obtain ⟨x, hx, rx'⟩ := r2.get (List.getElem?_eq_getElem hj0)
              refine .cons ?_ (ih fun x hx => hj x (List.mem_cons_of_mem _ hx))
              show RepU X.K H' α' (us.getD j .non) (ys.getD j .non)
              rw [List.getD_eq_getElem?_getD, List.getD_eq_getElem?_getD, List.getElem?_eq_getElem hj0, hx]
              exact rx'.mono g'
          exact this _ fun j hj => List.mem_range.mp (hperm.mem_iff.mp hj)
        obtain ⟨g2, A2, r3⟩ := A'.lst rl hn
        exact q _ _ _ (g1.trans (g'.trans g2)) A2 r3
    · cases ez
  · cases ez
end MR
set_option Elab.async false
set_option linter.all false
set_option maxRecDepth 100000
set_option maxHeartbeats 4000000
namespace MR
open PySem PyProof.Rows L2
theorem lexLt_eq : ∀ x y : List Int, HT.lexLt x y = ltT x y
  | [], [] => by unfold HT.lexLt ltT; rfl
  | a :: x, [] => by unfold HT.lexLt ltT; rfl
  | [], b :: y => by unfold HT.lexLt ltT; rfl
  | a :: x, b :: y => by
    have ih := lexLt_eq x y
    rw [HT.lexLt_cons, ltT, ih]
    by_cases h : a = b
    · subst h; simp
    · have h' : (a == b) = false := by simpa using h
      rw [h', if_neg h, if_neg (by simp)]
theorem op_ltA {X : Cx} (hu : X.A.units + 64 < cLine) : OpR X (compareOp .Lt) (fun x y H Q => rI0 (fun i j => .bl (decide (i < j))) x y H Q ∨ rLtT X.K x y H Q) := op_lt.or (op_ltT (by omega))
noncomputable def semLtA : S2 := fun u w L => match u, w with
  | .int i, .int j => some (.bl (decide (i < j)), L)
  | .tup a, .tup b => (mapO toI a).bind fun ns => (mapO toI b).map fun ms => (.bl (ltT ns ms), L)
  | _, _ => none
theorem sem_ltA {K : PySem.W.Frag} : SemR2 K (fun x y H Q => rI0 (fun i j => .bl (decide (i < j))) x y H Q ∨ rLtT K x y H Q) semLtA := by
  intro H α L u w x y z L' Q A ru rw e q
  unfold semLtA at e
  split at e
  · cases e
    unfold RepU at ru rw
    exact .inl ⟨_, _, ru, rw, q _ H α (.refl _ _) A rfl⟩
  · obtain ⟨ns, hn, e⟩ := Option.bind_eq_some_iff.mp e
    obtain ⟨ms, hm, e⟩ := Option.map_eq_some_iff.mp e
    cases e
    unfold RepU at ru rw
    obtain ⟨a, xs, rfl, sq, r⟩ := ru
    obtain ⟨b, ys, rfl, sq2, r2⟩ := rw
    rw [toIs_ok r hn] at sq
    rw [toIs_ok r2 hm] at sq2
    exact .inr ⟨a, b, ns, ms, rfl, rfl, sq, sq2, q _ H α (.refl _ _) A (by rw [lexLt_eq]; rfl)⟩
  · cases e
end MR
set_option Elab.async false
set_option linter.all false
set_option maxRecDepth 100000
set_option maxHeartbeats 1000000
namespace SO
open PySem PySem.W PyProof.Rows
section
variable {lt : Nat → Nat → Bool} {n : Nat}
def Ls (lt : Nat → Nat → Bool) (i j : Nat) : Prop := Le lt i j ∧ (Le lt j i → i ≤ j)
theorem Wo.lt_le (W : Wo lt) {a b c : Nat} (h : lt a b = true) (h2 : Le lt b c) : lt a c = true := by
  cases hc : lt a c with
  | true => rfl
  | false => have : lt a b = false := W.trans (lt := lt) (i := b) (j := c) (k := a) h2 hc; rw [h] at this; cases this
theorem Wo.le_lt (W : Wo lt) {a b c : Nat} (h : Le lt a b) (h2 : lt b c = true) : lt a c = true := by
  cases hc : lt a c with
  | true => rfl
  | false => have : lt b c = false := W.trans (lt := lt) (i := c) (j := a) (k := b) hc h; rw [h2] at this; cases this
theorem Ls.of_lt (W : Wo lt) {a b : Nat} (h : lt a b = true) : Ls lt a b := ⟨W.le h, fun q => by unfold Le at q; rw [h] at q; cases q⟩
theorem Ls.trans (W : Wo lt) {a b c : Nat} (h1 : Ls lt a b) (h2 : Ls lt b c) : Ls lt a c := ⟨W.trans h1.1 h2.1, fun q => Nat.le_trans (h1.2 (W.trans h2.1 q)) (h2.2 (W.trans q h1.1))⟩
theorem Ls.refl (W : Wo lt) (a : Nat) : Ls lt a a := ⟨W.refl a, fun _ => Nat.le_refl _⟩
theorem Ls.of_le {a b : Nat} (h : Le lt a b) (h2 : a ≤ b) : Ls lt a b := ⟨h, fun _ => h2⟩
def UpS (lt : Nat → Nat → Bool) (p : Array Nat) (k : Nat) : Prop := ∀ i j, i ≤ j → j < k → Ls lt (at0 p i) (at0 p j)
def DnS (lt : Nat → Nat → Bool) (p : Array Nat) (k : Nat) : Prop := ∀ i j, i ≤ j → j < k → Ls lt (at0 p j) (at0 p i)
def Fx (n : Nat) (p : Array Nat) (k : Nat) : Prop := (∀ i, i < k → at0 p i < k) ∧ ∀ i, k ≤ i → i < n → at0 p i = i
theorem Fx.up {p : Array Nat} {k m : Nat} (h : Fx n p k) (hk : k ≤ m) (hm : m ≤ n) : Fx n p m := ⟨fun i hi => by
  by_cases h1 : i < k
  · have := h.1 i h1; omega
  · rw [h.2 i (by omega) (by omega)]; exact hi, fun i h1 h2 => h.2 i (by omega) h2⟩
theorem Fx.rev {p : Array Nat} {k i m : Nat} (h : Fx n p k) (hk : k ≤ m) (hm : m ≤ n) (hs : p.size = n) (hi : i = 0 ∨ k ≤ i) : Fx n (kas_rev p i m) m := by
  have h' := h.up hk hm
  refine ⟨fun j hj => ?_, fun j h1 h2 => ?_⟩
  · rw [rev_at (by omega)]
    split
    · exact h'.1 _ (by omega)
    · exact h'.1 j hj
  · rw [rev_at (by omega), if_neg (by omega)]
    exact h'.2 j h1 h2
theorem UpS.snoc (W : Wo lt) {p : Array Nat} {m : Nat} (h : UpS lt p m) (hm : 1 ≤ m) (hl : Ls lt (at0 p (m - 1)) (at0 p m)) : UpS lt p (m + 1) := fun i j h1 h2 => by
  by_cases hj : j < m
  · exact h i j h1 hj
  · have hj : j = m := by omega
    subst hj
    by_cases hi : i = j
    · subst hi; exact Ls.refl W _
    · exact (h i (j - 1) (by omega) (by omega)).trans W hl
theorem asc_onS (W : Wo lt) {p : Array Nat} {nrem : Nat} (h0 : 0 < n) (hp : Pm n p) (hn : nrem ≤ n) : ∀ (f m : Nat), 1 ≤ m → m + f = nrem → UpS lt p m → Fx n p m → On n lt (fun m' => m ≤ m' ∧ m' ≤ nrem ∧ UpS lt p m' ∧ Fx n p m' ∧ (m' = nrem ∨ lt (at0 p m') (at0 p (m' - 1)) = true)) (kas_asc p f m)
  | 0, m, h1, hf, hu, hx => ⟨Nat.le_refl _, by omega, hu, hx, .inl (by omega)⟩
  | f + 1, m, h1, hf, hu, hx => by
    refine ⟨hp.bd h0 _, hp.bd h0 _, ?_⟩
    show On n lt _ (if lt (at0 p m) (at0 p (m - 1)) = true then KasT.ret m else kas_asc p f (m + 1))
    cases hl : lt (at0 p m) (at0 p (m - 1)) with
    | true => exact ⟨Nat.le_refl _, by omega, hu, hx, .inr hl⟩
    | false =>
      have hs : Ls lt (at0 p (m - 1)) (at0 p m) := .of_le hl (by have := hx.1 (m - 1) (by omega); have := hx.2 m (Nat.le_refl _) (by omega); omega)
      exact (asc_onS W h0 hp hn f (m + 1) (by omega) (by omega) (hu.snoc W h1 hs) (hx.up (by omega) (by omega))).imp fun m' ⟨a, b, c⟩ => ⟨by omega, b, c⟩
structure Dq (lt : Nat → Nat → Bool) (n : Nat) (p : Array Nat) (m s : Nat) : Prop where
  lo : DnS lt p s
  st : ∀ i j, i < s → s ≤ j → j < m → lt (at0 p j) (at0 p i) = true
  tl : ∀ i, s ≤ i → i < m → Eqv lt (at0 p i) (at0 p (m - 1))
  fx : Fx n p s
  lt : s < m
theorem Dq.turn (W : Wo lt) {p : Array Nat} {m s : Nat} (h : Dq lt n p m s) (hs : p.size = n) (hm : m ≤ n) : DnS lt (kas_rev p s m) m ∧ Fx n (kas_rev p s m) m := by
  refine ⟨fun i j h1 h2 => ?_, h.fx.rev (Nat.le_of_lt h.lt) hm hs (.inr (Nat.le_refl _))⟩
  rw [rev_at (by omega), rev_at (by omega)]
  by_cases hj : s ≤ j
  · rw [if_pos (show s ≤ j ∧ j < m from ⟨hj, h2⟩)]
    by_cases hi : s ≤ i
    · rw [if_pos (show s ≤ i ∧ i < m from ⟨hi, by omega⟩)]
      have a := h.tl (s + m - 1 - j) (by omega) (by omega)
      have b := h.tl (s + m - 1 - i) (by omega) (by omega)
      refine .of_le (W.trans a.1 b.2) ?_
      rw [h.fx.2 _ (by omega) (by omega), h.fx.2 _ (by omega) (by omega)]
      omega
    · rw [if_neg (by omega)]
      exact Ls.of_lt W (h.st _ _ (by omega) (by omega) (by omega))
  · rw [if_neg (by omega), if_neg (by omega)]
    exact h.lo i j h1 (by omega)
theorem Dq.one (W : Wo lt) {p : Array Nat} {m s : Nat} (h : Dq lt n p m s) (h1 : s + 1 = m) (hm : m ≤ n) : DnS lt p m ∧ Fx n p m := by
  refine ⟨fun i j i1 i2 => ?_, h.fx.up (by omega) hm⟩
  by_cases hj : j < s
  · exact h.lo i j i1 hj
  · have hj : j = s := by omega
    subst hj
    by_cases hi : i = j
    · subst hi; exact Ls.refl W _
    · exact Ls.of_lt W (h.st _ _ (by omega) (by omega) (by omega))
theorem Dq.next (W : Wo lt) {p : Array Nat} {m : Nat} (h : DnS lt p m ∧ Fx n p m) (h1 : 1 ≤ m) (hl : lt (at0 p m) (at0 p (m - 1)) = true) : Dq lt n p (m + 1) m where
  lo := h.1
  st i j h1 h2 h3 := by
    have hj : j = m := by omega
    subst hj
    exact W.lt_le hl (h.1 i (j - 1) (by omega) (by omega)).1
  tl i h1 h2 := by
    have hi : i = m := by omega
    subst hi
    rw [Nat.add_sub_cancel]; exact ⟨W.refl _, W.refl _⟩
  fx := h.2
  lt := by omega
theorem desc_onS (W : Wo lt) {nrem : Nat} (h0 : 0 < n) (hz : nrem ≤ n) : ∀ (f : Nat) (p : Array Nat) (m q : Nat), Pm n p → 1 ≤ m → m + f = nrem → q < m → Dq lt n p m (m - (q + 1)) →
    On n lt (fun r => Pm n r.1 ∧ 1 ≤ r.2.1 ∧ r.2.1 ≤ nrem ∧ r.2.2 < r.2.1 ∧ Dq lt n r.1 r.2.1 (r.2.1 - (r.2.2 + 1))) (kas_desc f p m q)
  | 0, p, m, q, hp, h1, hf, hq, hd => ⟨hp, h1, (by show m ≤ nrem; omega), hq, hd⟩
  | f + 1, p, m, q, hp, h1, hf, hq, hd => by
    refine ⟨hp.bd h0 _, hp.bd h0 _, ?_⟩
    show On n lt _ (if lt (at0 p m) (at0 p (m - 1)) = true then _ else _)
    have e0 : m + 1 - (0 + 1) = m := by omega
    cases hl : lt (at0 p m) (at0 p (m - 1)) with
    | true =>
      have hms : m ≤ p.size := by rw [hp.size]; omega
      rw [if_pos rfl]
      by_cases hq0 : q > 0
      · rw [if_pos hq0]
        have ht := hd.turn W hp.size (by omega)
        have hm' : at0 (kas_rev p (m - (q + 1)) m) m = at0 p m := by rw [rev_at hms, if_neg (by omega)]
        have hm2 : lt (at0 (kas_rev p (m - (q + 1)) m) m) (at0 (kas_rev p (m - (q + 1)) m) (m - 1)) = true := by
          rw [hm', rev_at hms, if_pos (by omega)]
          exact W.lt_le hl (hd.tl _ (by omega) (by omega)).2
        exact desc_onS W h0 hz f _ (m + 1) 0 (hp.rev _ _) (by omega) (by omega) (by omega) (by rw [e0]; exact Dq.next W ht h1 hm2)
      · rw [if_neg hq0]
        have hq1 : q = 0 := by omega
        subst hq1
        exact desc_onS W h0 hz f p (m + 1) 0 hp (by omega) (by omega) (by omega) (by rw [e0]; exact Dq.next W (hd.one W (by omega) (by omega)) h1 hl)
    | false =>
      rw [if_neg (by simp)]
      refine ⟨hp.bd h0 _, hp.bd h0 _, ?_⟩
      show On n lt _ (if lt (at0 p (m - 1)) (at0 p m) = true then _ else _)
      cases hl2 : lt (at0 p (m - 1)) (at0 p m) with
      | true => rw [if_pos rfl]; exact ⟨hp, h1, (by show m ≤ nrem; omega), hq, hd⟩
      | false =>
        rw [if_neg (by simp)]
        have es : m + 1 - (q + 1 + 1) = m - (q + 1) := by omega
        refine desc_onS W h0 hz f p (m + 1) (q + 1) hp (by omega) (by omega) (by omega) ?_
        rw [es]
        refine ⟨hd.lo, fun i j i1 i2 i3 => ?_, fun i i1 i2 => ?_, hd.fx, by omega⟩
        · by_cases hj : j < m
          · exact hd.st i j i1 i2 hj
          · have hj : j = m := by omega
            subst hj
            exact W.le_lt hl2 (hd.st i (j - 1) i1 (by omega) (by omega))
        · rw [Nat.add_sub_cancel]
          by_cases hi : i = m
          · subst hi; exact ⟨W.refl _, W.refl _⟩
          · have a := hd.tl i i1 (by omega)
            exact ⟨W.trans a.1 hl, W.trans hl2 a.2⟩
theorem tail_onS (W : Wo lt) {m nrem : Nat} {p : Array Nat} (h0 : 0 < n) (hz : nrem ≤ n) (hp : Pm n p) (h1 : 1 ≤ m) (hm : m ≤ nrem) (hd : DnS lt p m ∧ Fx n p m) : On n lt (fun r => Pm n r.2 ∧ 1 ≤ r.1 ∧ r.1 ≤ nrem ∧ UpS lt r.2 r.1 ∧ Fx n r.2 r.1) (kas_tail3 m nrem p) := by
  have hms : m ≤ p.size := by rw [hp.size]; omega
  have hu : UpS lt (kas_rev p 0 m) m := fun i j i1 i2 => by
    rw [rev_at hms, rev_at hms, if_pos (by omega), if_pos (by omega)]
    exact hd.1 _ _ (by omega) (by omega)
  unfold kas_tail3
  exact On.bind (fun a ⟨a1, a2, a3, a4, _⟩ => ⟨hp.rev _ _, by omega, a2, a3, a4⟩) (asc_onS (nrem := nrem) W h0 (hp.rev 0 m) hz (nrem - m) m h1 (by omega) hu (hd.2.rev (Nat.le_refl _) (by omega) hp.size (.inl rfl)))
theorem descPart_onS (W : Wo lt) {m nrem : Nat} {p : Array Nat} (h0 : 0 < n) (hz : nrem ≤ n) (hp : Pm n p) (hm : m + 1 ≤ nrem) (hd : Dq lt n p (m + 1) m) : On n lt (fun r => Pm n r.2 ∧ 1 ≤ r.1 ∧ r.1 ≤ nrem ∧ UpS lt r.2 r.1 ∧ Fx n r.2 r.1) (kas_descPart m nrem p) := by
  unfold kas_descPart
  have e0 : m + 1 - (0 + 1) = m := by omega
  refine On.bind (fun r ⟨a1, a2, a3, a4, a5⟩ => ?_) (desc_onS W h0 hz (nrem - (m + 1)) p (m + 1) 0 hp (by omega) (by omega) (by omega) (by rw [e0]; exact hd))
  have hms : r.2.1 ≤ r.1.size := by rw [a1.size]; omega
  split
  · exact tail_onS W h0 hz (a1.rev _ _) a2 a3 (a5.turn W a1.size (by omega))
  · exact tail_onS W h0 hz a1 a2 a3 (a5.one W (by omega) (by omega))
theorem count_onS (W : Wo lt) {nrem : Nat} {p : Array Nat} (h0 : 0 < n) (hz : nrem ≤ n) (h1 : 1 ≤ nrem) (hp : Pm n p) (hid : ∀ i, i < n → at0 p i = i) : On n lt (fun r => Pm n r.2 ∧ 1 ≤ r.1 ∧ r.1 ≤ nrem ∧ UpS lt r.2 r.1 ∧ Fx n r.2 r.1) (kas_count nrem p) := by
  unfold kas_count
  have fx0 : Fx n p 0 := ⟨fun i h => by omega, fun i _ h => hid i h⟩
  have up1 : UpS lt p 1 := fun i j h1 h2 => by
    have : i = j := by omega
    subst this; exact Ls.refl W _
  refine On.bind (fun m ⟨a1, a2, a3, ax, a4⟩ => ?_) (asc_onS (nrem := nrem) W h0 hp hz (nrem - 1) 1 (Nat.le_refl _) (by omega) up1 (fx0.up (by omega) (by omega)))
  by_cases hm : (m == nrem) = true
  · rw [if_pos hm]; exact ⟨hp, by omega, a2, a3, ax⟩
  · rw [if_neg hm]
    have hne : m ≠ nrem := by simpa using hm
    have hlt : lt (at0 p m) (at0 p (m - 1)) = true := a4.resolve_left hne
    by_cases hm1 : m > 1
    · rw [if_pos hm1]
      refine ⟨hp.bd h0 _, hp.bd h0 _, ?_⟩
      show On n lt _ (if lt (at0 p 0) (at0 p (m - 1)) = true then _ else _)
      cases hl : lt (at0 p 0) (at0 p (m - 1)) with
      | true => rw [if_pos rfl]; exact ⟨hp, by omega, a2, a3, ax⟩
      | false =>
        rw [if_neg (by simp)]
        have hms : m ≤ p.size := by rw [hp.size]; omega
        have hall : ∀ i j, i < m → j < m → Le lt (at0 p i) (at0 p j) := fun i j i1 j1 => W.trans (a3 i (m - 1) (by omega) (by omega)).1 (W.trans hl (a3 0 j (by omega) j1).1)
        refine descPart_onS W h0 hz (hp.rev 0 m) (by omega) ?_
        have hd : DnS lt (kas_rev p 0 m) m := fun i j i1 i2 => by
          rw [rev_at hms, rev_at hms, if_pos (by omega), if_pos (by omega)]
          refine .of_le (hall _ _ (by omega) (by omega)) ?_
          rw [hid _ (by omega), hid _ (by omega)]; omega
        refine Dq.next W ⟨hd, fx0.rev (by omega) (by omega) hp.size (.inl rfl)⟩ (by omega) ?_
        rw [rev_at hms, rev_at hms, if_neg (by omega), if_pos (by omega)]
        exact W.lt_le hlt (hall _ _ (by omega) (by omega))
    · rw [if_neg hm1]
      have : m = 1 := by omega
      subst this
      refine descPart_onS W h0 hz hp (by omega) ?_
      have hd : DnS lt p 1 := fun i j h1 h2 => by
        have : i = j := by omega
        subst this; exact Ls.refl W _
      exact Dq.next W ⟨hd, ax⟩ (Nat.le_refl _) hlt
theorem place_onS (W : Wo lt) {p : Array Nat} {k : Nat} (h0 : 0 < n) (hp : Pm n p) (hu : UpS lt p k) : ∀ (f l r : Nat), l ≤ r → r ≤ k → r - l ≤ f → (∀ i, i < l → Le lt (at0 p i) (at0 p k)) → (∀ i, r ≤ i → i < k → lt (at0 p k) (at0 p i) = true) →
    On n lt (fun l' => l' ≤ k ∧ (∀ i, i < l' → Le lt (at0 p i) (at0 p k)) ∧ ∀ i, l' ≤ i → i < k → lt (at0 p k) (at0 p i) = true) (kas_place p k f l r)
  | 0, l, r, h1, h2, h3, h4, h5 => ⟨by omega, h4, fun i i1 i2 => h5 i (by omega) i2⟩
  | f + 1, l, r, h1, h2, h3, h4, h5 => by
    unfold kas_place
    by_cases hlr : l ≥ r
    · rw [if_pos hlr]; exact ⟨by omega, h4, fun i i1 i2 => h5 i (by omega) i2⟩
    · rw [if_neg hlr]
      refine ⟨hp.bd h0 _, hp.bd h0 _, ?_⟩
      show On n lt _ (if lt (at0 p k) (at0 p ((l + r) / 2)) = true then _ else _)
      cases hl : lt (at0 p k) (at0 p ((l + r) / 2)) with
      | true =>
        rw [if_pos rfl]
        exact place_onS W h0 hp hu f l ((l + r) / 2) (by omega) (by omega) (by omega) h4 fun i i1 i2 => W.lt_le hl (hu _ _ i1 i2).1
      | false =>
        rw [if_neg (by simp)]
        exact place_onS W h0 hp hu f ((l + r) / 2 + 1) r (by omega) h2 (by omega) (fun i i1 => W.trans (hu i ((l + r) / 2) (by omega) (by omega)).1 hl) h5
theorem bin_onS (W : Wo lt) (h0 : 0 < n) : ∀ (f : Nat) (p : Array Nat) (k : Nat), Pm n p → UpS lt p k → Fx n p k → k + f = n → On n lt (fun p' => Pm n p' ∧ UpS lt p' n) (kas_bin f p k)
  | 0, p, k, hp, hu, hx, hk => ⟨hp, (show k = n by omega) ▸ hu⟩
  | f + 1, p, k, hp, hu, hx, hk => by
    unfold kas_bin
    refine On.bind (fun l ⟨a1, a2, a3⟩ => ?_) (place_onS W h0 hp hu k 0 k (by omega) (Nat.le_refl _) (by omega) (fun i h => by omega) fun i h1 h2 => by omega)
    have hks : k < p.size := by rw [hp.size]; omega
    have hkk : at0 p k = k := hx.2 k (Nat.le_refl _) (by omega)
    have hxk := hx.up (m := k + 1) (by omega) (by omega)
    refine bin_onS W h0 f _ (k + 1) (hp.bub _ _) (fun i j i1 i2 => ?_) ⟨fun i hi => ?_, fun i h1 h2 => ?_⟩ (by omega)
    · rw [bub_at hks a1, bub_at hks a1]
      by_cases hi : i = l
      · rw [if_pos hi]
        by_cases hj : j = l
        · rw [if_pos hj]; exact Ls.refl W _
        · rw [if_neg hj, if_pos (by omega)]; exact Ls.of_lt W (a3 _ (by omega) (by omega))
      · rw [if_neg hi]
        by_cases hi2 : l < i ∧ i ≤ k
        · rw [if_pos hi2, if_neg (by omega), if_pos (by omega)]
          exact hu _ _ (by omega) (by omega)
        · rw [if_neg hi2]
          by_cases hj : j = l
          · rw [if_pos hj]
            refine .of_le (a2 _ (by omega)) ?_
            have := hx.1 i (by omega)
            omega
          · rw [if_neg hj]
            by_cases hj2 : l < j ∧ j ≤ k
            · rw [if_pos hj2]; exact hu _ _ (by omega) (by omega)
            · rw [if_neg hj2]; exact hu _ _ i1 (by omega)
    · rw [bub_at hks a1]
      split
      · omega
      · split
        · exact hxk.1 _ (by omega)
        · exact hxk.1 _ (by omega)
    · rw [bub_at hks a1, if_neg (by omega), if_neg (by omega)]
      exact hxk.2 i h1 h2
theorem sort_onS (W : Wo lt) (h0 : 0 < n) : On n lt (fun p => Pm n p ∧ UpS lt p n) (kas_sort n) := by
  unfold kas_sort
  have hp : Pm n (List.toArray (List.range n)) := ⟨by simp, by simp⟩
  have hid : ∀ i, i < n → at0 (List.toArray (List.range n)) i = i := fun i hi => by
    unfold at0
    rw [Array.getD_eq_getD_getElem?]
    simp [hi]
  refine On.bind (fun r ⟨a1, a2, a3, a4, a5⟩ => ?_) (count_onS W h0 (Nat.le_refl n) h0 hp hid)
  by_cases hr : r.1 < n
  · rw [if_pos hr]
    have hm : max r.1 1 = r.1 := by omega
    rw [hm]
    exact bin_onS W h0 _ _ _ a1 a4 a5 (by omega)
  · rw [if_neg hr]
    have : r.1 = n := by omega
    exact ⟨a1, by rw [← this]; exact a4⟩
theorem sortN_stable (W : Wo lt) (n : Nat) : (sortN lt n).Pairwise (Ls lt) := by
  unfold sortN
  split
  · rename_i h
    match n, h with
    | 0, _ => exact .nil
    | 1, _ => simp [List.range_succ]
  · rename_i h
    obtain ⟨hp, hu⟩ := (sort_onS (n := n) W (by omega)).holds
    refine List.pairwise_iff_getElem.mpr fun i j hi hj hij => ?_
    have h := hu i j (by omega) (by rw [← hp.size]; simpa using hj)
    unfold at0 at h
    rw [Array.getD_eq_getD_getElem?, Array.getD_eq_getD_getElem?] at h
    simp only [Array.length_toList] at hi hj
    rw [Array.getElem?_eq_getElem hi, Array.getElem?_eq_getElem hj] at h
    simpa using h
end
end SO
set_option Elab.async false
set_option linter.all false
set_option maxRecDepth 100000
set_option maxHeartbeats 1000000
namespace MR
open PySem PySem.Spec PyProof.Rows L2
noncomputable def XObj (e Ca : Addr) (dd : Option Addr) (h : Heap) (vs : Array Value) : Prop := ∃ o : Obj, h.get? e = some o ∧ o.cls = .ref Ca ∧ o.dict = dd ∧ o.data = .fields vs ∧ 1 < vs.size ∧ o.slots = #[]
noncomputable def Tra (N : Nat) (e Ca : Addr) (dd : Option Addr) (fl : Value) (h : Heap) : Prop := ∃ vs T oT ts, XObj e Ca dd h vs ∧ vs[1]? = some (.ref T) ∧ N ≤ T ∧ T ≠ e ∧ h.get? T = some oT ∧ oT.data = .fields ts ∧ ts[3]? = some fl
noncomputable def Raw (e Ca : Addr) (dd : Option Addr) (h : Heap) : Prop := ∃ vs, XObj e Ca dd h vs ∧ vs[1]? = some .none
noncomputable def Fly (N : Nat) (e Ca : Addr) (dd : Option Addr) (h : Heap) : Prop := N ≤ h.objs.size ∧ (Raw e Ca dd h ∨ Tra N e Ca dd .none h)
theorem XObj.excIs {e Ca : Addr} {dd : Option Addr} {h : Heap} {vs : Array Value} (x : XObj e Ca dd h vs) : ExcIs e Ca dd false h := by
  obtain ⟨o, h1, h2, h3, h4, h5, h6⟩ := x
  exact ⟨o, vs, h1, h2, h3, h4, h5, h6, fun z => nomatch z⟩
theorem Fly.excIs {N : Nat} {e Ca : Addr} {dd : Option Addr} {h : Heap} (x : Fly N e Ca dd h) : ExcIs e Ca dd false h := by
  rcases x.2 with ⟨vs, q, _⟩ | ⟨vs, _, _, _, q, _⟩
  · exact q.excIs
  · exact q.excIs
theorem Tra.excIs {N : Nat} {e Ca : Addr} {dd : Option Addr} {fl : Value} {h : Heap} (x : Tra N e Ca dd fl h) : ExcIs e Ca dd false h := by
  obtain ⟨vs, _, _, _, q, _⟩ := x
  exact q.excIs
structure Stp (N : Nat) (fs : List Addr) (e : Addr) (h h' : Heap) : Prop where
  keep : ∀ b o, b < N → b ∉ fs → b ≠ e → h.get? b = some o → h'.get? b = some o
  slot : ∀ b o, b ∈ fs → h.get? b = some o → ∃ sl, h'.get? b = some { o with slots := sl }
  all : ∀ b o, h.get? b = some o → ∃ o', h'.get? b = some o'
  sz : h.objs.size ≤ h'.objs.size
theorem Stp.trans {N : Nat} {fs : List Addr} {e : Addr} {h h1 h2 : Heap} (x : Stp N fs e h h1) (y : Stp N fs e h1 h2) : Stp N fs e h h2 :=
  ⟨fun b o l n z q => y.keep b o l n z (x.keep b o l n z q), fun b o m q => let ⟨_, q1⟩ := x.slot b o m q; let ⟨sl, q2⟩ := y.slot b _ m q1; ⟨sl, q2⟩, fun b o q => let ⟨o1, q1⟩ := x.all b o q; y.all b o1 q1, Nat.le_trans x.sz y.sz⟩
theorem upd_there {h : Heap} {a b : Addr} {f : Obj → Obj} {o oa : Obj} (q : h.get? b = some o) (qa : h.get? a = some oa) (hf : (f oa).isFreed = false) : ∃ o', (h.update a f).get? b = some o' := by
  by_cases z : a = b
  · subst z; exact ⟨_, Heap.get?_update_self f qa hf⟩
  · exact ⟨o, (Heap.get?_update_other h f z).trans q⟩
section
variable {M : Model} {A : Around} {E : Value → Shared → Prop} {s : Shared} {base : Heap} {N : Nat} {env : PySem.Env} {outer : List PySem.Env} {L e Ca : Addr} {dd : Option Addr}
theorem xobj_map {o : Obj} {vs : Array Value} {h : Heap} {k : Nat} {x : Value} (hd : o.data = .fields vs) (hq : (o.cls = .ref Ca ∧ o.dict = dd) ∧ 1 < vs.size ∧ o.slots = #[]) (hg : h.get? e = some (o.mapFields (·.setIfInBounds k x))) :
    XObj e Ca dd h (vs.setIfInBounds k x) := by
  obtain ⟨cl, di, da, sl⟩ := o
  dsimp only at hd hq
  subst hd
  exact ⟨_, hg, hq.1.1, hq.1.2, rfl, by rw [Array.size_setIfInBounds]; exact hq.2.1, hq.2.2⟩
theorem notFr {h : Heap} {l : List PySem.Env} {b : Addr} {o : Obj} {vs : Array Value} (fr : h.FunFrames base l) (q : h.get? b = some o) (hd : o.data = .fields vs) : b ∉ frs l := fun m => by
  obtain ⟨_, o', ho, hnf⟩ := fr.mem m
  rw [q] at ho
  cases ho
  exact hnf vs hd
theorem entry_step {head : Value} {hadNext : Bool} {vs : Array Value} {Q : Unit → Shared → Prop} (hfr : A.frames = some (env :: outer)) (hf : env.frame = some L)
    (hN : N ≤ s.heap.objs.size) (fr : s.heap.FunFrames base (env :: outer)) (hx : XObj e Ca dd s.heap vs)
    (hQ : ∀ h', Tra N e Ca dd (rawInt L) h' → Stp N (frs (env :: outer)) e s.heap h' → h'.FunFrames base (env :: outer) → Q () { s with heap := h' }) :
    wpAny M A (do setField (.ref e) 1 (← EntryCells.newEntry head (← frameOf env) .none (rawInt L) .none (← entryPlaceOf L hadNext))) Q E s := by
  obtain ⟨oe, he, hc, hdd, hd, hsz, hsl⟩ := hx
  have noFr : e ∉ frs (env :: outer) := notFr fr he hd
  refine wpAny_bind (wpAny_frameOf_fun hfr fr hf fun h1 so => ?_)
  refine wpAny_bind (wpAny_entryPlaceOf fun pl hpl => ?_)
  unfold EntryCells.newEntry newFields
  refine wpAny_bind (wpAny_newObj_type ?_ (hpl.sizeOk5 _ _ _ _ _))
  generalize hT : ({ cls := .type "traceback", dict := none, data := .fields ([head, .ref L, .none, rawInt L, .none] ++ (if pl.isEmpty then List.replicate 6 Value.none else pl)).toArray } : Obj) = oT
  have e1 : h1.get? e = some oe := (so.2.1 e noFr).trans he
  have e2 : (h1.push oT).get? e = some oe := Heap.get?_push_of_some oT e1
  have z1 : h1.objs.size = s.heap.objs.size := so.1
  have hne : h1.objs.size ≠ e := Nat.ne_of_gt (Heap.lt_size e1)
  have hd3 := Obj.data_mapFields hd (·.setIfInBounds 1 (Value.ref h1.objs.size))
  have e3 := Heap.get?_update_self (Obj.mapFields (·.setIfInBounds 1 (Value.ref h1.objs.size))) e2 (Obj.isFreed_of_fields hd3)
  have hTf : oT.isFreed = false := by subst hT; rfl
  have t3 : ((h1.push oT).update e (Obj.mapFields (·.setIfInBounds 1 (Value.ref h1.objs.size)))).get? h1.objs.size = some oT := (Heap.get?_update_other _ _ (Ne.symm hne)).trans (Heap.get?_push_size h1 hTf)
  have up : ∀ b o, b ≠ e → h1.get? b = some o → ((h1.push oT).update e (Obj.mapFields (·.setIfInBounds 1 (Value.ref h1.objs.size)))).get? b = some o := fun b o hb q => by
    rw [Heap.get?_update_other _ _ (Ne.symm hb)]
    exact Heap.get?_push_of_some oT q
  refine wpAny_setField e2 hd hsz (hQ _ ?_ ⟨fun b o _ hb hbe q => up b o hbe ((so.2.1 b hb).trans q), fun b o hb q => ?_, fun b o q => ?_, ?_⟩ (fr.of_keeps fun b o q hnf => ?_))
  · refine ⟨_, h1.objs.size, oT, _, xobj_map hd ⟨⟨hc, hdd⟩, hsz, hsl⟩ e3, by simp [hsz], by rw [z1]; exact hN, hne, t3, by subst hT; rfl, ?_⟩
    first
      | (simp; done)
      | (rcases hpl with rfl | ⟨_, _, _, _, _, _, _, rfl⟩ <;> simp)
  · obtain ⟨sl, q2⟩ := so.2.2 b o q
    exact ⟨sl, up b _ (fun z => noFr (z ▸ hb)) q2⟩
  · obtain ⟨sl, q2⟩ := so.2.2 b o q
    exact upd_there (Heap.get?_push_of_some oT q2) e2 (Obj.isFreed_of_fields (Obj.data_mapFields hd _))
  · rw [Heap.size_after_update, Heap.size_push, z1]; exact Nat.le_succ _
  · obtain ⟨sl, q2⟩ := so.2.2 b o q
    exact ⟨_, up b _ (fun z => by rw [z, he] at q; cases q; exact hnf vs hd) q2, rfl⟩
theorem note_step {Q : Unit → Shared → Prop} (hfr : A.frames = some (env :: outer)) (hf : env.frame = some L) (fr : s.heap.FunFrames base (env :: outer)) (F : Fly N e Ca dd s.heap)
    (hQ : ∀ h', Tra N e Ca dd (rawInt L) h' → Stp N (frs (env :: outer)) e s.heap h' → h'.FunFrames base (env :: outer) → Q () { s with heap := h' }) : wpAny M A (noteFrame (.ref e) env) Q E s := by
  unfold noteFrame
  simp only [hf]
  rcases F.2 with ⟨vs, hx, h1⟩ | ⟨vs, T, oT, ts, hx, h1, hB, hne, hT, hdT, h3⟩
  · obtain ⟨oe, he, hc, hdd, hd, hsz, hsl⟩ := id hx
    refine wpAny_bind (wpAny_field he hd h1 ?_)
    rw [if_neg (by decide)]
    exact entry_step hfr hf F.1 fr hx hQ
  · obtain ⟨oe, he, hc, hdd, hd, hsz, hsl⟩ := id hx
    refine wpAny_bind (wpAny_field he hd h1 ?_)
    rw [if_pos (show (Value.ref T != Value.none) = true from by simp)]
    refine wpAny_bind (wpAny_field hT hdT h3 ?_)
    rw [if_neg (show ¬ ((Value.none == rawInt L) = true) from by simp [rawInt])]
    refine wpAny_bind (wpAny_setField hT hdT (Array.getElem?_eq_some_iff.mp h3).1 ?_)
    have other : ∀ b, b ≠ T → (s.heap.update T (Obj.mapFields (·.setIfInBounds 3 Value.none))).get? b = s.heap.get? b := fun b hb => Heap.get?_update_other _ _ (Ne.symm hb)
    have noT : ∀ b o, s.heap.get? b = some o → (∀ ws, o.data ≠ .fields ws) → b ≠ T := fun b o q n z => by
      rw [z, hT] at q; cases q; exact n ts hdT
    refine entry_step (N := N) (s := { s with heap := s.heap.update T (Obj.mapFields (·.setIfInBounds 3 Value.none)) }) hfr hf (by show N ≤ (s.heap.update T _).objs.size; rw [Heap.size_after_update]; exact F.1)
      (fr.of_keeps fun b o q n => ⟨o, (other b (noT b o q n)).trans q, rfl⟩) ⟨oe, (other e (Ne.symm hne)).trans he, hc, hdd, hd, hsz, hsl⟩ fun h' F' up fr' => hQ h' F' ⟨fun b o l n z q => ?_, fun b o m q => ?_, fun b o q => ?_, ?_⟩ fr'
    · exact up.keep b o l n z ((other b (fun y => absurd l (by rw [y]; exact Nat.not_lt.mpr hB))).trans q)
    · exact up.slot b o m ((other b fun y => notFr fr hT hdT (y ▸ m)).trans q)
    · obtain ⟨o1, q1⟩ := upd_there (f := Obj.mapFields (·.setIfInBounds 3 Value.none)) q hT (Obj.isFreed_of_fields (Obj.data_mapFields hdT _))
      exact up.all b o1 q1
    · have := up.sz
      rw [show ({ s with heap := s.heap.update T (Obj.mapFields (·.setIfInBounds 3 Value.none)) } : Shared).heap.objs.size = s.heap.objs.size from Heap.size_after_update _ _ _] at this
      exact this
theorem flight_step {fl : Value} {l : List PySem.Env} {Q : Unit → Shared → Prop} (fr : s.heap.FunFrames base l) (F : Tra N e Ca dd fl s.heap)
    (hQ : ∀ h', Tra N e Ca dd .none h' → Stp N (frs l) e s.heap h' → h'.FunFrames base l → Q () { s with heap := h' }) : wpAny M A (setFlight (.ref e) none) Q E s := by
  obtain ⟨vs, T, oT, ts, hx, h1, hB, hne, hT, hdT, h3⟩ := F
  obtain ⟨oe, he, hc, hdd, hd, hsz, hsl⟩ := id hx
  unfold setFlight
  refine wpAny_bind (wpAny_field he hd h1 ?_)
  rw [if_pos (show (Value.ref T != Value.none) = true from by simp)]
  have hs3 : 3 < ts.size := (Array.getElem?_eq_some_iff.mp h3).1
  have noT : ∀ b o, s.heap.get? b = some o → (∀ ws, o.data ≠ .fields ws) → b ≠ T := fun b o q n z => by
    rw [z, hT] at q; cases q; exact n ts hdT
  have other : ∀ b, b ≠ T → (s.heap.update T (Obj.mapFields (·.setIfInBounds 3 ((none : Option Addr).elim Value.none fun f => rawInt f)))).get? b = s.heap.get? b := fun b hb => Heap.get?_update_other _ _ (Ne.symm hb)
  refine wpAny_setField hT hdT hs3 (hQ _ ?_ ⟨fun b o l n z q => (other b (fun y => absurd l (by rw [y]; exact Nat.not_lt.mpr hB))).trans q, fun b o m q => ⟨o.slots, (other b fun y => notFr fr hT hdT (y ▸ m)).trans q⟩, fun b o q => upd_there q hT (Obj.isFreed_of_fields (Obj.data_mapFields hdT _)), by rw [Heap.size_after_update]; exact Nat.le_refl _⟩ (fr.of_keeps fun b o q n => ⟨o, (other b (noT b o q n)).trans q, rfl⟩))
  exact ⟨vs, T, _, _, ⟨oe, (other e (Ne.symm hne)).trans he, hc, hdd, hd, hsz, hsl⟩, h1, hB, hne, Heap.get?_update_self _ hT (Obj.isFreed_of_fields (Obj.data_mapFields hdT _)), Obj.data_mapFields hdT _, by simp [hs3]⟩
theorem on_step {Q : Unit → Shared → Prop} (hfr : A.frames = some (env :: outer)) (hf : env.frame = some L) (fr : s.heap.FunFrames base (env :: outer)) (F : Fly N e Ca dd s.heap)
    (hQ : ∀ h', Fly N e Ca dd h' → Stp N (frs (env :: outer)) e s.heap h' → h'.FunFrames base (env :: outer) → Q () { s with heap := h' }) : wpAny M A (noteFrame (.ref e) env) (fun _ s' => wpAny M A (setFlight (.ref e) none) Q E s') E s := by
  refine note_step hfr hf fr F fun h1 F1 u1 fr1 => ?_
  refine flight_step (s := { s with heap := h1 }) fr1 F1 fun h2 F2 u2 fr2 => hQ h2 ⟨Nat.le_trans F.1 (Nat.le_trans u1.sz u2.sz), .inr F2⟩ (u1.trans u2) fr2
theorem leave_step {Q : Unit → Shared → Prop} (hfr : A.frames = some (env :: outer)) (hf : env.frame = some L) (fr : s.heap.FunFrames base (env :: outer)) (F : Fly N e Ca dd s.heap)
    (hQ : ∀ h', Fly N e Ca dd h' → Stp N (frs (env :: outer)) e s.heap h' → h'.FunFrames base (env :: outer) → Q () { s with heap := h' }) : wpAny M A (leaving env (.ref e)) Q E s := by
  unfold leaving
  exact wpAny_bind (on_step hfr hf fr F hQ)
end
end MR
set_option Elab.async false
set_option linter.all false
set_option maxRecDepth 100000
set_option maxHeartbeats 1000000
namespace MR
open PySem PySem.Spec PyProof.Rows L2
theorem hok_stp {P : Program} {w : World} {H : Hp} {h h' : Heap} {N : Nat} {fs : List Addr} {e Ca : Addr} {dd : Option Addr} (ok : HOk P w H h) (hf : ∀ b ∈ fs, H b = none) (tr : ∀ b o, H b = some o → b < N) (S : Stp N fs e h h')
    (me : H e = some (.ext (ExcIs e Ca dd false))) (x : ExcIs e Ca dd false h') : HOk P w H h' := fun a o q => by
  by_cases ha : a = e
  · subst ha
    rw [me] at q
    cases q
    obtain ⟨o, vs, h1, r⟩ := id x
    refine ⟨x, ⟨o, h1⟩, fun h1 h2 ⟨o1, ws, q1, r1⟩ k => ⟨o1, ws, k _ q1, r1⟩⟩
  · refine (ok a o q).stay (fun b u hb z => ?_) (fun _ z => z) fun _ _ z => z
    have hbt : ∃ ob, H b = some ob := by
      rcases hb with hb | hb
      · exact ⟨o, by rw [hb]; exact q⟩
      · exact ⟨_, hb⟩
    obtain ⟨ob, hob⟩ := hbt
    refine S.keep b u (tr b ob hob) (fun m => by rw [hf b m] at hob; cases hob) ?_ z
    rintro rfl
    rcases hb with hb | hb
    · exact ha hb.symm
    · rw [me] at hb; cases hb
theorem Un.stp {fs fs' : List Addr} {H H' : Hp} {h0 h h' : Heap} {N : Nat} {e : Addr} (u : Un fs [] H H' h0 h) (S : Stp N fs' e h h') (hN : ∀ b o, h0.get? b = some o → b < N ∧ (b ∉ fs → b ∉ fs')) (hs : ∀ b ∈ fs, b ∈ fs') (me : H' e ≠ none) : Un fs [] H H' h0 h' where
  keep := fun b o q n hb hx => S.keep b o (hN b o q).1 ((hN b o q).2 hb) (fun z => me (by rw [← z]; exact u.free b o q n hx)) (u.keep b o q n hb hx)
  slot := fun b o q n hb hx => by
    obtain ⟨sl, q1⟩ := u.slot b o q n hb hx
    obtain ⟨sl2, q2⟩ := S.slot b _ (hs b hb) q1
    exact ⟨sl2, q2⟩
  free := u.free
  there := fun b o q hx => let ⟨o1, q1⟩ := u.there b o q hx; S.all b o1 q1
  tups := u.tups
  frzs := u.frzs
  tbls := u.tbls
structure Bd (X : Cx) (pins : List (Addr × Obj)) (N : Nat) : Prop where
  s0 : X.s₀.heap.objs.size ≤ N
  lo : X.env.locals < N
  ce : ∀ x c, X.env.cells.lookup x = some c → c < N
  pi : ∀ p ∈ X.pn ++ pins, p.1 < N
theorem Bd.of {X : Cx} {pins : List (Addr × Obj)} {σ : L2.St} {H : Hp} {s : Shared} {N : Nat} (I : L2.Inv X pins σ H s) (h : s.heap.objs.size ≤ N) : Bd X pins N :=
  ⟨Nat.le_trans I.sz h, Nat.lt_of_lt_of_le I.lt h, fun x c q => by
    obtain ⟨v, o, ho, _⟩ := I.cell x c q
    exact Nat.lt_of_lt_of_le (Heap.lt_size ho) h, fun p hp => Nat.lt_of_lt_of_le (Heap.lt_size (I.pin p hp).1) h⟩
structure FlX (X : Cx) (pins : List (Addr × Obj)) (σ : L2.St) (H : Hp) (e Ca : Addr) (dd : Option Addr) (N : Nat) (s : Shared) : Prop where
  inv : L2.Inv X pins σ H s
  bd : Bd X pins N
  fly : Fly N e Ca dd s.heap
  tr : ∀ b o, H b = some o → b < N
  me : H e = some (.ext (ExcIs e Ca dd false))
section
variable {X : Cx} {pins : List (Addr × Obj)} {σ : L2.St} {H : Hp} {s : Shared} {e Ca : Addr} {dd : Option Addr} {N : Nat} {h' : Heap}
theorem FlX.stk (F : FlX X pins σ H e Ca dd N s) : ∀ b ∈ frs X.stack, H b = none := F.inv.stkFree
theorem Inv.stepX {t' : Nat} (I : L2.Inv X pins σ H s) (bd : Bd X pins N) (tr : ∀ b o, H b = some o → b < N) (me : H e = some (.ext (ExcIs e Ca dd false))) (S : Stp N (frs X.stack) e s.heap h') (fl : ExcIs e Ca dd false h') : L2.Inv X pins σ H { s with heap := h', toks := t' } := by
  refine I.call (g' := s.gens) (d' := s.drawn) (t' := t') (h' := h') (ch := (List.range s.heap.objs.size).filter (N ≤ ·)) ⟨fun b o q n hb hx => ?_, fun b o q n hb hx => S.slot b o hb q, fun _ _ _ n _ => n, fun b o q _ => S.all b o q, fun _ _ z => z, fun _ _ _ z => z, fun b ps z => ⟨#[], by rw [z]; simp⟩⟩ (hok_stp I.hok I.stkFree tr S me fl) I.bare (fun b hb => ?_)
  · refine S.keep b o ?_ hb (fun z => by rw [z, me] at n; cases n) q
    by_cases hl : b < N
    · exact hl
    · exact absurd (List.mem_filter.mpr ⟨List.mem_range.mpr (Heap.lt_size q), by simpa using hl⟩) hx
  · have hb : N ≤ b := by simpa using (List.mem_filter.mp hb).2
    refine ⟨.inr (Nat.le_trans bd.s0 hb), fun z => absurd bd.lo (by rw [← z]; exact Nat.not_lt.mpr hb), fun x c q z => absurd (bd.ce x c q) (by rw [z]; exact Nat.not_lt.mpr hb), fun p hp z => absurd (bd.pi p hp) (by rw [z]; exact Nat.not_lt.mpr hb)⟩
theorem FlX.step (F : FlX X pins σ H e Ca dd N s) (S : Stp N (frs X.stack) e s.heap h') (fl : Fly N e Ca dd h') : FlX X pins σ H e Ca dd N { s with heap := h' } :=
  ⟨Inv.stepX (t' := s.toks) F.inv F.bd F.tr F.me S fl.excIs, F.bd, fl, F.tr, F.me⟩
end
noncomputable def CFl (P : Program) (w : World) (K : PySem.W.Frag) (outer : List PySem.Env) (H : Hp) (α : List Addr) (s : Shared) (n : Nat) (L' : UH) (e : Value) (s' : Shared) : Prop :=
  ∃ ea Ca dd N H' α', e = .ref ea ∧ s'.os = s.os ∧ AllBare s'.gens ∧ Un (frs outer) [] H H' s.heap s'.heap ∧ HOk P w H' s'.heap ∧ s.heap.objs.size ≤ N ∧ Fly N ea Ca dd s'.heap ∧ (∀ b o, H' b = some o → b < N) ∧
    H' ea = some (.ext (ExcIs ea Ca dd false)) ∧ Gr H α H' α' ∧ Abs K H' α' L' ∧ α'[n]? = some ea
noncomputable abbrev XN := List U → UH → Option (Nat × UH)
structure FnX (P : Program) (w : World) (K : PySem.W.Frag) (mg : Str → Option Value) (base : Heap) (k : Nat) (f : Addr) (fd : FuncData) (ps : List Str) (x : XN) : Prop where
  run : ∀ (A : Around) (outer : List PySem.Env) (s : Shared) (H : Hp) (args : Args) (us : List Value) (vs : List V) (α : List Addr) (L : UH) (ws : List U) (n : Nat) (L' : UH), Room k A → Env0 P w K mg base A outer s H → BindsTo s fd args (ps.zip us) → Vals vs us →
    Abs K H α L → RepL K H α ws vs → ws.length = ps.length → x ws L = some (n, L') → codeAny (model P w) A (.call (.ref f) args) (fun r s' => ∃ e, r = .error e ∧ CFl P w K outer H α s n L' e s') s
noncomputable abbrev XS := UE → UH → Option (Nat × UE × UH)
noncomputable abbrev XE := UE → UH → Option (Nat × UH)
noncomputable def FXP (X : Cx) (pins : List (Addr × Obj)) (H : Hp) (α : List Addr) (n : Nat) (δ' : UE) (L' : UH) (e : Value) (s' : Shared) : Prop :=
  ∃ ea Ca dd N σ' H' α', e = .ref ea ∧ FlX X pins σ' H' ea Ca dd N s' ∧ Gr H α H' α' ∧ Abs X.K H' α' L' ∧ RepS X.K H' α' δ' σ' ∧ α'[n]? = some ea
theorem FXP.from {X : Cx} {pins : List (Addr × Obj)} {H H1 : Hp} {α α1 : List Addr} {n : Nat} {δ' : UE} {L' : UH} {e : Value} {s' : Shared} (g : Gr H α H1 α1) (h : FXP X pins H1 α1 n δ' L' e s') : FXP X pins H α n δ' L' e s' := by
  obtain ⟨ea, Ca, dd, N, σ', H', α', h1, h2, h3, r⟩ := h
  exact ⟨ea, Ca, dd, N, σ', H', α', h1, h2, g.trans h3, r⟩
noncomputable def PXE (X : Cx) (e : Expr) (x : XE) : Prop := ∀ (pins : List (Addr × Obj)) (s : Shared) (σ : L2.St) (H : Hp) (α : List Addr) (δ : UE) (L : UH) (n : Nat) (L' : UH), L2.Inv X pins σ H s → Abs X.K H α L → RepS X.K H α δ σ → x δ L = some (n, L') →
  wpAny (model X.prog X.w) X.A (eval e X.env) (fun _ _ => False) (FXP X pins H α n δ L') s
noncomputable def PXS (X : Cx) (st : Stmt) (x : XS) : Prop := ∀ (pins : List (Addr × Obj)) (s : Shared) (σ : L2.St) (H : Hp) (α : List Addr) (δ : UE) (L : UH) (n : Nat) (δ' : UE) (L' : UH), L2.Inv X pins σ H s → Abs X.K H α L → RepS X.K H α δ σ → x δ L = some (n, δ', L') →
  wpAny (model X.prog X.w) X.A (exec st X.env) (fun _ _ => False) (FXP X pins H α n δ' L') s
noncomputable def PXSs (X : Cx) (sts : List Stmt) (x : XS) : Prop := ∀ (pins : List (Addr × Obj)) (s : Shared) (σ : L2.St) (H : Hp) (α : List Addr) (δ : UE) (L : UH) (n : Nat) (δ' : UE) (L' : UH), L2.Inv X pins σ H s → Abs X.K H α L → RepS X.K H α δ σ → x δ L = some (n, δ', L') →
  wpAny (model X.prog X.w) X.A (execs sts X.env) (fun _ _ => False) (FXP X pins H α n δ' L') s
section
variable {X : Cx} {e : Expr} {es : List Expr} {st : Stmt} {pins : List (Addr × Obj)} {s : Shared} {σ : L2.St} {H : Hp} {α : List Addr} {δ : UE} {L L' : UH} {E : Value → Shared → Prop}
theorem PEF.go {f : FE} {u : U} {Q : Value → Shared → Prop} (h : PEF X e f) (hx : ∀ e s, X.xe e s → False) (I : L2.Inv X pins σ H s) (A : Abs X.K H α L) (S : RepS X.K H α δ σ) (hf : f δ L = some (u, L'))
    (q : ∀ x v H' α' s', L2.Inv X pins σ H' s' → Gr H α H' α' → Abs X.K H' α' L' → RepU X.K H' α' u v → RelV v x → Q x s') : wpAny (model X.prog X.w) X.A (eval e X.env) Q E s :=
  wpAny_mono (h pins s σ H (fun v H' => ∃ α', Gr H α H' α' ∧ Abs X.K H' α' L' ∧ RepU X.K H' α' u v) I ⟨α, δ, L, A, S, u, L', hf, fun v H' α' g A' r => ⟨α', g, A', r⟩⟩) (fun x s' ⟨v, H', I', rv, α', g, A', r⟩ => q x v H' α' s' I' g A' r rv) fun _ _ z => (hx _ _ z).elim
theorem PTF.go {f : FT} {b : Bool} {Q : Bool → Shared → Prop} (h : PTF X e f) (hx : ∀ e s, X.xe e s → False) (I : L2.Inv X pins σ H s) (A : Abs X.K H α L) (S : RepS X.K H α δ σ) (hf : f δ L = some (b, L'))
    (q : ∀ H' α' s', L2.Inv X pins σ H' s' → Gr H α H' α' → Abs X.K H' α' L' → Q b s') : wpAny (model X.prog X.w) X.A (isTrue e X.env (eval e X.env)) Q E s :=
  wpAny_mono (h pins s σ H (fun b' H' => b' = b ∧ ∃ α', Gr H α H' α' ∧ Abs X.K H' α' L') I ⟨α, δ, L, A, S, b, L', hf, fun H' α' g A' => ⟨rfl, α', g, A'⟩⟩) (fun x s' ⟨H', I', hb, α', g, A'⟩ => by subst hb; exact q H' α' s' I' g A') fun _ _ z => (hx _ _ z).elim
theorem PAF.go {f : FA} {us : List U} {pos : Pos} {Q : List Value → Shared → Prop} (h : PAF X es f) (hx : ∀ e s, X.xe e s → False) (I : L2.Inv X pins σ H s) (A : Abs X.K H α L) (S : RepS X.K H α δ σ) (hf : f δ L = some (us, L'))
    (q : ∀ xs vs H' α' s', L2.Inv X pins σ H' s' → Gr H α H' α' → Abs X.K H' α' L' → RepL X.K H' α' us vs → Vals vs xs → Q xs s') : wpAny (model X.prog X.w) X.A (spliced (backTo pos (starEach es X.env))) Q E s :=
  wpAny_mono (h pos pins s σ H (fun vs H' => ∃ α', Gr H α H' α' ∧ Abs X.K H' α' L' ∧ RepL X.K H' α' us vs) I ⟨α, δ, L, A, S, us, L', hf, fun vs H' α' g A' r => ⟨α', g, A', r⟩⟩) (fun x s' ⟨vs, H', I', rv, α', g, A', r⟩ => q x vs H' α' s' I' g A' r rv) fun _ _ z => (hx _ _ z).elim
end
section
variable {X : Cx} {e : Expr} {es : List Expr} {st : Stmt} {rest : List Stmt} {pos : Pos}
noncomputable def xNo : XS := fun _ _ => none
noncomputable def xSeq (f : FS) (x y : XS) : XS := fun δ L => match x δ L with
  | some r => some r
  | none => match f δ L with
    | some (.nx δ', L') => y δ' L'
    | _ => none
theorem xss_one {x : XS} (h1 : PXS X st x) : PXSs X [st] x := by
  intro pins s σ H α δ L n δ' L' I A S q
  exact wpAny_execs_cons (wpAny_mono (h1 pins s σ H α δ L n δ' L' I A S q) (fun _ _ z => z.elim) fun _ _ z => z)
noncomputable def xOf (x : XE) : XS := fun δ L => (x δ L).map fun r => (r.1, δ, r.2)
theorem xOf_at {x : XE} {δ δ' : UE} {L L' : UH} {n : Nat} (q : xOf x δ L = some (n, δ', L')) : x δ L = some (n, L') ∧ δ' = δ := by
  unfold xOf at q
  obtain ⟨r, h1, h2⟩ := Option.map_eq_some_iff.mp q
  cases h2
  exact ⟨h1, rfl⟩
theorem xs_ret {x : XE} (h : PXE X e x) : PXS X (.Return (some e) pos) (xOf x) := by
  intro pins s σ H α δ L n δ' L' I A S q
  obtain ⟨q, rfl⟩ := xOf_at q
  exact wpAny_Return_some (wpAny_mono (h pins s σ H α δ' L n L' I A S q) (fun _ _ z => z.elim) fun _ _ z => z)
noncomputable def xIf (c : FT) (x y : XS) : XS := fun δ L => match c δ L with
  | some (b, L1) => if b = true then x δ L1 else y δ L1
  | none => none
theorem xs_if {c : Expr} {a b : List Stmt} {tc : FT} {x y : XS} (hc : PTF X c tc) (ha : PXSs X a x) (hb : PXSs X b y) (hx : ∀ e s, X.xe e s → False := by exact fun _ _ z => z) : PXS X (.If c a b pos) (xIf tc x y) := by
  intro pins s σ H α δ L n δ' L' I A S q
  unfold xIf at q
  split at q
  · rename_i k L1 q1
    refine wpAny_If (hc.go hx I A S q1 fun H1 α1 s1 I1 g1 A1 => ?_)
    cases k with
    | true => exact wpAny_mono (ha pins s1 σ H1 α1 δ L1 n δ' L' I1 A1 (S.mono g1) q) (fun _ _ z => z.elim) fun _ _ z => z.from g1
    | false => exact wpAny_mono (hb pins s1 σ H1 α1 δ L1 n δ' L' I1 A1 (S.mono g1) q) (fun _ _ z => z.elim) fun _ _ z => z.from g1
  · cases q
theorem xss_no {sts : List Stmt} : PXSs X sts xNo := fun _ _ _ _ _ _ _ _ _ _ _ _ _ z => nomatch z
end
section
variable {X : Cx} {e o : Expr} {es : List Expr} {p pos apos : Pos} {x m C : Str} {k n : Nat} {f fa Ca : Addr} {fd : FuncData} {ps : List Str} {F : XN} {g : FA} {fo : FE}
theorem run_fx {pins : List (Addr × Obj)} {σ : L2.St} {H : Hp} {α : List Addr} {δ : UE} {L L' : UH} {s : Shared} {us : List Value} {vs : List V} {ws : List U} {r : Nat} {Q : Value → Shared → Prop} (hF : FnX X.prog X.w X.K X.mg X.base k f fd ps F) (hr : Room k X.A) (hb : Binds X.K fd ps [])
    (I : L2.Inv X pins σ H s) (A : Abs X.K H α L) (S : RepS X.K H α δ σ) (rv : Vals vs us) (rl : RepL X.K H α ws vs) (hl : ws.length = ps.length) (q : F ws L = some (r, L')) :
    wpAny (model X.prog X.w) X.A (call (.ref f) us) Q (FXP X pins H α r δ L') s := by
  have h1 : us.length = ps.length := by rw [← rv.length, ← rl.length]; exact hl
  have hbt : BindsTo s fd ⟨us, []⟩ (ps.zip us) := by have := hb s us I.kIn (by rw [List.append_nil]; exact h1); rwa [List.append_nil] at this
  refine wpAny_call (codeAny_mono (hF.run X.A X.stack s H ⟨us, []⟩ us vs α L ws r L' hr I.env0 hbt rv A rl hl q) fun res s' hq => ?_)
  obtain ⟨ev, rfl, ea, Cx, dd, N, H', α', rfl, os, bare, un, hok, hN, fl, tr, me, g', A', at'⟩ := hq
  refine ⟨ea, Cx, dd, N, σ, H', α', rfl, ⟨?_, .of I hN, fl, tr, me⟩, g', A', S.mono g', at'⟩
  exact I.call' os un hok bare fun b z => absurd z (by simp)
noncomputable def xOwn (n : Nat) (F : XN) (g : FA) : XE := fun δ L => (g δ L).bind fun p => if p.1.length = n then F p.1 p.2 else none
theorem xe_call (hF : FnX X.prog X.w X.K X.mg X.base k f fd ps F) (hr : Room k X.A) (hg : Gl X x) (hm : X.mg x = some (.ref f)) (hk : PySem.W.keepIn X.K (.ref f) = true) (hb : Binds X.K fd ps []) (ha : PAF X (e :: es) g)
    (hn : n = ps.length := by rfl) (hx : ∀ e s, X.xe e s → False := by exact fun _ _ z => z) (hdb : (x == ("__debug__" : Str)) = false := by decide) (he : starEach (e :: es) X.env = (false, eval e X.env) :: starEach es X.env := by rfl) (hpl : (backTo pos (starEach es X.env)).any (·.1) = false := by rfl) :
    PXE X (.Call (.Name x p) (e :: es) [] pos) (xOwn n F g) := by
  intro pins s σ H α δ L r L' I A S q
  obtain ⟨⟨ws, L1⟩, q1, q⟩ := Option.bind_eq_some_iff.mp q
  simp only at q
  split at q
  · rename_i hl
    refine wpAny_Call_Name_kw (ld_glob I hg hm ?_ hdb)
    refine PySem.W.callWith_K (h₀ := X.base) I.ok.mod.kin hk (ha.go hx I A S q1 fun us vs H1 α1 s1 I1 g1 A1 rl rv => ⟨I1.kIn, ?_⟩) he hpl
    exact wpAny_mono (run_fx (Q := fun _ _ => False) (δ := δ) hF hr hb I1 A1 (S.mono g1) rv rl (hl.trans hn) q) (fun _ _ z => z) fun _ _ z => z.from g1
  · cases q
end
noncomputable def fnX (N m : Nat) (x : XS) : XN := fun us L => if us.length = m then (x (us.map some ++ List.replicate (N - us.length) none) L).map fun r => (r.1, r.2.2) else none
section
variable {P : Program} {w : World} {K : PySem.W.Frag} {mg : Str → Option Value} {base : Heap}
theorem Fun.okX {x qual : Str} {st : Stmt} {f : Addr} {fd : FuncData} {N ps : List Str} {k : Nat} {body : XS} (F : Fun K x qual st f fd) (S : FnScope N ps (defScope st))
    (hbody : ∀ (cdv : Value) (A : Around) (outer : List PySem.Env) (s : Shared) (H : Hp) (E : XK), Room k (A.deeper (envOfC qual (defScope st) s.heap.objs.size f cdv)) → PXSs (cxOf CX0 P w K mg base N qual (defScope st) f cdv A outer s H E).nox (defBody st) body) :
    FnX P w K mg base (k + 1) f fd ps (fnX N.length ps.length body) := by
  obtain ⟨oc, od, kV, doc, pm, an, cdv, ct, osl, rfl, lk, hcd⟩ := F.ex
  refine ⟨fun A outer s H args us vs α L ws n L' hr e0 hb rv Ab rl hl q => ?_⟩
  unfold fnX at q
  rw [if_pos hl] at q
  obtain ⟨⟨n1, δ1, L1⟩, qb, q2⟩ := Option.map_eq_some_iff.mp q
  cases q2
  have hvl : vs.length = ps.length := by rw [← rl.length]; exact hl
  have KX : K.In s.heap := e0.mod.kin.keeps fun b o e => (e0.bs b o e).1
  have lim : s.heap.NoLimit := e0.mod.nolimit.keeps fun b o e => (e0.bs b o e).1
  have hkind : ∀ y ∈ ps.zip us, (defScope st).names.lookup y.1 = some .local ∨ ((defScope st).names.lookup y.1 = some .cell ∧ ((cellsFrom (s.heap.objs.size + 1) (defScope st).names []).lookup y.1).isSome = true) := fun ⟨y, v⟩ hy => by
    rcases S.par y (List.of_mem_zip hy).1 with z | z
    · exact .inl z
    · exact .inr ⟨z, PySem.W.cellsFrom_some _ _ _ (.inl z)⟩
  refine codeAny_call_function hr.depth (KX _ _ lk) rfl S.co S.gen rfl (PySem.W.codeRec_of KX hcd) (hb _ _ _ _ ?_)
  refine wpAny_newFunctionEnv_cells S.kind hkind fun env he s1 xc => ?_
  subst he
  refine ⟨lim.keeps xc.toInCall.keep, codeAny_func ?_⟩
  have I : L2.Inv (cxOf CX0 P w K mg base N qual (defScope st) f cdv A outer s H E0) [] (start N vs) H s1 := inv_start S hr.hd e0 hvl rv xc
  refine wpAny_mono (hbody cdv A outer s H E0 (hr.deeper _) [] s1 (start N vs) H α _ L n1 δ1 L1 (I.wish _) Ab (RepS.start N rl) qb) (fun _ _ z => z.elim) fun e s' hs => ?_
  obtain ⟨ea, Ca, dd, Nn, σ', H', α', rfl, Fl, g', A', S', at'⟩ := hs
  refine leave_step (Around.frames_deeper e0.frames) rfl Fl.inv.stack Fl.fly fun h2 fl2 st2 fr2 => ?_
  have J := Fl.inv
  refine ⟨_, rfl, ea, Ca, dd, Nn, H', α', rfl, J.os, J.bare, ?_, hok_stp J.hok J.stkFree Fl.tr st2 Fl.me fl2.excIs, Fl.bd.s0, fl2, Fl.tr, Fl.me, g', A', at'⟩
  refine Un.stp (fs := frs outer) J.base st2 (fun b o hb => ⟨Nat.lt_of_lt_of_le (Heap.lt_size hb) Fl.bd.s0, fun nb m => ?_⟩) (fun b hb => ?_) (by rw [Fl.me]; intro z; cases z)
  · rcases List.mem_cons.mp (J.stkSub b m) with z | z
    · exact absurd (Heap.lt_size hb) (by rw [z]; exact Nat.not_lt.mpr J.ok.above)
    · exact nb z
  · show b ∈ frs (_ :: outer)
    unfold frs
    rw [List.filterMap_cons]
    exact List.mem_cons_of_mem _ hb
end
end MR
set_option Elab.async false
set_option linter.all false
set_option maxRecDepth 100000
set_option maxHeartbeats 1000000
namespace MR
open PySem PySem.Spec PyProof.Rows L2
noncomputable def bmV : List Value := [.type "ValueError", .type "Exception", .type "BaseException", .type "object"]
noncomputable def excI (K : PySem.W.Frag) (C : Addr) : Bool := match K.lookup C with
  | some ⟨.type "type", _, .cls cd, sl⟩ => (match cd.mro, sl.toList with
    | .ref D :: bm, [_, _, _, _, some (.builtin n), _] => D == C && n == "ValueError.__new__" && !cd.hasDel && PySem.W.tailIn K bmV bm
    | _, _ => false)
  | _ => false
theorem exc_obj {K : PySem.W.Frag} {h : Heap} {C : Addr} (X : K.In h) (q : excI K C = true) : ∃ nm qn N bs bm hdct sn sub ab col dd k0 k1 k2 k3 k5,
    h.get? C = some (excClassObj nm qn C N bs bm hdct sn sub ab col dd k0 k1 k2 k3 k5 "ValueError.__new__") ∧ OwnTail h bmV bm := by
  unfold excI at q
  split at q
  · rename_i dd cd sl ho
    split at q
    · rename_i D bm k0 k1 k2 k3 n k5 hm hs
      simp only [Bool.and_eq_true, beq_iff_eq, Bool.not_eq_true'] at q
      obtain ⟨⟨⟨rfl, rfl⟩, hdel⟩, ht⟩ := q
      obtain ⟨nm, bs, mro, ns, qn, hd, sn, sub, ab, col, del⟩ := cd
      dsimp only at hm hdel
      subst hm hdel
      have hsl : sl = #[k0, k1, k2, k3, some (.builtin "ValueError.__new__"), k5] := by
        obtain ⟨l⟩ := sl
        simp only at hs
        rw [hs]
      subst hsl
      exact ⟨nm, qn, ns, bs, bm, hd, sn, sub, ab, col, dd, k0, k1, k2, k3, k5, X _ _ ho, PySem.W.tail_of_in X ht⟩
    · cases q
  · cases q
noncomputable abbrev tupObj (rest : List Value) : Obj := { cls := .type "tuple", data := .seq rest.toArray }
noncomputable abbrev excObj (C t : Addr) : Obj := { cls := .ref C, data := .fields #[.ref t, .none, .none, .none, .bool false, .none] }
noncomputable abbrev exHeap (h : Heap) (C : Addr) (rest : List Value) : Heap := (h.push (tupObj rest)).push (excObj C h.objs.size)
section
variable {prog : Program} {w : World} {A : Around} {E : Value → Shared → Prop} {K : PySem.W.Frag} {C f : Addr} {rest : List Value}
theorem exHeap_e {h : Heap} : (exHeap h C rest).get? (h.objs.size + 1) = some (excObj C h.objs.size) := by
  have := Heap.get?_push_size (h.push (tupObj rest)) (o := excObj C h.objs.size) rfl
  rwa [Heap.size_push] at this
theorem exHeap_k {h : Heap} {b : Addr} {o : Obj} (q : h.get? b = some o) : (exHeap h C rest).get? b = some o := Heap.get?_push_of_some _ (Heap.get?_push_of_some _ q)
theorem tcall_exc {h : Heap} {g : Array GenState} {d : Drawn} {t : Nat} {os : OsState} {Q : Fin → Shared → Prop} (X : K.In h) (q : excI K C = true) (hf : PySem.W.findIn K (.ref C) "__init__" = some (some (.ref f))) (ht : PySem.W.typeIn K (.ref f) = some (.type "function")) (hl : rest.length ≤ sizeLine)
    (k : wpAny (model prog w) A (call (.ref f) (.ref (h.objs.size + 1) :: rest)) (fun r s' => r = .none ∧ Q (.done (.ret (.ref (h.objs.size + 1)))) s') E ⟨exHeap h C rest, g, d, t, os⟩) :
    wpAny (model prog w) A (Builtin.«type.__call__» ⟨.ref C :: rest, []⟩) Q E ⟨h, g, d, t, os⟩ := by
  obtain ⟨nm, qn, N, bs, bm, hdct, sn, sub, ab, col, dd, k0, k1, k2, k3, k5, hC, T⟩ := exc_obj X q
  have FV : ExcBaseFacts "ValueError" "ValueError.__new__" "ValueError.__init__" bmV := PySem.F.excBase_ValueError
  repeat (first | with_reducible refine wpAny_loadPart_at hC ?_ | with_reducible refine wpAny_madeBy_exc hC ?_ | wp_step)
  refine codeAny_call_builtin_code (Code.quiet_builtin _ FV.quiet) (wpAny_check_new_subT FV T hC ?_)
  refine codeAny_exc_new_subT FV T hC ?_ hl
  show wpAny _ _ _ _ _ _
  have hC1 := Heap.get?_push_of_some { cls := .ref C, data := .fields #[.ref h.objs.size, .none, .none, .none, .bool false, .none] } (Heap.get?_push_of_some { cls := .type "tuple", data := .seq rest.toArray } hC)
  have X1 : K.In (exHeap h C rest) := X.keeps fun b o e => exHeap_k e
  have hget : ((h.push { cls := .type "tuple", data := .seq rest.toArray }).push { cls := .ref C, data := .fields #[.ref h.objs.size, .none, .none, .none, .bool false, .none] }).get? (h.objs.size + 1) = some { cls := .ref C, data := .fields #[.ref h.objs.size, .none, .none, .none, .bool false, .none] } := exHeap_e
  have hcC : (Value.ref C :: bm).contains (.ref C) = true := by simp
  unfold isInstance
  repeat (first | with_reducible refine wpAny_loadPart_at hget ?_ | (with_reducible refine wpAny_isSubtype_exc hC1 ?_; rw [hcC]) | wp_step)
  show wpAny _ _ (typeLookup (.ref C) _) _ _ _
  refine PySem.W.Looks.here (s := ⟨exHeap h C rest, g, d, t, os⟩) (PySem.W.looks_findIn X1 hf) ?_
  refine wpAny_holding (wpAny_bind ?_)
  unfold bindSpecial
  refine wpAny_bind (PySem.W.Looks.here (s := ⟨exHeap h C rest, g, d, t, os⟩) (PySem.W.looks_typeIn X1 ht) ?_)
  rw [if_pos (by decide)]
  refine wpAny_pure (wpAny_bind (wpAny_mono k (fun r s' hr => ?_) fun _ _ x => x))
  obtain ⟨rfl, hQ⟩ := hr
  wp_walk
  exact hQ
theorem make_exc {s : Shared} {Q : Value → Shared → Prop} (X : K.In s.heap) (q : excI K C = true) (hf : PySem.W.findIn K (.ref C) "__init__" = some (some (.ref f))) (ht : PySem.W.typeIn K (.ref f) = some (.type "function")) (hl : rest.length ≤ sizeLine)
    (k : wpAny (model prog w) (A.under (.builtin "type.__call__" ⟨.ref C :: rest, []⟩)) (call (.ref f) (.ref (s.heap.objs.size + 1) :: rest)) (fun r s' => r = .none ∧ Q (.ref (s.heap.objs.size + 1)) s') E { s with heap := exHeap s.heap C rest }) :
    wpAny (model prog w) A (call (.ref C) rest) Q E s := by
  obtain ⟨h, g, d, t, os⟩ := s
  obtain ⟨nm, qn, N, bs, bm, hdct, sn, sub, ab, col, dd, k0, k1, k2, k3, k5, hC, T⟩ := exc_obj X q
  have x1 := tc_lookup
  have x2 := tc_bind (.ref C)
  have hT : (⟨h, g, d, t, os⟩ : Shared).TypeIs (.ref C) "type" := ⟨_, hC, rfl⟩
  refine wpAny_call (codeAny_of_tree ?_)
  show wpAny _ _ (callAny (.ref C) _) _ _ _
  repeat (any_goals (first | assumption | with_reducible refine wpAny_loadPart_at hC ?_ | wp_step))
  refine ⟨rfl, ?_⟩
  exact codeAny_call_builtin_at (Code.quiet_builtin _ (by decide +kernel)) entry_typeCall (wpAny_check_type_call_sub hC (tcall_exc X q hf ht hl k))
end
end MR
set_option Elab.async false
set_option linter.all false
set_option maxRecDepth 100000
set_option maxHeartbeats 1000000
namespace MR
open PySem PySem.Spec PyProof.Rows L2
theorem excIs_ok {P : Program} {w : World} {H : Hp} {h : Heap} {e Ca : Addr} {dd : Option Addr} {fr : Bool} (x : ExcIs e Ca dd fr h) : ObjOk P w H h e (.ext (ExcIs e Ca dd fr)) := by
  obtain ⟨o, vs, h1, r⟩ := id x
  exact ⟨x, ⟨o, h1⟩, fun h1 h2 ⟨o1, ws, q1, r1⟩ k => ⟨o1, ws, k _ q1, r1⟩⟩
structure MkX (K : PySem.W.Frag) (C f : Addr) : Prop where
  ex : excI K C = true
  init : PySem.W.findIn K (.ref C) "__init__" = some (some (.ref f))
  fn : PySem.W.isFn K (.ref f) = true
  kp : PySem.W.keepIn K (.ref C) = true
noncomputable def tMakeX (Ca : Addr) (sp : Sp) (t : TA) : TE := fun σ H Q => t σ H fun vs H1 => vs.length ≤ sizeLine ∧ ∀ x, H1 x = none → sp (.ref x :: vs) (upd H1 x (.ext (ExcIs x Ca none true))) (fun v H2 => v = .non ∧ Q (.ref x) H2) E0
section
variable {X : Cx} {k n : Nat} {f Ca : Addr} {fd : FuncData} {ps : List Str} {sp : Sp} {C x : Str} {p pos apos : Pos} {e : Expr} {es : List Expr} {t : TA}
theorem run_makeX {pins : List (Addr × Obj)} {σ : L2.St} {H : Hp} {s : Shared} {Q : VK} {us : List Value} {vs : List V} (M : MkX X.K Ca f) (F : FnOk X.prog X.w X.K X.mg X.base CX0 k f fd ps sp) (hr : Room (k + 1) X.A) (hb : Binds X.K fd ps [])
    (I : L2.Inv X pins σ H s) (r : Vals vs us) (hz : vs.length ≤ sizeLine) (h : ∀ x, H x = none → sp (.ref x :: vs) (upd H x (.ext (ExcIs x Ca none true))) (fun v H2 => v = .non ∧ Q (.ref x) H2) E0) :
    wpAny (model X.prog X.w) X.A (call (.ref Ca) us) (EP X pins σ Q) X.xe s := by
  have hq := h (s.heap.objs.size + 1) (I.hok.fresh (Nat.le_succ _))
  have x0 : ExcIs (s.heap.objs.size + 1) Ca none true (exHeap s.heap Ca us) := ⟨_, _, exHeap_e, rfl, rfl, rfl, by simp, rfl, fun _ => rfl⟩
  have I2 : L2.Inv X pins σ (upd H (s.heap.objs.size + 1) (.ext (ExcIs (s.heap.objs.size + 1) Ca none true))) { s with heap := exHeap s.heap Ca us, toks := s.toks } := I.laid (fun b u q => exHeap_k q) (Nat.le_succ _) (excIs_ok x0)
  have r2 : Vals (V.ref (s.heap.objs.size + 1) :: vs) (Value.ref (s.heap.objs.size + 1) :: us) := .cons rfl r
  have hl : (Value.ref (s.heap.objs.size + 1) :: us ++ []).length = ps.length := by rw [List.append_nil, ← r2.length]; exact F.len _ _ _ _ hq
  have hbt := hb { s with heap := exHeap s.heap Ca us, toks := s.toks } (Value.ref (s.heap.objs.size + 1) :: us) I2.kIn hl
  rw [List.append_nil] at hbt
  refine make_exc (f := f) I.kIn M.ex M.init (beq_iff_eq.mp M.fn) (by rw [← r.length]; exact hz) ?_
  refine wpAny_call (codeAny_mono (F.run _ X.stack _ _ ⟨_, []⟩ _ _ _ E0 (hr.make Ca us []) (I2.env0.make Ca us []) hbt r2 hq) fun r s' hq' => ?_)
  cases r with
  | error e => exact False.elim hq'
  | ok fl =>
    cases fl with
    | ret u =>
      obtain ⟨v, H', I3, rv, ev, q3⟩ := I2.after hq'
      subst ev
      exact ⟨rv, ⟨V.ref (s.heap.objs.size + 1), H', I3, rfl, q3⟩⟩
    | next => exact False.elim hq'
    | brk => exact False.elim hq'
    | cont => exact False.elim hq'
theorem pe_makeX (M : MkX X.K Ca f) (F : FnOk X.prog X.w X.K X.mg X.base CX0 k f fd ps sp) (hr : Room (k + 1) X.A) (hg : Gl X x) (hm : X.mg x = some (.ref Ca)) (hb : Binds X.K fd ps [])
    (ha : PA X (e :: es) t) (hdb : (x == ("__debug__" : Str)) = false := by decide) (he : starEach (e :: es) X.env = (false, eval e X.env) :: starEach es X.env := by rfl) (hpl : (backTo pos (starEach es X.env)).any (·.1) = false := by rfl) :
    PE X (.Call (.Name x p) (e :: es) [] pos) (tMakeX Ca sp t) := by
  intro pins s σ H Q I h
  refine wpAny_Call_Name_kw (ld_glob I hg hm ?_ hdb)
  refine PySem.W.callWith_K (h₀ := X.base) I.ok.mod.kin M.kp (thn (ha pos pins s σ H _ I h) fun us s1 ⟨vs, H1, I1, r, z, q⟩ => ⟨I1.kIn, ?_⟩) he hpl
  exact run_makeX M F hr hb I1 r z q
noncomputable def fMakeX (C : Str) (k : Nat) (F : FN) (g : FA) : FE := fun δ L => (g δ L).bind fun p => if p.1.length + 1 = k ∧ p.1.length ≤ 100 then (F (.ref p.2.length :: p.1) (p.2 ++ [.exc C true []])).bind fun q => match q.1 with | .non => some (.ref p.2.length, q.2) | _ => none else none
theorem pf_makeX {F : FN} {g : FA} (hns : PySem.W.nsIn X.K mainGlobals C = some (some (.ref Ca))) (M : MkX X.K Ca f) (hF : FnOk X.prog X.w X.K X.mg X.base CX0 k f fd ps (spF X.K n F)) (hr : Room (k + 1) X.A) (hg : Gl X C) (hm : X.mg C = some (.ref Ca)) (hb : Binds X.K fd ps [])
    (ha : PAF X (e :: es) g) (hdb : (C == ("__debug__" : Str)) = false := by decide) (he : starEach (e :: es) X.env = (false, eval e X.env) :: starEach es X.env := by rfl) (hpl : (backTo pos (starEach es X.env)).any (·.1) = false := by rfl) :
    PEF X (.Call (.Name C p) (e :: es) [] pos) (fMakeX C n F g) := by
  refine PE.imp (pe_makeX M hF hr hg hm hb ha hdb he hpl) ?_
  rintro σ H Q ⟨α, δ, L, A, S, z, L3, ee, q⟩
  obtain ⟨⟨us, L1⟩, e1, ee⟩ := Option.bind_eq_some_iff.mp ee
  simp only at ee
  split at ee
  · rename_i hlen
    obtain ⟨⟨w, L2⟩, e2, ee⟩ := Option.bind_eq_some_iff.mp ee
    cases w with
    | non =>
      cases ee
      refine ⟨α, δ, L, A, S, us, L1, e1, fun xs H1 α1 g1 A1 r1 => ⟨?_, fun x nx => ?_⟩⟩
      · rw [← r1.length]; exact Nat.le_of_lt (small1000 (by omega))
      obtain ⟨Ab, gb⟩ := A1.new (o := .ext (ExcIs x Ca none true)) (u := .exc C true []) nx ⟨Ca, none, [], hns, upd_same, rfl, rfl, .nil⟩
      have rx : RepU X.K (upd H1 x (.ext (ExcIs x Ca none true))) (α1 ++ [x]) (.ref L1.length) (.ref x) := by
        unfold RepU
        exact ⟨x, by rw [← A1.len]; simp, rfl⟩
      refine ⟨α1 ++ [x], L1 ++ [.exc C true []], .ref L1.length :: us, Ab, .cons rx (r1.mono gb), by simpa using hlen.1, .non, L2, e2, fun v H3 α3 g3 A3 r3 => ?_⟩
      have hv : v = .non := by unfold RepU at r3; exact r3
      exact ⟨hv, q _ H3 α3 (g1.trans (gb.trans g3)) A3 (rx.mono g3)⟩
    | _ => cases ee
  · cases ee
end
noncomputable def bInit (K : PySem.W.Frag) (B : Addr) : Bool := match PySem.W.findCls K (.ref B) (.type "type") "__init__" with
  | some (.val (.builtin id)) => id == "ValueError.__init__"
  | _ => false
structure BInit (K : PySem.W.Frag) (B : Addr) : Prop where
  sp : PySem.W.specialIn K (.ref B) "__getattribute__" = some (some (.builtin "type.__getattribute__"))
  rd : PySem.W.readsIn K B (.type "type") = true
  fd : bInit K B = true
theorem BInit.found {K : PySem.W.Frag} {B : Addr} (b : BInit K B) : PySem.W.findCls K (.ref B) (.type "type") "__init__" = some (.val (.builtin "ValueError.__init__")) := by
  have h := b.fd
  unfold bInit at h
  split at h
  · rename_i id q
    rw [q, beq_iff_eq.mp h]
  · cases h
noncomputable def tBInit (K : PySem.W.Frag) (t : TA) : TE := fun σ H Q => t σ H fun vs H1 => ∃ a Ca dd fr y, vs = [.ref a, y] ∧ H1 a = some (.ext (ExcIs a Ca dd fr)) ∧ excI K Ca = true ∧ Q .non H1
section
variable {X : Cx} {B : Addr} {x : Str} {p pos apos : Pos} {a b : Expr} {t : TA}
theorem call_binit {pins : List (Addr × Obj)} {σ : L2.St} {H : Hp} {s : Shared} {Q : VK} {ea Ca : Addr} {dd : Option Addr} {fr : Bool} {v : Value} (I : L2.Inv X pins σ H s) (he : H ea = some (.ext (ExcIs ea Ca dd fr))) (hc : excI X.K Ca = true) (q : Q .non H) :
    wpAny (model X.prog X.w) X.A (call (.builtin "ValueError.__init__") [.ref ea, v]) (EP X pins σ Q) X.xe s := by
  have x := (I.hok ea _ he).1
  obtain ⟨o, vs, h1, h2, h3, h4, h5, h6, h7⟩ := id x
  obtain ⟨nm, qn, N, bs, bm, hdct, sn, sub, ab, col, dd', k0, k1, k2, k3, k5, hC, T⟩ := exc_obj I.kIn hc
  have FV : ExcBaseFacts "ValueError" "ValueError.__new__" "ValueError.__init__" bmV := PySem.F.excBase_ValueError
  obtain ⟨h, g, d, tk, os⟩ := s
  refine wpAny_call (codeAny_call_builtin FV.init.plain FV.initEntry (wpAny_check_init_subT FV T hC h1 h2 ?_))
  unfold Builtin.«BaseException.__init__»
  dsimp only
  obtain ⟨v0, hv0⟩ : ∃ v0, vs[0]? = some v0 := ⟨vs[0], Array.getElem?_eq_getElem (by omega)⟩
  unfold newTuple Builtin.BaseException.bexcPut
  rw [if_neg (by decide)]
  refine wpAny_bind (wpAny_newObj_type ?_ (by show (1 : Nat) ≤ sizeLine; decide))
  have e2 : (h.push { cls := .type "tuple", data := .seq #[v] }).get? ea = some o := Heap.get?_push_of_some _ h1
  have fin : ∀ s' : Shared, s' = ⟨(h.push { cls := .type "tuple", data := .seq #[v] }).update ea (Obj.mapFields (·.setIfInBounds 0 (Value.ref h.objs.size))), g, d, tk, os⟩ → EP X pins σ Q .none s' := fun s' hs => by
    subst hs
    have hd3 := Obj.data_mapFields h4 (·.setIfInBounds 0 (Value.ref h.objs.size))
    have e3 := Heap.get?_update_self (Obj.mapFields (·.setIfInBounds 0 (Value.ref h.objs.size))) e2 (Obj.isFreed_of_fields hd3)
    refine ⟨.non, H, ?_, rfl, q⟩
    have hupd : upd H ea (.ext (ExcIs ea Ca dd fr)) = H := by
      funext b
      unfold upd
      split
      · rename_i hb; rw [hb, he]
      · rfl
    have J := I.write (h' := (h.push { cls := .type "tuple", data := .seq #[v] }).update ea (Obj.mapFields (·.setIfInBounds 0 (Value.ref h.objs.size)))) (x := ea) (e := ea) (o := .ext (ExcIs ea Ca dd fr)) (t' := tk) (by rw [he]; exact True.intro) (.inl rfl) (fun b u hb z => by
      rw [Heap.get?_update_other _ _ (Ne.symm hb)]
      exact Heap.get?_push_of_some _ z) ⟨_, e3⟩ (excIs_ok (by obtain ⟨o2, g1, g2, g3, g4, g5, g6⟩ := xobj_map h4 ⟨⟨h2, h3⟩, h5, h6⟩ e3; exact ⟨o2, _, g1, g2, g3, g4, g5, g6, fun z => by rw [Array.getElem?_setIfInBounds_ne (by decide)]; exact h7 z⟩))
    rw [hupd] at J
    exact J
  refine wpAny_bind (wpAny_bind (wpAny_field e2 h4 hv0 (wpAny_bind (wpAny_setField e2 h4 (by omega) ?_))))
  cases v0 with
  | ref a0 => exact wpAny_letGo (wpAny_pure (fin _ rfl))
  | _ => exact wpAny_pure (wpAny_pure (fin _ rfl))
theorem pe_binit {pl : Sem Bool} (Bi : BInit X.K B) (hg : Gl X x) (hm : X.mg x = some (.ref B)) (ha : PA X [a, b] t) (hdb : (x == ("__debug__" : Str)) = false := by decide)
    (hst : starEach [a, b] X.env = (false, eval a X.env) :: starEach [b] X.env := by rfl) (hpl : (backTo pos (starEach [b] X.env)).any (·.1) = false := by rfl)
    (ht : eval (.Call (.Attribute (.Name x p) "__init__" apos) [a, b] [] pos) X.env = (do
      let ov ← eval (.Name x p) X.env
      standAt apos.atName
      let (f, first) ← holding [ov] (getMethod ov "__init__" pl)
      callWith pos f first (backTo pos (starEach [a, b] X.env)) (backToKw pos (keywordEach [] X.env))) := by rfl) :
    PE X (.Call (.Attribute (.Name x p) "__init__" apos) [a, b] [] pos) (tBInit X.K t) := by
  intro pins s σ H Q I h
  refine PySem.W.methodCall_KW (pl := pl) (ld_glob I hg hm ?_ hdb) ht
  refine PySem.W.method_cls I.kIn Bi.sp (PySem.W.cls_value I.kIn Bi.rd Bi.found (by decide +kernel) ?_)
  have I1 := I.tok (s.toks + 1)
  have hA := ha pos pins { s with toks := s.toks + 1 } σ H _ I1 h
  rw [hst] at hA ⊢
  refine Calls.callWith_builtin (by show (false || (backTo pos (starEach [b] X.env)).any (·.1)) = false; rw [hpl] <;> rfl) (Calls.evalArgs_plain ?_)
  refine thn hA fun us s2 ⟨vs, H2, I2, r2, ea, Ca, dd, fr, y, hv, he, hc, q2⟩ => ?_
  subst hv
  obtain ⟨u1, u2, rfl, ru1, ru2⟩ := r2.two
  obtain rfl : u1 = Value.ref ea := ru1
  exact call_binit I2 he hc q2
noncomputable def AllX (K : PySem.W.Frag) (Cs : List Str) : Prop := ∀ C ∈ Cs, ∀ Ca, PySem.W.nsIn K mainGlobals C = some (some (.ref Ca)) → excI K Ca = true
noncomputable def fBInitC (Cs : List Str) (g : FA) : FE := fun δ L => (g δ L).bind fun p => match p.1 with
  | [.ref n, _] => match p.2[n]? with
    | some (.exc C _ _) => if C ∈ Cs then some (.non, p.2) else none
    | _ => none
  | _ => none
theorem pf_binit {pl : Sem Bool} {Cs : List Str} {g : FA} (hC : AllX X.K Cs) (Bi : BInit X.K B) (hg : Gl X x) (hm : X.mg x = some (.ref B)) (ha : PAF X [a, b] g) (hdb : (x == ("__debug__" : Str)) = false := by decide)
    (hst : starEach [a, b] X.env = (false, eval a X.env) :: starEach [b] X.env := by rfl) (hpl : (backTo pos (starEach [b] X.env)).any (·.1) = false := by rfl)
    (ht : eval (.Call (.Attribute (.Name x p) "__init__" apos) [a, b] [] pos) X.env = (do
      let ov ← eval (.Name x p) X.env
      standAt apos.atName
      let (f, first) ← holding [ov] (getMethod ov "__init__" pl)
      callWith pos f first (backTo pos (starEach [a, b] X.env)) (backToKw pos (keywordEach [] X.env))) := by rfl) :
    PEF X (.Call (.Attribute (.Name x p) "__init__" apos) [a, b] [] pos) (fBInitC Cs g) := by
  refine PE.imp (pe_binit (pl := pl) Bi hg hm ha hdb hst hpl ht) ?_
  rintro σ H Q ⟨α, δ, L, A, S, z, L3, ee, q⟩
  obtain ⟨⟨us, L1⟩, e1, ee⟩ := Option.bind_eq_some_iff.mp ee
  refine ⟨α, δ, L, A, S, us, L1, e1, fun xs H1 α1 g1 A1 r1 => ?_⟩
  simp only at ee
  split at ee
  · rename_i n w
    split at ee
    · rename_i C fr fs hL
      split at ee
      · rename_i hin
        cases ee
        obtain ⟨x1, x2, rfl, rx1, rx2⟩ := r1.two
        obtain ⟨a, ea, Ca, dd, vs, hns, ha, _⟩ := A1.addr hL
        obtain ⟨a', ea', rfl⟩ := rx1.ref_of A1
        rw [ea] at ea'; cases ea'
        exact ⟨a, Ca, dd, fr, x2, rfl, ha, hC C hin Ca hns, q _ H1 α1 g1 A1 rfl⟩
      · cases ee
    · cases ee
  · cases ee
end
end MR
set_option Elab.async false
set_option linter.all false
set_option maxRecDepth 100000
set_option maxHeartbeats 1000000
namespace MR
open PySem PySem.Spec PyProof.Rows L2
theorem raise_go {M : Model} {A : Around} {E : Value → Shared → Prop} {s : Shared} {env : PySem.Env} {K : PySem.W.Frag} {x : Sem Value} {Q : Flow → Shared → Prop} {Ca ea : Addr} (hh : A.handled = none)
    (h : wpAny M A x (fun v s1 => ∃ ea Ca dd, v = .ref ea ∧ K.In s1.heap ∧ excI K Ca = true ∧ ExcIs ea Ca dd true s1.heap ∧ E (.ref ea) s1) E s) : wpAny M A (raiseStmt env (some x) none) Q E s := by
  unfold raiseStmt
  refine wpAny_bind (wpAny_mono h (fun v s1 h1 => ?_) fun _ _ z => z)
  obtain ⟨ea, Ca, dd, rfl, X, hc, ⟨o, vs, h1, h2, h3, h4, h5, h6, h7⟩, hE⟩ := h1
  obtain ⟨cl, di, da, sl⟩ := o
  dsimp only at h2 h3 h4 h6
  subst h2 h3 h4 h6
  obtain ⟨nm, qn, N, bs, bm, hdct, sn, sub, ab, col, dd', k0, k1, k2, k3, k5, hC, T⟩ := exc_obj X hc
  have hb : (Value.ref Ca :: bm).contains (.type "BaseException") = true := by rw [List.contains_cons, T.hasType PySem.F.excBase_ValueError.hasBase, Bool.or_true]
  obtain ⟨hp, g, d, tk, os⟩ := s1
  have h8 := h7 rfl
  repeat (first | with_reducible refine wpAny_loadPart_at h1 ?_ | with_reducible refine wpAny_loadPart_at hC ?_ | (with_reducible refine wpAny_isSubtype_exc hC ?_; rw [hb]) | with_reducible refine wpAny_field h1 rfl h8 ?_ | wp_step)
  exact wpAny_raiseNew_none hh hE
noncomputable def xRaise (Cs : List Str) (fe : FE) : XS := fun δ L => (fe δ L).bind fun p => match p.1 with
  | .ref n => match p.2[n]? with
    | some (.exc C true fs) => if C ∈ Cs then some (n, δ, p.2.set n (.exc C false fs)) else none
    | _ => none
  | _ => none
section
variable {X : Cx} {e : Expr} {pos : Pos} {fe : FE} {Cs : List Str}
theorem xs_raise (hA : AllX X.K Cs) (he : PEF X e fe) (hc : X.calm = true := by rfl) (hx : ∀ e s, X.xe e s → False := by exact fun _ _ z => z) : PXS X (.Raise (some e) none pos) (xRaise Cs fe) := by
  intro pins s σ H α δ L n δ' L' I A S q
  obtain ⟨⟨u, L1⟩, q1, q2⟩ := Option.bind_eq_some_iff.mp q
  simp only at q2
  split at q2
  · rename_i m
    split at q2
    · rename_i C fs hL
      split at q2
      · rename_i hin
        cases q2
        rw [arm_exec_Raise]
        show wpAny _ _ (do standAt pos; raiseStmt X.env (some (do let v ← eval e X.env; standAt pos; pure v)) none) _ _ _
        refine wpAny_bind (wpAny_standAt (raise_go (K := X.K) (Ca := 0) (ea := 0) (I.ok.hd hc) (wpAny_bind (he.go hx I A S q1 fun x v H1 α1 s1 I1 g1 A1 r1 rv => wpAny_bind (wpAny_standAt (wpAny_pure ?_))))))
        obtain ⟨a, ea, Ca, dd, vs, hns, ha, hd, hk, rr⟩ := A1.addr hL
        obtain ⟨a', ea', rfl⟩ := r1.ref_of A1
        rw [ea] at ea'; cases ea'
        obtain rfl : x = Value.ref a := rv
        have hex := (I1.hok a _ ha).1
        refine ⟨a, Ca, dd, rfl, I1.kIn, hA C hin Ca hns, hex, ?_⟩
        obtain ⟨o, ws, h1, h2, h3, h4, h5, h6, h7⟩ := id hex
        have hxf : ExcIs a Ca dd false s1.heap := ⟨o, ws, h1, h2, h3, h4, h5, h6, fun z => nomatch z⟩
        have g2 : Gr H1 α1 (upd H1 a (.ext (ExcIs a Ca dd false))) α1 := ⟨⟨[], by simp⟩, .write ha (by exact trivial) _⟩
        obtain ⟨A2, _⟩ := A1.put (o := .ext (ExcIs a Ca dd false)) (u := .exc C false fs) ea hL rfl rfl ha (by exact trivial) ⟨Ca, dd, vs, hns, upd_same, hd.stay (fun b o ws q => g2.st.2 b o _ q), hk, rr.mono g2⟩
        have I2 := I1.write (h' := s1.heap) (t' := s1.toks) (x := a) (e := a) (o := .ext (ExcIs a Ca dd false)) (by rw [ha]; exact True.intro) (.inl rfl) (fun b u _ z => z) ⟨_, h1⟩ (excIs_ok hxf)
        refine ⟨a, Ca, dd, s1.heap.objs.size, σ, _, α1, rfl, ⟨I2, .of I1 (Nat.le_refl _), ⟨Nat.le_refl _, .inl ⟨ws, ⟨o, h1, h2, h3, h4, h5, h6⟩, h7 rfl⟩⟩, fun b o2 hb => I2.hok.lt hb, upd_same⟩, g1.trans g2, A2, (S.mono g1).mono g2, ea⟩
      · cases q2
    · cases q2
  · cases q2
end
end MR
set_option Elab.async false
set_option linter.all false
set_option maxRecDepth 100000
set_option maxHeartbeats 1000000
namespace MR
open PySem PySem.Spec PyProof.Rows L2
noncomputable abbrev hld (X : Cx) (e : Addr) : Cx := { X with A := X.A.mark (some (.ref e)), calm := false }
theorem Ok.hld {X : Cx} (ok : X.Ok) (e : Addr) : (hld X e).Ok :=
  ⟨ok.mod, ok.kind, ok.glob, ok.blt, ok.above, ok.inj, ok.has, ok.cab, (fun z => (nomatch z)), ok.frames, ok.stk, ok.exf, ok.bs, ok.bsz, ok.noex, ok.exfs, ok.funs, ok.frf⟩
theorem Inv.hld {X : Cx} {pins : List (Addr × Obj)} {σ : L2.St} {H : Hp} {s : Shared} (I : L2.Inv X pins σ H s) (e : Addr) : L2.Inv (hld X e) pins σ H s := ⟨Ok.hld I.ok e, I.os, I.bare, I.base, I.loc, I.cell, I.free, I.freeC, I.pin, I.hok, I.len⟩
theorem Inv.unhld {X : Cx} {pins : List (Addr × Obj)} {σ : L2.St} {H : Hp} {s : Shared} {e : Addr} (ok : X.Ok) (I : L2.Inv (MR.hld X e) pins σ H s) : L2.Inv X pins σ H s := ⟨ok, I.os, I.bare, I.base, I.loc, I.cell, I.free, I.freeC, I.pin, I.hok, I.len⟩
theorem goes_ok {X : Cx} {pins : List (Addr × Obj)} {σ : L2.St} {H : Hp} {s : Shared} {M : Model} {A : Around} {E : Value → Shared → Prop} {i : Nat} {n : Str} {pos : Pos} {Q : Unit → Shared → Prop} (I : L2.Inv X pins σ H s) (hN : X.N.Nodup) (hi : X.N[i]? = some n) (hl : X.env.kindOf n = some .local)
    (q : ∀ s', L2.Inv X pins (σ.set i none) H s' → Q () s') : wpAny M A (do bindName X.env n .none; unbindBehindTheSuite X.env n pos) Q E s := by
  obtain ⟨m, hn, hloc⟩ := id I.loc
  have hcls : (X.env.scope.kind == .class || (X.env.scope.kind == .module && X.env.locals != X.env.globals)) = false := by rw [I.ok.kind]; rfl
  obtain ⟨oL, _, _, hoL, _⟩ := id hn
  refine wpAny_nameGoes_keeps hl hn hcls fun h' v hn' hs => q _ ?_
  have far : ∀ b o, X.s₀.heap.get? b = some o → b ≠ X.env.locals := fun b o e => Nat.ne_of_lt (Nat.lt_of_lt_of_le (Heap.lt_size e) I.ok.above)
  refine ⟨I.ok, I.os, I.bare, ⟨fun b o e n hb hx => (hs.2 b (far b o e)).trans (I.base.keep b o e n hb hx), fun b o e n hb hx => ?_, I.base.free, fun b o e hx => ?_, I.base.tups, I.base.frzs, I.base.tbls⟩, ⟨_, hn', fun j y w e1 e2 e3 => ?_⟩, fun y c e => ?_, I.free, I.freeC, fun p hp => ?_, fun b ob e => ?_, by simpa using I.len⟩
  · obtain ⟨sl, e1⟩ := I.base.slot b o e n hb hx
    exact ⟨sl, (hs.2 b (far b o e)).trans e1⟩
  · obtain ⟨o', e1⟩ := I.base.there b o e hx
    exact ⟨o', (hs.2 b (far b o e)).trans e1⟩
  · have hj : j ≠ i := by
      rintro rfl
      by_cases hz : j < σ.length
      · rw [List.getElem?_set_self hz] at e2; cases e2
      · rw [List.getElem?_eq_none (by simpa using hz)] at e2; cases e2
    rw [List.getElem?_set_ne (Ne.symm hj)] at e2
    obtain ⟨u, r, l⟩ := hloc j y w e1 e2 e3
    refine ⟨u, r, ?_⟩
    rcases l with ⟨k, e⟩ | ⟨k, c, e, z⟩
    · refine .inl ⟨k, ?_⟩
      have : y ≠ n := fun e => hj (nodup_ix hN e1 (e ▸ hi))
      simp [this, e]
    · exact .inr ⟨k, c, e, z.sameBut hs (I.cne y c e)⟩
  · obtain ⟨w, z⟩ := I.cell y c e
    exact ⟨w, z.sameBut hs (I.cne y c e)⟩
  · obtain ⟨e, n, ne, nf, d⟩ := I.pin p hp
    exact ⟨(hs.2 p.1 ne).trans e, n, ne, nf, d⟩
  · refine (I.hok b ob e).stay (fun c w hc z => (hs.2 c ?_).trans z) (fun _ z => z) fun _ _ z => z
    rintro rfl
    rcases hc with hc | hc
    · rw [← hc, I.free] at e; cases e
    · rw [I.free] at hc; cases hc
theorem RepS.unset {K : PySem.W.Frag} {H : Hp} {α : List Addr} {δ : UE} {σ : L2.St} (h : RepS K H α δ σ) (i : Nat) : RepS K H α (δ.set i none) (σ.set i none) :=
  ⟨by simp [h.len], fun j w e => by
    by_cases hj : i = j
    · subst hj
      by_cases hi : i < δ.length
      · rw [List.getElem?_set_self hi] at e; cases e
      · rw [List.getElem?_eq_none (by simpa using hi)] at e; cases e
    · rw [List.getElem?_set_ne hj] at e
      obtain ⟨v', q, r'⟩ := h.at_ j w e
      exact ⟨v', by rw [List.getElem?_set_ne hj]; exact q, r'⟩⟩
theorem flight_any {M : Model} {A : Around} {E : Value → Shared → Prop} {s : Shared} {base : Heap} {N : Nat} {l : List PySem.Env} {e Ca : Addr} {dd : Option Addr} {Q : Unit → Shared → Prop} (fr : s.heap.FunFrames base l) (F : Fly N e Ca dd s.heap)
    (hQ : ∀ h', Fly N e Ca dd h' → Stp N (frs l) e s.heap h' → h'.FunFrames base l → Q () { s with heap := h' }) : wpAny M A (setFlight (.ref e) none) Q E s := by
  rcases F.2 with ⟨vs, hx, h1⟩ | T
  · obtain ⟨oe, he, hc, hdd, hd, hsz, hsl⟩ := id hx
    unfold setFlight
    refine wpAny_bind (wpAny_field he hd h1 ?_)
    rw [if_neg (by decide)]
    exact wpAny_pure (hQ s.heap F ⟨fun _ _ _ _ _ z => z, fun b o _ z => ⟨o.slots, z⟩, fun b o z => ⟨o, z⟩, Nat.le_refl _⟩ fr)
  · exact flight_step fr T fun h2 F2 u2 fr2 => hQ h2 ⟨Nat.le_trans F.1 u2.sz, .inr F2⟩ u2 fr2
noncomputable def AllM (K : PySem.W.Frag) (Cs : List Str) (D : Addr) : Prop := ∀ C ∈ Cs, ∀ Ca, PySem.W.nsIn K mainGlobals C = some (some (.ref Ca)) → PySem.W.exmOne K (.ref Ca) (.ref D) = some true
noncomputable def fTry (b : FS) (x : XS) (Cs : List Str) (i : Nat) (suite : FS) : FS := fun δ L => match x δ L with
  | some (n, δ1, L1) => match L1[n]? with
    | some (.exc C _ _) => if C ∈ Cs then (suite (δ1.set i (some (.ref n))) L1).bind fun p => match p.1 with
        | .nx δ2 => some (.nx (δ2.set i none), p.2)
        | _ => none
      else none
    | _ => none
  | none => b δ L
section
variable {X : Cx} {body suite : List Stmt} {b0 : Stmt} {x n : Str} {np hpos pos : Pos} {D : Addr} {Cs : List Str} {fb fs : FS} {xb : XS} {i : Nat}
theorem psf_try (hM : AllM X.K Cs D) (hN : X.N.Nodup) (hb : PSsF X body fb) (hx : PXSs X body xb) (hs : ∀ e, PSsF (hld X e) (b0 :: suite) fs) (hg : Gl X x) (hm : X.mg x = some (.ref D))
    (hi : X.N[i]? = some n := by rfl) (hl : X.env.kindOf n = some .local := by rfl) (hxe : ∀ e s, X.xe e s → False := by exact fun _ _ z => z) (hst : X.stack = X.env :: X.outer := by rfl) (hfr : X.env.frame = some X.env.locals := by rfl)
    (hdb : (x == ("__debug__" : Str)) = false := by decide) : PSF X (.Try body [.ExceptHandler (some (.Name x np)) (some n) (b0 :: suite) hpos] [] [] pos) (fTry fb xb Cs i fs) := by
  intro pins s σ H E I h
  obtain ⟨α, δ, L, A, S, fl, L', ee, q⟩ := h
  refine wpAny_Try_except ?_
  unfold fTry at ee
  cases q1 : xb δ L with
  | none =>
    rw [q1] at ee
    refine wpAny_mono (hb pins s σ H E I ⟨α, δ, L, A, S, fl, L', ee, q⟩) (fun f s1 h1 => ?_) fun _ _ z => (hxe _ _ z).elim
    cases f with
    | next => exact wpAny_execs_nil h1
    | ret v => exact h1
    | brk => exact h1
    | cont => exact h1
  | some r =>
    obtain ⟨k, δ1, L1⟩ := r
    rw [q1] at ee
    simp only at ee
    split at ee
    · rename_i C fr0 fs0 hL
      split at ee
      · rename_i hin
        obtain ⟨⟨fl2, L2⟩, e2, e3⟩ := Option.bind_eq_some_iff.mp ee
        cases fl2 with
        | nx δ2 =>
          cases e3
          refine wpAny_mono (hx pins s σ H α δ L k δ1 L1 I A S q1) (fun _ _ z => z.elim) fun ev s1 hf => ?_
          obtain ⟨ea, Ca, dd, N, σ1, H1, α1, rfl, Fl, g1, A1, S1, at1⟩ := hf
          have hfrm : X.A.frames = some (X.env :: X.outer) := by rw [← hst]; exact Fl.inv.ok.frames
          have hstk : s1.heap.FunFrames X.base (X.env :: X.outer) := by rw [← hst]; exact Fl.inv.stack
          refine on_step hfrm hfr hstk Fl.fly fun h2 F2 u2 fr2 => ?_
          have Fl2 := Fl.step (h' := h2) (by rw [hst]; exact u2) F2
          have J2 := Inv.hld Fl2.inv ea
          obtain ⟨ox, vx, y1, y2, _⟩ := id F2.excIs
          obtain ⟨a, ea', Cb, dd', vs, hns, hav, _⟩ := A1.addr hL
          rw [at1] at ea'; cases ea'
          have hCa : Cb = Ca := by
            have hh := Fl.me
            rw [hav] at hh
            have := (Fl2.inv.hok ea _ hav).1
            obtain ⟨o3, _, z1, z2, _⟩ := this
            rw [y1] at z1; cases z1
            rw [y2] at z2; cases z2; rfl
          subst hCa
          have LT : PySem.W.Looks (model X.prog X.w) h2 (typeOf (.ref ea)) (.ref Cb) := by
            have z : PySem.W.Looks (model X.prog X.w) h2 (typeOf (.ref ea)) ox.cls := (PySem.W.Looks.ld y1).andThen .now
            rw [y2] at z
            exact z
          refine wpAny_handleBy_cons (codeAny_handlers_test ?_) (by intro z; cases z)
          refine ld_glob (X := hld X ea) J2 hg hm ?_ hdb
          refine PySem.W.Looks.here (s := { s1 with heap := h2 }) (PySem.W.exm_one Fl2.inv.kIn LT (hM C hin Cb hns)) ?_
          refine codeAny_handlers_suite_as ?_
          refine flight_any (s := { s1 with heap := h2 }) fr2 F2 fun h3 F3 u3 fr3 => ?_
          have Fl3 := Fl2.step (h' := h3) (by rw [hst]; exact u3) F3
          have J3 := Inv.hld Fl3.inv ea
          refine store_ok (X := hld X ea) (v := .ref ea) J3 hN hi (.inl hl) rfl (fun s4 J4 => ?_) (.inr hl)
          refine wpAny_mono (hs ea pins s4 _ H1 { nx := fun σ2 H2 => ∃ α2, Gr H1 α1 H2 α2 ∧ Abs X.K H2 α2 L2 ∧ RepS X.K H2 α2 δ2 σ2, rt := fun _ _ => False } J4 ⟨α1, _, L1, A1, S1.set i (u := .ref k) (v := .ref ea) (by unfold RepU; exact ⟨ea, at1, rfl⟩), .nx δ2, L2, e2, fun σ2 H2 α2 g2 A2 S2 => ⟨α2, g2, A2, S2⟩⟩) (fun f s5 h5 => ?_) fun _ _ z => (hxe _ _ z).elim
          cases f with
          | next =>
            obtain ⟨σ2, H2, J5, α2, g2, A2, S2⟩ := h5
            have I5 := Inv.unhld I.ok J5
            refine goes_ok I5 hN hi hl fun s6 I6 => ?_
            exact ⟨_, H2, I6, q _ H2 α2 (g1.trans g2) A2 (S2.unset i)⟩
          | ret v => obtain ⟨_, _, _, _, _, z⟩ := h5; exact z.elim
          | brk => obtain ⟨_, _, _, z⟩ := h5; exact z.elim
          | cont => obtain ⟨_, _, _, z⟩ := h5; exact z.elim
        | rt w => cases e3
        | bk w => cases e3
        | ct w => cases e3
      · cases ee
    · cases ee
end
end MR
set_option Elab.async false
set_option linter.all false
set_option maxRecDepth 100000
set_option maxHeartbeats 1000000
namespace MR
open PySem PySem.Spec PyProof.Rows L2
noncomputable def excA (K : PySem.W.Frag) (C : Addr) : Bool := excI K C && PySem.W.findIn K (.ref C) "__getattribute__" == some (some (.builtin "BaseException.__getattribute__")) && PySem.W.findIn K (.ref C) "__getattr__" == some none &&
  PySem.W.subIn K (.ref C) (.type "BaseException") == some true && PySem.W.findIn K (.ref C) "__class__" == some (some (.builtin "object.__class__")) && PySem.W.mroIn K C (.type "object") == some true && PySem.W.hasDictIn K C &&
  PySem.W.specialIn K (.builtin "object.__class__") "__get__" == some (some (.builtin "getset_descriptor.__get__")) && PySem.W.takesIn K (.builtin "object.__class__") == some true
structure ExcA (K : PySem.W.Frag) (C : Addr) : Prop where
  ex : excI K C = true
  ga : PySem.W.findIn K (.ref C) "__getattribute__" = some (some (.builtin "BaseException.__getattribute__"))
  gk : PySem.W.findIn K (.ref C) "__getattr__" = some none
  sb : PySem.W.subIn K (.ref C) (.type "BaseException") = some true
  cl : PySem.W.findIn K (.ref C) "__class__" = some (some (.builtin "object.__class__"))
  mo : PySem.W.mroIn K C (.type "object") = some true
  hd : PySem.W.hasDictIn K C = true
  sg : PySem.W.specialIn K (.builtin "object.__class__") "__get__" = some (some (.builtin "getset_descriptor.__get__"))
  tk : PySem.W.takesIn K (.builtin "object.__class__") = some true
theorem excA_of {K : PySem.W.Frag} {C : Addr} (h : excA K C = true) : ExcA K C := by
  unfold excA at h
  simp only [Bool.and_eq_true, beq_iff_eq] at h
  obtain ⟨⟨⟨⟨⟨⟨⟨⟨a, b⟩, c⟩, d⟩, e⟩, f⟩, g⟩, i⟩, j⟩ := h
  exact ⟨a, b, c, d, e, f, g, i, j⟩
noncomputable def isX (C D : Str) : Bool := C == D || D == "BelowError" || D == "ValueError"
noncomputable def clsV (K : PySem.W.Frag) (D : Str) : Option Value := match PySem.W.nsIn K mainGlobals D with
  | some (some (.ref a)) => some (.ref a)
  | some none => if D == "ValueError" then some (.type "ValueError") else none
  | _ => none
noncomputable def xTab (K : PySem.W.Frag) (Cs Ds : List Str) : Bool := Cs.all fun C => match PySem.W.nsIn K mainGlobals C with
  | some (some (.ref a)) => excA K a && Ds.all fun D => match clsV K D with
    | some v => PySem.W.kitOne K (.ref a) v == some (isX C D) && (!isX C D || PySem.W.exmOne K (.ref a) v == some true)
    | none => false
  | _ => false
section
variable {K : PySem.W.Frag} {Cs Ds : List Str}
theorem xTab_at (T : xTab K Cs Ds = true) {C : Str} {Ca : Addr} (hC : C ∈ Cs) (hn : PySem.W.nsIn K mainGlobals C = some (some (.ref Ca))) : ExcA K Ca ∧ ∀ D ∈ Ds, ∃ v, clsV K D = some v ∧ PySem.W.kitOne K (.ref Ca) v = some (isX C D) ∧ (isX C D = true → PySem.W.exmOne K (.ref Ca) v = some true) := by
  have h := List.all_eq_true.mp T C hC
  rw [hn] at h
  simp only [Bool.and_eq_true] at h
  refine ⟨excA_of h.1, fun D hD => ?_⟩
  have h2 := List.all_eq_true.mp h.2 D hD
  split at h2
  · rename_i v hv
    simp only [Bool.and_eq_true, beq_iff_eq, Bool.or_eq_true, Bool.not_eq_true'] at h2
    exact ⟨v, hv, h2.1, fun z => h2.2.resolve_left (by rw [z]; exact Bool.noConfusion)⟩
  · cases h2
theorem AllX.of (T : xTab K Cs Ds = true) : AllX K Cs := fun C hC Ca hn => (xTab_at T hC hn).1.ex
theorem clsV_own {D : Str} {Da : Addr} (h : PySem.W.nsIn K mainGlobals D = some (some (.ref Da))) : clsV K D = some (.ref Da) := by unfold clsV; rw [h]
theorem AllM.of {D : Str} {Da : Addr} (T : xTab K Cs Ds = true) (hD : D ∈ Ds) (hn : PySem.W.nsIn K mainGlobals D = some (some (.ref Da))) (ha : Cs.all (fun C => isX C D) = true) : AllM K Cs Da := fun C hC Ca hc => by
  obtain ⟨v, hv, _, h2⟩ := (xTab_at T hC hc).2 D hD
  rw [clsV_own hn] at hv
  cases hv
  exact h2 (List.all_eq_true.mp ha C hC)
theorem AllM.sub {Es : List Str} {D : Str} {Da : Addr} (T : xTab K Cs Ds = true) (hs : ∀ C ∈ Es, C ∈ Cs) (hD : D ∈ Ds) (hn : PySem.W.nsIn K mainGlobals D = some (some (.ref Da))) (ha : Es.all (fun C => isX C D) = true) : AllM K Es Da := fun C hC Ca hc => by
  obtain ⟨v, hv, _, h2⟩ := (xTab_at T (hs C hC) hc).2 D hD
  rw [clsV_own hn] at hv
  cases hv
  exact h2 (List.all_eq_true.mp ha C hC)
end
section
variable {prog : Program} {w : World} {A : Around} {E : Value → Shared → Prop} {s : Shared} {K : PySem.W.Frag} {x C : Addr} {ox : Obj} {od : Option Obj} {name : Str}
theorem exc_ga {fill expr : Bool} {tk : Tok} {Q : Value → Shared → Prop} (X : K.In s.heap) (T : ExcA K C) (I : PySem.W.InstAt s.heap x ox C od)
    (h : wpAny (model prog w) A.in1 (Builtin.«object.__getattribute__» ⟨[.ref x, .str name tk], []⟩) (fun fin s' => match fin with | .done (.ret v) => wpAny (model prog w) A (handedOut v) Q E s' | _ => False) (fun _ _ => False) s) :
    wpAny (model prog w) A (getAttrBy (.ref x) (.str name tk) fill expr) Q E s := by
  have FB := PySem.F.attr_ValueError
  have hB : (Value.builtin "BaseException.__getattribute__" == Value.builtin "object.__getattribute__") = false := by decide +kernel
  unfold getAttrBy
  refine wpAny_holding (wpAny_bind (I.type.here (wpAny_bind ((PySem.W.looks_findIn X T.ga).here ?_))))
  dsimp only
  rw [hB, Bool.and_false, if_neg (by decide)]
  unfold getAttrByItsOwn
  refine wpAny_bind ((PySem.W.looks_hook X (mc := .ref C) (r := none) (by rw [if_pos (show onTheHeap (.ref C) = true from rfl)]; exact T.gk)).here (wpAny_bind (wpAny_attempt (wpAny_holding ?_))))
  unfold callGetattribute
  rw [show (expr && onTheHeap (Value.builtin "BaseException.__getattribute__")) = false from Bool.and_false _, if_neg (by decide)]
  unfold boundAndCalled
  rw [FB.ga.bind]
  refine wpAny_bind (wpAny_pure ?_)
  show wpAny _ _ (call (.builtin "BaseException.__getattribute__") [.ref x, .str name tk]) _ _ _
  refine wpAny_call (codeAny_call_builtin FB.ga.plain PySem.F.entry_bexc_ga ?_)
  refine @PySem.W.check_slot (model prog w) _ _ s "BaseException.__getattribute__" "BaseException" "__getattribute__" (.ref x) [.str name tk] [] _ (by decide +kernel) (by decide +kernel) (I.type.andThen (PySem.W.looks_subIn X T.sb)) (PySem.F.args_bexc_ga (.ref x) (.str name tk)) ?_
  refine wpAny_mono h (fun fin s' z => ?_) fun _ _ z => z.elim
  rcases fin with (_ | _ | _ | _) | _ <;> first | exact z | exact z.elim
theorem obj_ga {r : Builtin.ObjectAttr.Found} {tk : Tok} {Q : Fin → Shared → Prop} (X : K.In s.heap) (I : PySem.W.InstAt s.heap x ox C od) (hf : PySem.W.findObj K C od name = some r)
    (h : match r with
      | .value v => Q (.done (.ret v)) s
      | .bind g a => wpAny (model prog w) A (call g [a, .ref x, .ref C]) (fun v s' => Q (.done (.ret v)) s') E s
      | .missing => False) : wpAny (model prog w) A (Builtin.«object.__getattribute__» ⟨[.ref x, .str name tk], []⟩) Q E s := by
  unfold Builtin.«object.__getattribute__»
  refine wpAny_bind (wpAny_pure ?_)
  refine wpAny_bind (wpAny_pure ?_)
  refine wpAny_bind (I.type.here (wpAny_bind ((PySem.W.looks_find X I hf).here ?_)))
  cases r with
  | value v => exact wpAny_pure h
  | bind g a =>
    show wpAny _ _ (holding [a] (call g [a, .ref x, .ref C]) >>= ret) _ _ _
    exact wpAny_bind (wpAny_holding (wpAny_mono h (fun v s' z => wpAny_pure z) fun _ _ z => z))
  | missing => exact h.elim
theorem kitx_exc (T : ExcA K C) : PySem.W.KitX K (.ref x) (.ref C) (fun h => PySem.W.InstAt h x ox C od) where
  ty := fun _ _ _ I => I.type
  it := fun _ _ X _ => by
    obtain ⟨cd, hc, _⟩ := PySem.W.any_some T.hd
    unfold PySem.W.clsIn at hc
    split at hc
    · rename_i ho
      intro A' Q' E' s' k q
      unfold isType loadHead
      exact wpAny_bind (wpAny_loadPart (k _ _ (X _ _ ho)) (wpAny_pure q))
    · cases hc
  ne := fun h tp dd its n sl X htp => by
    obtain ⟨cd, hc, _⟩ := PySem.W.any_some T.hd
    refine Bool.eq_false_iff.mpr fun q => ?_
    have e : C = tp := Value.ref.inj (beq_iff_eq.mp q)
    subst e
    unfold PySem.W.clsIn at hc
    split at hc
    · rename_i ho
      have z := (X _ _ ho).symm.trans htp
      cases z
    · cases hc
  ca := fun {prog w A E Q s} X I k => by
    have hf : PySem.W.findObj K C od "__class__" = some (.bind (.builtin "getset_descriptor.__get__") (.builtin "object.__class__")) := by
      obtain ⟨cd, hc, _⟩ := PySem.W.any_some T.hd
      unfold PySem.W.findObj
      rw [hc, Option.bind_some, T.cl, Option.bind_some]
      dsimp only
      rw [T.sg, Option.bind_some]
      dsimp only
      rw [T.tk, Option.bind_some]
    unfold getAttr? getAttrBy?
    refine wpAny_bind (wpAny_mkText (wpAny_bind (wpAny_attempt (exc_ga (s := { s with toks := s.toks + 1 }) X T I (obj_ga (s := { s with toks := s.toks + 1 }) X I hf ?_)))))
    refine wpAny_call (PySem.W.class_get (s := { s with toks := s.toks + 1 }) X I T.mo ?_)
    exact PySem.W.handed_on rfl (wpAny_pure k)
end
section
variable {X : Cx} {Cs Ds : List Str}
theorem inst_of {P : Program} {w : World} {H : Hp} {h : Heap} {a Ca : Addr} {dd : Option Addr} {fr : Bool} {vs : List (Str × V)} (ok : HOk P w H h) (he : H a = some (.ext (ExcIs a Ca dd fr))) (hd : DictIs H dd vs) :
    ∃ ox od, PySem.W.InstAt h a ox Ca od ∧ ox.dict = dd := by
  obtain ⟨o, ws, h1, h2, h3, h4, _⟩ := (ok a _ he).1
  have no : PySem.W.notCls o = true := by unfold PySem.W.notCls; rw [h4]
  cases dd with
  | none => exact ⟨o, none, ⟨h1, h2, no, by rw [h3]; trivial⟩, h3⟩
  | some dx =>
    obtain ⟨_, od, q⟩ := hd
    exact ⟨o, some od, ⟨h1, h2, no, by rw [h3]; exact (ok dx _ q).1⟩, h3⟩
noncomputable def vOf : Value → Option V
  | .ref a => some (.ref a)
  | .type T => some (.ty T)
  | _ => none
theorem call_isx : CallR X (.builtin "isinstance") (fun xs H Q => ∃ a Ca dd fr vs c v b, xs = [.ref a, v] ∧ vOf c = some v ∧ H a = some (.ext (ExcIs a Ca dd fr)) ∧ DictIs H dd vs ∧ ExcA X.K Ca ∧ PySem.W.kitOne X.K (.ref Ca) c = some b ∧ Q (.bl b) H) := by
  intro pins s σ H xs us Q I r h
  obtain ⟨a, Ca, dd, fr, vs, c, v, b, rfl, hc, ha, hd, T, e, q⟩ := h
  obtain ⟨u, u2, rfl, rx, ry⟩ := r.two
  obtain rfl : u = Value.ref a := rx
  have hu : u2 = c := by
    cases c <;> simp [vOf] at hc <;> subst hc <;> exact ry
  subst hu
  obtain ⟨ox, od, J, _⟩ := inst_of I.hok ha hd
  exact PySem.W.kia_one (kitx_exc (ox := ox) (od := od) T) I.kIn J e (fun z => nomatch z) fun tk => ⟨.bl b, H, I.tok _, rfl, q⟩
theorem vals_refs : ∀ {ds : List Addr} {its : List Value}, Vals (ds.map V.ref) its → its = ds.map Value.ref
  | [], _, .nil => rfl
  | _ :: ds, _, .cons r t => by
    rw [vals_refs t]
    exact congrArg (· :: _) r
theorem call_isxt : CallR X (.builtin "isinstance") (fun xs H Q => ∃ (a Ca : Addr) (dd : Option Addr) (fr : Bool) (vs : List (Str × V)) (tp : Addr) (ds : List Addr) (b : Bool), xs = [.ref a, .ref tp] ∧ H tp = some (.tup (ds.map V.ref)) ∧ H a = some (.ext (ExcIs a Ca dd fr)) ∧ DictIs H dd vs ∧ ExcA X.K Ca ∧ PySem.W.kitAny X.K (.ref Ca) (ds.map Value.ref) = some b ∧ Q (.bl b) H) := by
  intro pins s σ H xs us Q I r h
  obtain ⟨a, Ca, dd, fr, vs, tp, ds, b, rfl, ht, ha, hd, T, e, q⟩ := h
  obtain ⟨u, u2, rfl, rx, ry⟩ := r.two
  obtain rfl : u = Value.ref a := rx
  obtain rfl : u2 = Value.ref tp := ry
  obtain ⟨ox, od, J, _⟩ := inst_of I.hok ha hd
  obtain ⟨_, its, rv, o, ho, hcl, n, hda⟩ := I.hok tp _ ht
  rw [vals_refs rv] at hda
  obtain ⟨cl, di, da, sl⟩ := o
  dsimp only at hcl hda
  subst hcl hda
  exact PySem.W.kia_tup (kitx_exc (ox := ox) (od := od) T) I.kIn J ho e (fun z => nomatch z) fun tk => ⟨.bl b, H, I.tok _, rfl, q⟩
noncomputable def excAt (Cs : List Str) (u : U) (L : UH) : Option (Nat × Str × List (Str × U)) := match u with
  | .ref n => match L[n]? with
    | some (.exc C _ fs) => if C ∈ Cs then some (n, C, fs) else none
    | _ => none
  | _ => none
theorem excAt_ok {u : U} {L : UH} {n : Nat} {C : Str} {fs : List (Str × U)} (h : excAt Cs u L = some (n, C, fs)) : u = .ref n ∧ C ∈ Cs ∧ ∃ fr, L[n]? = some (.exc C fr fs) := by
  unfold excAt at h
  split at h
  · split at h
    · rename_i e
      split at h
      · rename_i hc
        cases h
        exact ⟨rfl, hc, _, e⟩
      · cases h
    · cases h
  · cases h
noncomputable def fIsX (Cs : List Str) (D : Str) (f : FE) : FE := fun δ L => (f δ L).bind fun p => (excAt Cs p.1 p.2).map fun t => (.bl (isX t.2.1 D), p.2)
theorem isx_imp {σ : L2.St} {H : Hp} {Q : VK} {K : PySem.W.Frag} {D : Str} {fe : FE} {c : Value} {v : V} (T : xTab K Cs Ds = true) (hD : D ∈ Ds) (hc : clsV K D = some c) (hv : vOf c = some v) (h : lE K (fIsX Cs D fe) σ H Q) :
    tCB (fun xs H Q => ∃ a Ca dd fr vs c v b, xs = [.ref a, v] ∧ vOf c = some v ∧ H a = some (.ext (ExcIs a Ca dd fr)) ∧ DictIs H dd vs ∧ ExcA K Ca ∧ PySem.W.kitOne K (.ref Ca) c = some b ∧ Q (.bl b) H) (tCons (lE K fe) (tCons (tC v) tNil)) σ H Q := by
  obtain ⟨α, δ, L, A, S, z, L3, e, q⟩ := h
  obtain ⟨⟨u, L1⟩, e1, e⟩ := Option.bind_eq_some_iff.mp e
  obtain ⟨⟨n, C, fs⟩, e2, e⟩ := Option.map_eq_some_iff.mp e
  cases e
  obtain ⟨rfl, hC, fr, hL⟩ := excAt_ok e2
  refine ⟨α, δ, L, A, S, _, _, e1, fun x H1 α1 g1 A1 r1 => ?_⟩
  obtain ⟨a, ea, Ca, dd, vs, hns, ha, hd, hk, rr⟩ := A1.addr hL
  obtain ⟨a', ea', rfl⟩ := r1.ref_of A1
  rw [ea] at ea'; cases ea'
  obtain ⟨TA, TD⟩ := xTab_at T hC hns
  obtain ⟨c', hc', hk', _⟩ := TD D hD
  rw [hc] at hc'; cases hc'
  exact ⟨a, Ca, dd, fr, vs, c, v, _, rfl, hv, ha, hd, TA, hk', q _ H1 α1 g1 A1 rfl⟩
theorem pf_isx {e : Expr} {fe : FE} {p p2 pos : Pos} {D : Str} {Da : Addr} (T : xTab X.K Cs Ds = true) (hD : D ∈ Ds) (hns : PySem.W.nsIn X.K mainGlobals D = some (some (.ref Da))) (he : PEF X e fe) (hg : Gl X "isinstance") (hm : X.mg "isinstance" = none) (hg2 : Gl X D) (hm2 : X.mg D = some (.ref Da))
    (hdb : (D == ("__debug__" : Str)) = false := by decide)
    (hs : starEach [e, .Name D p2] X.env = (false, eval e X.env) :: starEach [.Name D p2] X.env := by rfl) (hs2 : starEach [.Name D p2] X.env = (false, eval (.Name D p2) X.env) :: starEach [] X.env := by rfl)
    (hpl : (backTo pos (starEach [.Name D p2] X.env)).any (·.1) = false := by rfl) : PEF X (.Call (.Name "isinstance" p) [e, .Name D p2] [] pos) (fIsX Cs D fe) :=
  PE.imp (pe_callB call_isx hg hm (by decide +kernel) (pa_cons he (pa_cons (pe_glob hg2 hm2 (v := .ref Da) rfl hdb) pa_nil hs2) hs) (by decide) (by decide) hs hpl) fun σ H Q h => isx_imp T hD (clsV_own hns) rfl h
theorem pf_isxV {e : Expr} {fe : FE} {p p2 pos : Pos} (T : xTab X.K Cs Ds = true) (hD : ("ValueError" : Str) ∈ Ds) (hns : PySem.W.nsIn X.K mainGlobals "ValueError" = some none) (he : PEF X e fe) (hg : Gl X "isinstance") (hm : X.mg "isinstance" = none) (hg2 : Gl X "ValueError") (hm2 : X.mg "ValueError" = none)
    (hs : starEach [e, .Name "ValueError" p2] X.env = (false, eval e X.env) :: starEach [.Name "ValueError" p2] X.env := by rfl) (hs2 : starEach [.Name "ValueError" p2] X.env = (false, eval (.Name "ValueError" p2) X.env) :: starEach [] X.env := by rfl)
    (hpl : (backTo pos (starEach [.Name "ValueError" p2] X.env)).any (·.1) = false := by rfl) : PEF X (.Call (.Name "isinstance" p) [e, .Name "ValueError" p2] [] pos) (fIsX Cs "ValueError" fe) :=
  PE.imp (pe_callB call_isx hg hm (by decide +kernel) (pa_cons he (pa_cons (pe_bltn hg2 hm2 (u := .type "ValueError") (by decide +kernel) (v := .ty "ValueError") rfl) pa_nil hs2) hs) (by decide) (by decide) hs hpl) fun σ H Q h => isx_imp (c := .type "ValueError") T hD (by unfold clsV; rw [hns]; rfl) rfl h
inductive Names (X : Cx) : List Str → List Addr → List Expr → Prop where
  | nil : Names X [] [] []
  | cons {D : Str} {Da : Addr} {Dn : List Str} {ds : List Addr} {es : List Expr} {p2 : Pos} (hns : PySem.W.nsIn X.K mainGlobals D = some (some (.ref Da))) (hg2 : Gl X D) (hm2 : X.mg D = some (.ref Da)) (t : Names X Dn ds es)
      (hdb : (D == ("__debug__" : Str)) = false := by decide) (hs : starEach (.Name D p2 :: es) X.env = (false, eval (.Name D p2) X.env) :: starEach es X.env := by rfl) : Names X (D :: Dn) (Da :: ds) (.Name D p2 :: es)
theorem Names.pa {Dn : List Str} {ds : List Addr} {es : List Expr} (h : Names X Dn ds es) : PA X es (fun _ H Q => Q (ds.map V.ref) H) := by
  induction h with
  | nil => exact pa_nil
  | cons hns hg2 hm2 t hdb hs ih => exact pa_cons (pe_glob hg2 hm2 (v := .ref _) rfl hdb) ih hs
theorem Names.kit {Dn : List Str} {ds : List Addr} {es : List Expr} (h : Names X Dn ds es) (T : xTab X.K Cs Ds = true) (hD : ∀ D ∈ Dn, D ∈ Ds) {C : Str} {Ca : Addr} (hC : C ∈ Cs) (hn : PySem.W.nsIn X.K mainGlobals C = some (some (.ref Ca))) :
    PySem.W.kitAny X.K (.ref Ca) (ds.map Value.ref) = some (Dn.any (isX C)) := by
  induction h with
  | nil => rfl
  | cons hns hg2 hm2 t hdb hs ih =>
    obtain ⟨v, hv, hk, _⟩ := (xTab_at T hC hn).2 _ (hD _ List.mem_cons_self)
    rw [clsV_own hns] at hv
    cases hv
    have ih := ih fun D h => hD D (List.mem_cons_of_mem _ h)
    simp only [List.map_cons, PySem.W.kitAny, List.any_cons]
    rw [hk]
    cases hb : isX C _ with
    | true => simp
    | false => simp [ih]
noncomputable def fIsXT (Cs Dn : List Str) (f : FE) : FE := fun δ L => (f δ L).bind fun p => (excAt Cs p.1 p.2).map fun t => (.bl (Dn.any (isX t.2.1)), p.2)
theorem Names.len {Dn : List Str} {ds : List Addr} {es : List Expr} (h : Names X Dn ds es) : ds.length = Dn.length := by
  induction h with
  | nil => rfl
  | cons _ _ _ _ _ _ ih => simp [ih]
theorem pf_isxt {e : Expr} {fe : FE} {p p2 pos : Pos} {k : Nat} {Dn : List Str} {ds : List Addr} {es : List Expr} (T : xTab X.K Cs Ds = true) (hD : ∀ D ∈ Dn, D ∈ Ds) (hN : Names X Dn ds es) (he : PEF X e fe) (hg : Gl X "isinstance") (hm : X.mg "isinstance" = none) (hlen : Dn.length ≤ 100 := by decide)
    (hs : starEach [e, .Tuple es k p2] X.env = (false, eval e X.env) :: starEach [.Tuple es k p2] X.env := by rfl) (hs2 : starEach [.Tuple es k p2] X.env = (false, eval (.Tuple es k p2) X.env) :: starEach [] X.env := by rfl)
    (hpl : (backTo pos (starEach [.Tuple es k p2] X.env)).any (·.1) = false := by rfl) : PEF X (.Call (.Name "isinstance" p) [e, .Tuple es k p2] [] pos) (fIsXT Cs Dn fe) := by
  refine PE.imp (pe_callB call_isxt hg hm (by decide +kernel) (pa_cons he (pa_cons (pe_tup hN.pa) pa_nil hs2) hs) (by decide) (by decide) hs hpl) ?_
  rintro σ H Q ⟨α, δ, L, A, S, z, L3, e, q⟩
  obtain ⟨⟨u, L1⟩, e1, e⟩ := Option.bind_eq_some_iff.mp e
  obtain ⟨⟨n, C, fs⟩, e2, e⟩ := Option.map_eq_some_iff.mp e
  cases e
  obtain ⟨rfl, hC, fr, hL⟩ := excAt_ok e2
  refine ⟨α, δ, L, A, S, _, _, e1, fun x H1 α1 g1 A1 r1 => ⟨?_, fun tp ntp => ?_⟩⟩
  · rw [List.length_map, hN.len]; exact Nat.le_of_lt (small1000 (by omega))
  have g2 : Gr H1 α1 (upd H1 tp (.tup (ds.map V.ref))) α1 := ⟨⟨[], by simp⟩, .new ntp _⟩
  have A2 : Abs X.K (upd H1 tp (.tup (ds.map V.ref))) α1 L1 := ⟨A1.len, A1.inj, fun i a o e1 e2 => (A1.rep i a o e1 e2).other g2 (.inr fun u q => by rw [upd_ne (ne_of_none q ntp)]; exact q)⟩
  obtain ⟨a, ea, Ca, dd, vs, hns, ha, hd, hk, rr⟩ := A2.addr hL
  obtain ⟨a', ea', rfl⟩ := r1.ref_of A1
  rw [ea] at ea'; cases ea'
  exact ⟨a, Ca, dd, fr, vs, tp, ds, _, rfl, upd_same, ha, hd, (xTab_at T hC hns).1, hN.kit T hD hC hns, q _ _ α1 (g1.trans g2) A2 rfl⟩
end
end MR
set_option Elab.async false
set_option linter.all false
set_option maxRecDepth 100000
set_option maxHeartbeats 1000000
namespace MR
open PySem PySem.Spec PyProof.Rows L2
section
variable {X : Cx} {e : Expr} {pos pos' : Pos} {x : Str} {xe : XE}
theorem xs_set (h : PXE X e xe) (hs : swapsWith e (some (.Name x pos')) pos.line X.env = pure false := by rfl) : PXS X (.Assign [.Name x pos'] e pos) (xOf xe) := by
  intro pins s σ H α δ L n δ' L' I A S q
  obtain ⟨q, rfl⟩ := xOf_at q
  exact wpAny_Assign_Name (wpAny_mono (h pins s σ H α δ' L n L' I A S q) (fun _ _ z => z.elim) fun _ _ z => z) hs
theorem xss_first {st : Stmt} {rest : List Stmt} {y : XS} (h1 : PXS X st y) : PXSs X (st :: rest) (xSeq fNever y xNo) := by
  intro pins s σ H α δ L n δ' L' I A S q
  have q1 : y δ L = some (n, δ', L') := by
    unfold xSeq at q
    cases h : y δ L with
    | some r => rw [h] at q; exact q
    | none => rw [h] at q; cases q
  exact wpAny_execs_cons (wpAny_mono (h1 pins s σ H α δ L n δ' L' I A S q1) (fun _ _ z => z.elim) fun _ _ z => z)
end
end MR
set_option Elab.async false
set_option linter.all false
set_option maxRecDepth 100000
set_option maxHeartbeats 1000000
namespace MR
open PySem L2
@[simp] theorem fVar_eq (i : Nat) (δ : UE) (L : UH) : fVar i δ L = (δ[i]?).join.map fun u => (u, L) := rfl
@[simp] theorem fC_eq (u : U) (δ : UE) (L : UH) : fC u δ L = some (u, L) := rfl
@[simp] theorem f2_eq (s : S2) (a b : FE) (δ : UE) (L : UH) : f2 s a b δ L = (a δ L).bind fun p => (b δ p.2).bind fun q => s p.1 q.1 q.2 := rfl
@[simp] theorem fTest_eq (f : FE) (δ : UE) (L : UH) : fTest f δ L = (f δ L).bind fun p => match p.1 with | .bl k => some (k, p.2) | _ => none := rfl
@[simp] theorem fAnd_eq (f g : FT) (δ : UE) (L : UH) : fAnd f g δ L = (f δ L).bind fun p => if p.1 = true then g δ p.2 else some (false, p.2) := rfl
@[simp] theorem fOr_eq (f g : FT) (δ : UE) (L : UH) : fOr f g δ L = (f δ L).bind fun p => if p.1 = true then some (true, p.2) else g δ p.2 := rfl
@[simp] theorem fNot_eq (f : FT) (δ : UE) (L : UH) : fNot f δ L = (f δ L).map fun p => (!p.1, p.2) := rfl
@[simp] theorem fAndV_eq (f g : FE) (δ : UE) (L : UH) : fAndV f g δ L = (f δ L).bind fun p => match p.1 with | .bl k => if k = true then g δ p.2 else some (.bl false, p.2) | _ => none := rfl
@[simp] theorem fOrV_eq (f g : FE) (δ : UE) (L : UH) : fOrV f g δ L = (f δ L).bind fun p => match p.1 with | .bl k => if k = true then some (.bl true, p.2) else g δ p.2 | _ => none := rfl
@[simp] theorem fNotV_eq (f : FE) (δ : UE) (L : UH) : fNotV f δ L = (f δ L).bind fun p => match p.1 with | .bl k => some (.bl (!k), p.2) | _ => none := rfl
@[simp] theorem fIf_eq (c : FT) (f g : FE) (δ : UE) (L : UH) : fIf c f g δ L = (c δ L).bind fun p => if p.1 = true then f δ p.2 else g δ p.2 := rfl
@[simp] theorem fNil_eq (δ : UE) (L : UH) : fNil δ L = some ([], L) := rfl
@[simp] theorem fCons_eq (f : FE) (g : FA) (δ : UE) (L : UH) : fCons f g δ L = (f δ L).bind fun p => (g δ p.2).map fun q => (p.1 :: q.1, q.2) := rfl
@[simp] theorem fTup_eq (g : FA) (δ : UE) (L : UH) : fTup g δ L = (g δ L).bind fun p => if small p.1.length = true then some (.tup p.1, p.2) else none := rfl
@[simp] theorem fLst_eq (g : FA) (δ : UE) (L : UH) : fLst g δ L = (g δ L).bind fun p => if small p.1.length = true then some (.ref p.2.length, p.2 ++ [.lst p.1]) else none := rfl
@[simp] theorem fCall_eq (s : SC) (g : FA) (δ : UE) (L : UH) : fCall s g δ L = (g δ L).bind fun p => s p.1 p.2 := rfl
@[simp] theorem fOwn_eq (n : Nat) (F : FN) (g : FA) (δ : UE) (L : UH) : fOwn n F g δ L = (g δ L).bind fun p => if p.1.length = n then F p.1 p.2 else none := rfl
@[simp] theorem fMeth_eq (T : String) (s : SM) (f : FE) (g : FA) (δ : UE) (L : UH) : fMeth T s f g δ L = (f δ L).bind fun p => if tyU T p.1 p.2 = true then (g δ p.2).bind fun q => s p.1 q.1 q.2 else none := rfl
@[simp] theorem fPart_eq (f : FE) (δ : UE) (L : UH) : fPart f δ L = (f δ L).bind fun p => match p.1 with | .int i => some (some i, p.2) | _ => none := rfl
@[simp] theorem fNoPart_eq (δ : UE) (L : UH) : fNoPart δ L = some (none, L) := rfl
@[simp] theorem fSl_eq (s : SS) (f : FE) (l h : FO) (δ : UE) (L : UH) : fSl s f l h δ L = (f δ L).bind fun p => (l δ p.2).bind fun q => (h δ q.2).bind fun r => s p.1 q.1 r.1 r.2 := rfl
@[simp] theorem fNeg_eq (f : FE) (δ : UE) (L : UH) : fNeg f δ L = (f δ L).bind fun p => match p.1 with | .int i => some (.int (-i), p.2) | _ => none := rfl
@[simp] theorem fTru_eq (f : FE) (δ : UE) (L : UH) : fTru f δ L = (f δ L).bind fun p => (truU p.1 p.2).map fun k => (k, p.2) := rfl
@[simp] theorem fIsi_eq (c : String) (f : FE) (δ : UE) (L : UH) : fIsi c f δ L = (f δ L).bind fun p => (tyName p.1 p.2).map fun t => (.bl (isT t c), p.2) := rfl
@[simp] theorem fNext_eq (δ : UE) (L : UH) : fNext δ L = some (.nx δ, L) := rfl
@[simp] theorem fSeq_eq (f g : FS) (δ : UE) (L : UH) : fSeq f g δ L = (f δ L).bind fun p => match p.1 with | .nx δ' => g δ' p.2 | fl => some (fl, p.2) := rfl
@[simp] theorem fRet_eq (f : FE) (δ : UE) (L : UH) : fRet f δ L = (f δ L).map fun p => (.rt p.1, p.2) := rfl
@[simp] theorem fDrop_eq (f : FE) (δ : UE) (L : UH) : fDrop f δ L = (f δ L).map fun p => (.nx δ, p.2) := rfl
@[simp] theorem fRetN_eq (δ : UE) (L : UH) : fRetN δ L = some (.rt .non, L) := rfl
@[simp] theorem fIfS_eq (c : FT) (f g : FS) (δ : UE) (L : UH) : fIfS c f g δ L = (c δ L).bind fun p => if p.1 = true then f δ p.2 else g δ p.2 := rfl
@[simp] theorem gN_eq (i : Nat) (u : U) (δ : UE) (L : UH) : gN i u δ L = some (δ.set i (some u), L) := rfl
@[simp] theorem gNil_eq (δ : UE) (L : UH) : MR.gNil [] δ L = some (δ, L) := rfl
@[simp] theorem gCons_eq (f : FG) (g : FGs) (u : U) (r : List U) (δ : UE) (L : UH) : MR.gCons f g (u :: r) δ L = (f u δ L).bind fun p => g r p.1 p.2 := rfl
@[simp] theorem gTup_eq (n : Nat) (g : FGs) (us : List U) (δ : UE) (L : UH) : MR.gTup n g (.tup us) δ L = if us.length = n then g us δ L else none := rfl
@[simp] theorem gSub_eq (a b : FE) (v : U) (δ : UE) (L : UH) : MR.gSub a b v δ L = (a δ L).bind fun p => (b δ p.2).bind fun q => match p.1, q.1 with
  | .ref n, .int k => (lstAt q.2 n).bind fun l => (ixN l.length k).map fun j => (δ, q.2.set n (.lst (l.set j v)))
  | _, _ => none := rfl
@[simp] theorem fAsg_eq (f : FE) (g : FG) (δ : UE) (L : UH) : fAsg f g δ L = (f δ L).bind fun p => (g p.1 δ p.2).map fun q => (.nx q.1, q.2) := rfl
@[simp] theorem fFor_eq (fi : FI) (g : FG) (b : FS) (δ : UE) (L : UH) : fFor fi g b δ L = (fi δ L).bind fun p => loopU p.1 g b (p.1.size p.2 + 1) 0 δ p.2 := rfl
@[simp] theorem fSeqI_eq (f : FE) (δ : UE) (L : UH) : fSeqI f δ L = (f δ L).bind fun p => (iSeqU p.1 p.2).map fun i => (i, p.2) := rfl
@[simp] theorem fRng1_eq (g : FA) (δ : UE) (L : UH) : fRng1 g δ L = (g δ L).bind fun p => match p.1 with
  | [.int j] => if -(2 ^ 62) ≤ j ∧ j < 2 ^ 62 then some (.seq (rangeU 0 j.toNat), p.2) else none
  | _ => none := rfl
@[simp] theorem semAdd_int (i j : Int) (L : UH) : semAdd (.int i) (.int j) L = some (.int (i + j), L) := rfl
@[simp] theorem semSub_int (i j : Int) (L : UH) : semSub (.int i) (.int j) L = some (.int (i - j), L) := rfl
@[simp] theorem semMul_int (i j : Int) (L : UH) : semMul (.int i) (.int j) L = if mulOk i j = true then some (.int (i * j), L) else none := rfl
@[simp] theorem semDiv_int (i j : Int) (L : UH) : semDiv (.int i) (.int j) L = if divOk i j = true then some (.int (i / j), L) else none := rfl
@[simp] theorem semMod_int (i j : Int) (L : UH) : semMod (.int i) (.int j) L = if decide (0 < j) = true then some (.int (i % j), L) else none := rfl
@[simp] theorem semPow_int (i j : Int) (L : UH) : semPow (.int i) (.int j) L = if powOk i j = true then some (.int (i ^ j.toNat), L) else none := rfl
@[simp] theorem semLe_int (i j : Int) (L : UH) : semLe (.int i) (.int j) L = some (.bl (decide (i ≤ j)), L) := rfl
@[simp] theorem semLt_int (i j : Int) (L : UH) : semLt (.int i) (.int j) L = some (.bl (decide (i < j)), L) := rfl
@[simp] theorem semGt_int (i j : Int) (L : UH) : semGt (.int i) (.int j) L = some (.bl (decide (j < i)), L) := rfl
@[simp] theorem semGe_int (i j : Int) (L : UH) : semGe (.int i) (.int j) L = some (.bl (decide (j ≤ i)), L) := rfl
@[simp] theorem semEq_int (i j : Int) (L : UH) : semEq (.int i) (.int j) L = some (.bl (i == j), L) := rfl
@[simp] theorem semNe_int (i j : Int) (L : UH) : semNe (.int i) (.int j) L = some (.bl (!(i == j)), L) := rfl
@[simp] theorem semEq_bl (i j : Bool) (L : UH) : semEq (.bl i) (.bl j) L = some (.bl (i == j), L) := rfl
@[simp] theorem semNe_bl (i j : Bool) (L : UH) : semNe (.bl i) (.bl j) L = some (.bl (!(i == j)), L) := rfl
@[simp] theorem semIs_bl (i j : Bool) (L : UH) : semIs false (.bl i) (.bl j) L = some (.bl (i == j), L) := rfl
@[simp] theorem semIx_tup (l : List U) (i : Int) (L : UH) : semIx (.tup l) (.int i) L = (L2.atI l i).map fun z => (z, L) := rfl
@[simp] theorem semIx_ref (n : Nat) (i : Int) (L : UH) : semIx (.ref n) (.int i) L = (seqAt L n).bind fun l => (L2.atI l i).map fun z => (z, L) := rfl
@[simp] theorem truU_bl (b : Bool) (L : UH) : truU (.bl b) L = some b := rfl
theorem seqAt_lst {L : UH} {n : Nat} {us : List U} (h : L[n]? = some (.lst us)) : seqAt L n = some us := by unfold seqAt; rw [h]
theorem lstAt_lst {L : UH} {n : Nat} {us : List U} (h : L[n]? = some (.lst us)) : lstAt L n = some us := by unfold lstAt; rw [h]
theorem small_of {n : Nat} (h : n ≤ 16777216) : small n = true := by unfold small sizeLine; exact decide_eq_true (by omega)
theorem atI_of {β : Type} {l : List β} {i : Int} (h0 : 0 ≤ i) (h : i < l.length) : L2.atI l i = l[i.toNat]? := by
  unfold L2.atI ixN
  rw [if_pos h0, if_pos h]; rfl
theorem mulOk_l {i j : Int} (h1 : -1000000000000000000 ≤ i) (h2 : i ≤ 1000000000000000000) : mulOk i j = true := by
  unfold mulOk; simp only [Bool.or_eq_true, Bool.and_eq_true, decide_eq_true_eq]; left; constructor <;> omega
theorem mulOk_r {i j : Int} (h1 : -1000000000000000000 ≤ j) (h2 : j ≤ 1000000000000000000) : mulOk i j = true := by
  unfold mulOk; simp only [Bool.or_eq_true, Bool.and_eq_true, decide_eq_true_eq]; right; constructor <;> omega
theorem divOk_of {i j : Int} (h1 : 0 < j) (h2 : j < 1152921504606846976) : divOk i j = true := by
  unfold divOk; simp only [Bool.and_eq_true, decide_eq_true_eq]; exact ⟨h1, h2⟩
end MR
set_option Elab.async false
set_option linter.all false
set_option maxRecDepth 100000
set_option maxHeartbeats 1000000
namespace MR
open PySem L2
noncomputable def GoesOn (g : FG) (body : FS) (u : U) (δ : UE) (L : UH) (R : UE → UH → Prop) : Prop := ∃ δ1 L1, g u δ L = some (δ1, L1) ∧ ∃ δ2 L2, (body δ1 L1 = some (.nx δ2, L2) ∨ body δ1 L1 = some (.ct δ2, L2)) ∧ R δ2 L2
theorem loop_any {it : IU} {g : FG} {body : FS} {us : List U} (P : Nat → UE → UH → Prop) (hat : ∀ k δ L, k ≤ us.length → P k δ L → it.at k L = some us[k]?)
    (step : ∀ k u δ L, us[k]? = some u → P k δ L → GoesOn g body u δ L (P (k + 1))) :
    ∀ (m k : Nat) (δ : UE) (L : UH), us.length < m + k → k ≤ us.length → P k δ L → ∃ δ' L', loopU it g body m k δ L = some (.nx δ', L') ∧ P us.length δ' L'
  | 0, k, δ, L, h1, h2, _ => by omega
  | m + 1, k, δ, L, h1, h2, hP => by
    have hk := hat k δ L h2 hP
    unfold loopU
    rw [hk]
    cases hu : us[k]? with
    | none =>
      have : k = us.length := by have := List.getElem?_eq_none_iff.mp hu; omega
      subst this
      exact ⟨δ, L, rfl, hP⟩
    | some u =>
      have hlt : k < us.length := (List.getElem?_eq_some_iff.mp hu).1
      obtain ⟨δ1, L1, e1, δ2, L2, e2, hP2⟩ := step k u δ L hu hP
      obtain ⟨δ', L', e3, hP3⟩ := loop_any P hat step m (k + 1) δ2 L2 (by omega) (by omega) hP2
      refine ⟨δ', L', ?_, hP3⟩
      rcases e2 with e2 | e2
      · simp only [e1, Option.bind_some, e2, e3]
      · simp only [e1, Option.bind_some, e2, e3]
theorem for_seq {fi : FI} {g : FG} {body : FS} {us : List U} {δ : UE} {L L0 : UH} (P : Nat → UE → UH → Prop) (hi : fi δ L = some (.seq us, L0)) (h0 : P 0 δ L0) (step : ∀ k u δ L, us[k]? = some u → P k δ L → GoesOn g body u δ L (P (k + 1))) :
    ∃ δ' L', fFor fi g body δ L = some (.nx δ', L') ∧ P us.length δ' L' := by
  obtain ⟨δ', L', e, h⟩ := loop_any (it := .seq us) (g := g) (body := body) (us := us) P (fun _ _ _ _ _ => rfl) step (us.length + 1) 0 δ L0 (by omega) (by omega) h0
  exact ⟨δ', L', by rw [fFor_eq, hi]; exact e, h⟩
theorem for_ref {fi : FI} {g : FG} {body : FS} {us : List U} {n : Nat} {δ : UE} {L L0 : UH} (P : Nat → UE → UH → Prop) (hi : fi δ L = some (.ref n, L0)) (h0 : P 0 δ L0) (hl : ∀ k δ L, P k δ L → seqAt L n = some us) (step : ∀ k u δ L, us[k]? = some u → P k δ L → GoesOn g body u δ L (P (k + 1))) :
    ∃ δ' L', fFor fi g body δ L = some (.nx δ', L') ∧ P us.length δ' L' := by
  have hat : ∀ k δ L, k ≤ us.length → P k δ L → (IU.ref n).at k L = some us[k]? := fun k δ L _ hp => by
    have := hl k δ L hp
    unfold seqAt at this
    unfold IU.at
    simp only
    split at this
    · rename_i e; cases this; first | rw [e] | rfl
    · rename_i e; cases this; first | rw [e] | rfl
    · cases this
  have hsz : (IU.ref n).size L0 = us.length := by
    have := hl 0 δ L0 h0
    unfold seqAt at this
    unfold IU.size
    simp only
    split at this
    · rename_i e; cases this; first | rw [e] | rfl
    · rename_i e; cases this; first | rw [e] | rfl
    · cases this
  obtain ⟨δ', L', e, h⟩ := loop_any (it := .ref n) (g := g) (body := body) (us := us) P hat step (us.length + 1) 0 δ L0 (by omega) (by omega) h0
  exact ⟨δ', L', by rw [fFor_eq, hi]; simp only [Option.bind_some, hsz]; exact e, h⟩
theorem iSeqU_ref {L : UH} {n : Nat} {us : List U} (h : seqAt L n = some us) : iSeqU (.ref n) L = some (.ref n) := by
  unfold seqAt at h
  unfold iSeqU
  simp only
  split at h
  · rename_i e; first | rw [e] | rfl
  · rename_i e; first | rw [e] | rfl
  · cases h
theorem rangeU_get {lo : Int} {n k : Nat} {u : U} (h : (rangeU lo n)[k]? = some u) : k < n ∧ u = .int (lo + k) := by
  unfold rangeU at h
  rw [List.getElem?_map] at h
  by_cases hk : k < n
  · rw [List.getElem?_range hk] at h
    simp at h
    exact ⟨hk, h.symm⟩
  · rw [List.getElem?_eq_none (by simpa using hk)] at h
    simp at h
theorem rangeU_len {lo : Int} {n : Nat} : (rangeU lo n).length = n := by simp [rangeU]
end MR
set_option Elab.async false
set_option linter.all false
set_option maxRecDepth 100000
set_option maxHeartbeats 1000000
namespace MR
open PySem L2
@[simp] theorem fEnum_eq (g : FA) (δ : UE) (L : UH) : fEnum g δ L = (g δ L).bind fun p => match p.1 with
  | [.ref n] => (seqAt p.2 n).map fun _ => (.enm n, p.2)
  | _ => none := rfl
@[simp] theorem fZip_eq (g : FA) (δ : UE) (L : UH) : fZip g δ L = (g δ L).bind fun p => match p.1 with
  | [.ref n, .ref m] => (seqAt p.2 n).bind fun _ => (seqAt p.2 m).map fun _ => (.zip2 n m, p.2)
  | _ => none := rfl
@[simp] theorem fRev_eq (f : FE) (δ : UE) (L : UH) : fRev f δ L = (f δ L).bind fun p => match p.1 with | .ref n => (seqAt p.2 n).map fun l => (.ref p.2.length, p.2 ++ [.lst l.reverse]) | .tup l => some (.tup l.reverse, p.2) | _ => none := rfl
@[simp] theorem fRng2_eq (g : FA) (δ : UE) (L : UH) : fRng2 g δ L = (g δ L).bind fun p => match p.1 with
  | [.int i, .int j] => if (-(2 ^ 62) ≤ i ∧ i < 2 ^ 62) ∧ (-(2 ^ 62) ≤ j ∧ j < 2 ^ 62) then some (.seq (rangeU i (j - i).toNat), p.2) else none
  | _ => none := by first | rfl | (unfold fRng2; rfl)
theorem comp_any {it : IU} {g : FG} {tt : Option FT} {fe : FE} {us : List U} (P : Nat → List U → UE → UH → Prop) (hat : ∀ k acc δ L, k ≤ us.length → P k acc δ L → it.at k L = some us[k]?)
    (step : ∀ k u acc δ L, us[k]? = some u → P k acc δ L → ∃ δ1 L1, g u δ L = some (δ1, L1) ∧ ∃ b L2, testU tt δ1 L1 = some (b, L2) ∧ (b = true → ∃ r L3, fe δ1 L2 = some (r, L3) ∧ acc.length < 16777216 ∧ P (k + 1) (acc ++ [r]) δ1 L3) ∧ (b = false → P (k + 1) acc δ1 L2)) :
    ∀ (m k : Nat) (acc : List U) (δ : UE) (L : UH), us.length < m + k → k ≤ us.length → P k acc δ L → ∃ ys δ' L', compU it g tt fe m k acc δ L = some (ys, L') ∧ P us.length ys δ' L'
  | 0, k, acc, δ, L, h1, h2, _ => by omega
  | m + 1, k, acc, δ, L, h1, h2, hP => by
    have hk := hat k acc δ L h2 hP
    unfold compU
    rw [hk]
    cases hu : us[k]? with
    | none =>
      have : k = us.length := by have := List.getElem?_eq_none_iff.mp hu; omega
      subst this
      exact ⟨acc, δ, L, rfl, hP⟩
    | some u =>
      have hlt : k < us.length := (List.getElem?_eq_some_iff.mp hu).1
      obtain ⟨δ1, L1, e1, b, L2, e2, h3, h4⟩ := step k u acc δ L hu hP
      cases b with
      | true =>
        obtain ⟨r, L3, e3, hl, hP2⟩ := h3 rfl
        obtain ⟨ys, δ', L', e4, hP3⟩ := comp_any P hat step m (k + 1) (acc ++ [r]) δ1 L3 (by omega) (by omega) hP2
        refine ⟨ys, δ', L', ?_, hP3⟩
        have hz : decide (acc.length < sizeLine) = true := decide_eq_true (by unfold sizeLine; omega)
        simp only [e1, Option.bind_some, e2, e3, if_true, hz, e4]
      | false =>
        obtain ⟨ys, δ', L', e4, hP3⟩ := comp_any P hat step m (k + 1) acc δ1 L2 (by omega) (by omega) (h4 rfl)
        refine ⟨ys, δ', L', ?_, hP3⟩
        simp only [e1, Option.bind_some, e2, e4, Bool.false_eq_true, if_false]
theorem fcomp {ix : List (Option Nat)} {fi : FI} {it : IU} {g : FG} {tt : Option FT} {fe : FE} {us : List U} {δ : UE} {L L0 : UH} (P : Nat → List U → UE → UH → Prop) (hi : fi δ L = some (it, L0)) (hsz : us.length ≤ it.size L0) (h0 : P 0 [] (innerU ix δ) L0)
    (hat : ∀ k acc δ L, k ≤ us.length → P k acc δ L → it.at k L = some us[k]?)
    (step : ∀ k u acc δ L, us[k]? = some u → P k acc δ L → ∃ δ1 L1, g u δ L = some (δ1, L1) ∧ ∃ b L2, testU tt δ1 L1 = some (b, L2) ∧ (b = true → ∃ r L3, fe δ1 L2 = some (r, L3) ∧ acc.length < 16777216 ∧ P (k + 1) (acc ++ [r]) δ1 L3) ∧ (b = false → P (k + 1) acc δ1 L2)) :
    ∃ ys δ' L', fComp ix fi g tt fe δ L = some (.ref L'.length, L' ++ [.lst ys]) ∧ P us.length ys δ' L' := by
  obtain ⟨ys, δ', L', e, h⟩ := comp_any P hat step (it.size L0 + 1) 0 [] (innerU ix δ) L0 (by omega) (by omega) h0
  refine ⟨ys, δ', L', ?_, h⟩
  unfold fComp
  simp only [hi, Option.bind_some, e, Option.map_some]
theorem at_ref {n k : Nat} {L : UH} {us : List U} (h : seqAt L n = some us) : (IU.ref n).at k L = some us[k]? := by
  unfold seqAt at h
  unfold IU.at
  simp only
  split at h
  · rename_i e; cases h; first | rw [e] | rfl
  · rename_i e; cases h; first | rw [e] | rfl
  · cases h
theorem size_ref {n : Nat} {L : UH} {us : List U} (h : seqAt L n = some us) : (IU.ref n).size L = us.length := by
  unfold seqAt at h
  unfold IU.size
  simp only
  split at h
  · rename_i e; cases h; first | rw [e] | rfl
  · rename_i e; cases h; first | rw [e] | rfl
  · cases h
theorem comp_grow {β : Type} {ix : List (Option Nat)} {fi : FI} {it : IU} {g : FG} {tt : Option FT} {fe : FE} {δ : UE} {L L0 : UH} (as : List β) (rep : β → U) (f : β → Bool) (e : β → U) (E : UE → Prop) (hi : fi δ L = some (it, L0)) (hsz : as.length ≤ it.size L0) (hl : as.length < 16777216) (h0 : E (innerU ix δ))
    (hat : ∀ k x, it.at k (L0 ++ x) = some (as.map rep)[k]?)
    (step : ∀ (a : β) δ x, a ∈ as → E δ → ∃ δ1, g (rep a) δ (L0 ++ x) = some (δ1, L0 ++ x) ∧ E δ1 ∧ ∃ y, testU tt δ1 (L0 ++ x) = some (f a, L0 ++ x ++ y) ∧ (f a = true → ∃ z, fe δ1 (L0 ++ x ++ y) = some (e a, L0 ++ x ++ y ++ z))) :
    ∃ x, fComp ix fi g tt fe δ L = some (.ref (L0 ++ x).length, L0 ++ x ++ [.lst ((as.filter f).map e)]) := by
  obtain ⟨ys, δ', L', e1, ⟨h1, h2, x, rfl⟩, h3⟩ := fcomp (us := as.map rep) (ix := ix) (tt := tt) (g := g) (fe := fe) (δ := δ) (fun k acc δ L => (acc = ((as.take k).filter f).map e ∧ E δ ∧ ∃ x, L = L0 ++ x) ∧ acc.length ≤ k) hi (by simpa using hsz) ⟨⟨rfl, h0, [], by simp⟩, by simp⟩
    (fun k acc δ L _ ⟨⟨_, _, x, hx⟩, _⟩ => by rw [hx]; exact hat k x)
    (fun k u acc δ L hu ⟨⟨ha, hE, x, hx⟩, hlen⟩ => by
      subst hx
      rw [List.getElem?_map] at hu
      obtain ⟨a, hk, rfl⟩ := Option.map_eq_some_iff.mp hu
      have hk' := (List.getElem?_eq_some_iff.mp hk).1
      obtain ⟨δ1, g1, E1, y, t1, r1⟩ := step a δ x (List.mem_of_getElem? hk) hE
      have ht : as.take (k + 1) = as.take k ++ [a] := by
        rw [List.take_add_one, hk]; rfl
      refine ⟨δ1, _, g1, f a, _, t1, fun hf => ?_, fun hf => ?_⟩
      · obtain ⟨z, q⟩ := r1 hf
        refine ⟨_, _, q, by omega, ⟨?_, E1, x ++ y ++ z, by simp⟩, by simp; omega⟩
        rw [ha, ht]; simp [hf]
      · refine ⟨⟨?_, E1, x ++ y, by simp⟩, by omega⟩
        rw [ha, ht]; simp [hf])
  refine ⟨x, ?_⟩
  rw [e1, h1]
  simp
theorem seqAt_app {L x : UH} {n : Nat} {us : List U} (h : seqAt L n = some us) : seqAt (L ++ x) n = some us := by
  unfold seqAt at h ⊢
  cases hn : L[n]? with
  | none => rw [hn] at h; cases h
  | some o => rw [List.getElem?_append_left (List.getElem?_eq_some_iff.mp hn).1, hn]; rw [hn] at h; exact h
end MR
set_option Elab.async false
set_option linter.all false
set_option maxRecDepth 100000
set_option maxHeartbeats 1000000
namespace MR
open PySem L2
noncomputable def Pl : Nat → U → Prop
  | _, .non => True
  | _, .int _ => True
  | _, .str x => PyData.strOk x = true
  | n + 1, .tup l => ∀ u ∈ l, Pl n u
  | _, _ => False
mutual
noncomputable def pd : U → PyData
  | .non => .none
  | .bl b => .bool b
  | .int i => .int i
  | .str x => .str x
  | .tup l => .tuple (pds l)
  | .ref _ => .none
noncomputable def pds : List U → List PyData
  | [] => []
  | u :: r => pd u :: pds r
end
theorem pl_tup {n : Nat} {l : List U} : Pl (n + 1) (.tup l) ↔ ∀ u ∈ l, Pl n u := by rw [Pl]
theorem toP_pls {L : UH} {n m : Nat} (ih : ∀ u, Pl n u → toP L m u = some (pd u)) : ∀ l : List U, (∀ u ∈ l, Pl n u) → mapO (toP L m) l = some (pds l)
  | [], _ => rfl
  | u :: r, h => by
    simp only [mapO, ih u (h u (List.mem_cons_self ..)), toP_pls ih r (fun x hx => h x (List.mem_cons_of_mem _ hx)), Option.bind_some, Option.map_some, pds]
theorem toP_pl (L : UH) : ∀ (n m : Nat) (u : U), n < m → Pl n u → toP L m u = some (pd u)
  | n, 0, u, h, _ => by omega
  | n, m + 1, .non, _, _ => rfl
  | n, m + 1, .int _, _, _ => rfl
  | n, m + 1, .str _, _, _ => rfl
  | n, m + 1, .bl _, _, h => by cases n <;> exact absurd h (by simp [Pl])
  | n, m + 1, .ref _, _, h => by cases n <;> exact absurd h (by simp [Pl])
  | 0, m + 1, .tup l, _, h => absurd h (by simp [Pl])
  | n + 1, m + 1, .tup l, hm, h => by
    have := toP_pls (L := L) (n := n) (m := m) (fun u hu => toP_pl L n m u (by omega) hu) l (pl_tup.mp h)
    show (mapO (toP L m) l).map PyData.tuple = _
    rw [this]
    rfl
theorem pds_lay {n : Nat} (ih : ∀ u, Pl n u → PyData.canLay0 (pd u) = true ∧ PyData.depth (pd u) ≤ n) : ∀ l : List U, (∀ u ∈ l, Pl n u) → PyData.canLayAll0 (pds l) = true ∧ PyData.depthAll (pds l) ≤ n
  | [], _ => ⟨rfl, Nat.zero_le _⟩
  | u :: r, h => by
    obtain ⟨a1, a2⟩ := ih u (h u (List.mem_cons_self ..))
    obtain ⟨b1, b2⟩ := pds_lay ih r (fun x hx => h x (List.mem_cons_of_mem _ hx))
    refine ⟨by simp [pds, PyData.canLayAll0, a1, b1], ?_⟩
    simp only [pds, PyData.depthAll]
    omega
theorem pd_lay : ∀ (n : Nat) (u : U), Pl n u → PyData.canLay0 (pd u) = true ∧ PyData.depth (pd u) ≤ n
  | n, .non, _ => by simp [pd, PyData.canLay0, PyData.depth]
  | n, .int _, _ => by simp [pd, PyData.canLay0, PyData.depth]
  | n, .str x, h => by
    have h' : PyData.strOk x = true := by cases n <;> simpa [Pl] using h
    simp [pd, PyData.canLay0, PyData.depth, h']
  | n, .bl _, h => by cases n <;> exact absurd h (by simp [Pl])
  | n, .ref _, h => by cases n <;> exact absurd h (by simp [Pl])
  | 0, .tup l, h => absurd h (by simp [Pl])
  | n + 1, .tup l, h => by
    obtain ⟨a, b⟩ := pds_lay (fun u hu => pd_lay n u hu) l (pl_tup.mp h)
    simp only [pd, PyData.canLay0, PyData.depth]
    exact ⟨a, by omega⟩
theorem eqvAll_iff {n : Nat} (ih : ∀ u w, Pl n u → Pl n w → (PyData.eqv (pd u) (pd w) = true ↔ u = w)) : ∀ l m : List U, (∀ u ∈ l, Pl n u) → (∀ u ∈ m, Pl n u) → (PyData.eqvAll (pds l) (pds m) = true ↔ l = m)
  | [], [], _, _ => by simp [pds, PyData.eqvAll]
  | [], _ :: _, _, _ => by simp [pds, PyData.eqvAll]
  | _ :: _, [], _, _ => by simp [pds, PyData.eqvAll]
  | u :: l, w :: m, h1, h2 => by
    simp only [pds, PyData.eqvAll, Bool.and_eq_true, ih u w (h1 u (List.mem_cons_self ..)) (h2 w (List.mem_cons_self ..)), eqvAll_iff ih l m (fun x hx => h1 x (List.mem_cons_of_mem _ hx)) (fun x hx => h2 x (List.mem_cons_of_mem _ hx)), List.cons.injEq]
theorem eqv_iff : ∀ (n : Nat) (u w : U), Pl n u → Pl n w → (PyData.eqv (pd u) (pd w) = true ↔ u = w)
  | n, .bl _, _, h, _ => by cases n <;> exact absurd h (by simp [Pl])
  | n, .ref _, _, h, _ => by cases n <;> exact absurd h (by simp [Pl])
  | n, _, .bl _, _, h => by cases n <;> exact absurd h (by simp [Pl])
  | n, _, .ref _, _, h => by cases n <;> exact absurd h (by simp [Pl])
  | 0, .tup _, _, h, _ => absurd h (by simp [Pl])
  | 0, _, .tup _, _, h => absurd h (by simp [Pl])
  | n + 1, .tup l, .tup m, h1, h2 => by
    simp only [pd, PyData.eqv, U.tup.injEq]
    exact eqvAll_iff (fun u w => eqv_iff n u w) l m (pl_tup.mp h1) (pl_tup.mp h2)
  | n, .non, .non, _, _ => by simp [pd, PyData.eqv]
  | n, .non, .int _, _, _ => by simp [pd, PyData.eqv]
  | n, .non, .str _, _, _ => by simp [pd, PyData.eqv]
  | n + 1, .non, .tup _, _, _ => by simp [pd, PyData.eqv]
  | n, .int _, .non, _, _ => by simp [pd, PyData.eqv]
  | n, .int _, .int _, _, _ => by simp [pd, PyData.eqv]
  | n, .int _, .str _, _, _ => by simp [pd, PyData.eqv]
  | n + 1, .int _, .tup _, _, _ => by simp [pd, PyData.eqv]
  | n, .str _, .non, _, _ => by simp [pd, PyData.eqv]
  | n, .str _, .int _, _, _ => by simp [pd, PyData.eqv]
  | n, .str _, .str _, _, _ => by simp [pd, PyData.eqv]
  | n + 1, .str _, .tup _, _, _ => by simp [pd, PyData.eqv]
  | n + 1, .tup _, .non, _, _ => by simp [pd, PyData.eqv]
  | n + 1, .tup _, .int _, _, _ => by simp [pd, PyData.eqv]
  | n + 1, .tup _, .str _, _, _ => by simp [pd, PyData.eqv]
noncomputable def eqB (u w : U) : Bool := PyData.eqv (pd u) (pd w)
theorem eqB_iff {u w : U} (h1 : Pl 6 u) (h2 : Pl 6 w) : eqB u w = true ↔ u = w := eqv_iff 6 u w h1 h2
theorem eqB_self {u : U} (h1 : Pl 6 u) : eqB u u = true := (eqB_iff h1 h1).mpr rfl
theorem eqP_pl {u w : U} (L : UH) (h1 : Pl 6 u) (h2 : Pl 6 w) : eqP u w L = some (eqB u w) := by
  obtain ⟨a1, a2⟩ := pd_lay 6 u h1
  obtain ⟨b1, b2⟩ := pd_lay 6 w h2
  have s1 : SeqAt.shaped (pd u) = true := by unfold SeqAt.shaped; rw [a1]; simp; omega
  have s2 : SeqAt.shaped (pd w) = true := by unfold SeqAt.shaped; rw [b1]; simp; omega
  unfold eqP
  simp only [toP_pl L 6 8 u (by decide) h1, toP_pl L 6 8 w (by decide) h2, Option.bind_some, s1, s2, and_self, if_true, eqB]
theorem semEq_pl {u w : U} (L : UH) (h1 : Pl 6 u) (h2 : Pl 6 w) : semEq u w L = some (.bl (eqB u w), L) := by unfold semEq; rw [eqP_pl L h1 h2]; rfl
theorem semNe_pl {u w : U} (L : UH) (h1 : Pl 6 u) (h2 : Pl 6 w) : semNe u w L = some (.bl (!eqB u w), L) := by unfold semNe; rw [eqP_pl L h1 h2]; rfl
noncomputable def eqBs (us ws : List U) : Bool := PyData.eqvAll (pds us) (pds ws)
theorem eqBs_iff {us ws : List U} (h1 : ∀ u ∈ us, Pl 6 u) (h2 : ∀ u ∈ ws, Pl 6 u) : eqBs us ws = true ↔ us = ws := eqvAll_iff (fun u w => eqv_iff 6 u w) us ws h1 h2
theorem eqP_lst {n m : Nat} {us ws : List U} {L : UH} (e1 : seqAt L n = some us) (e2 : seqAt L m = some ws) (h1 : ∀ u ∈ us, Pl 6 u) (h2 : ∀ u ∈ ws, Pl 6 u) : eqP (.ref n) (.ref m) L = some (eqBs us ws) := by
  obtain ⟨a1, a2⟩ := pds_lay (pd_lay 6) us h1
  obtain ⟨b1, b2⟩ := pds_lay (pd_lay 6) ws h2
  have s1 : SeqAt.shaped (.list (pds us)) = true := by unfold SeqAt.shaped; simp [PyData.canLay0, PyData.depth, a1]; omega
  have s2 : SeqAt.shaped (.list (pds ws)) = true := by unfold SeqAt.shaped; simp [PyData.canLay0, PyData.depth, b1]; omega
  have t1 : toP L 8 (.ref n) = some (.list (pds us)) := by
    show (seqAt L n).bind (fun l => (mapO (toP L 7) l).map PyData.list) = _
    rw [e1]
    simp only [Option.bind_some, toP_pls (fun u hu => toP_pl L 6 7 u (by decide) hu) us h1, Option.map_some]
  have t2 : toP L 8 (.ref m) = some (.list (pds ws)) := by
    show (seqAt L m).bind (fun l => (mapO (toP L 7) l).map PyData.list) = _
    rw [e2]
    simp only [Option.bind_some, toP_pls (fun u hu => toP_pl L 6 7 u (by decide) hu) ws h2, Option.map_some]
  unfold eqP
  simp only [t1, t2, Option.bind_some, s1, s2, and_self, if_true, PyData.eqv, eqBs]
theorem semNe_lst {n m : Nat} {us ws : List U} {L : UH} (e1 : seqAt L n = some us) (e2 : seqAt L m = some ws) (h1 : ∀ u ∈ us, Pl 6 u) (h2 : ∀ u ∈ ws, Pl 6 u) : semNe (.ref n) (.ref m) L = some (.bl (!eqBs us ws), L) := by unfold semNe; rw [eqP_lst e1 e2 h1 h2]; rfl
theorem Pl.int (n : Nat) (i : Int) : Pl n (.int i) := by cases n <;> exact trivial
theorem rng1_ok {g : FA} {δ : UE} {L L' : UH} {j : Int} (hg : g δ L = some ([.int j], L')) (h0 : 0 ≤ j) (h1 : j < 1000000) : fRng1 g δ L = some (.seq (rangeU 0 j.toNat), L') := by
  rw [fRng1_eq, hg]
  simp only [Option.bind_some]
  rw [if_pos ⟨by omega, by omega⟩]
theorem rng1_nat {g : FA} {δ : UE} {L L' : UH} {n : Nat} (hg : g δ L = some ([.int n], L')) (h1 : n < 1000000) : fRng1 g δ L = some (.seq (rangeU 0 n), L') := by
  have := rng1_ok hg (by omega) (by omega)
  rwa [Int.toNat_natCast] at this
end MR
set_option Elab.async false
set_option linter.all false
set_option maxRecDepth 100000
set_option maxHeartbeats 1000000
namespace Lw
open PySem L2 MR
end Lw
set_option Elab.async false
set_option linter.all false
set_option maxRecDepth 100000
set_option maxHeartbeats 1000000
namespace MR
open PySem PyProof.Rows L2
end MR
set_option Elab.async false
set_option linter.all false
set_option maxRecDepth 100000
set_option maxHeartbeats 1000000
namespace Lw
open PySem L2 MR
structure Ex (d : Nat) (L L' : UH) : Prop where
  le : L.length ≤ L'.length
  at_ : ∀ i, i < L.length → i ≠ d → L'[i]? = L[i]?
theorem Ex.refl (d : Nat) (L : UH) : Ex d L L := ⟨Nat.le_refl _, fun _ _ _ => rfl⟩
theorem Ex.trans {d : Nat} {L L1 L2 : UH} (a : Ex d L L1) (b : Ex d L1 L2) : Ex d L L2 :=
  ⟨Nat.le_trans a.le b.le, fun i h1 h2 => by rw [b.at_ i (Nat.lt_of_lt_of_le h1 a.le) h2, a.at_ i h1 h2]⟩
theorem Ex.new (d : Nat) (L : UH) (x : List HU) : Ex d L (L ++ x) := ⟨by simp, fun i h _ => by rw [List.getElem?_append_left h]⟩
theorem Ex.put (d : Nat) (L : UH) (o : HU) : Ex d L (L.set d o) := ⟨by simp, fun i _ h => by rw [List.getElem?_set_ne (Ne.symm h)]⟩
theorem Ex.set {d : Nat} {L L' : UH} (h : Ex d L L') {n : Nat} (hn : L.length ≤ n) (o : HU) : Ex d L (L'.set n o) :=
  ⟨by rw [List.length_set]; exact h.le, fun i h1 h2 => by rw [List.getElem?_set_ne (by omega)]; exact h.at_ i h1 h2⟩
theorem Ex.get {d : Nat} {L L' : UH} {i : Nat} {o : HU} (h : Ex d L L') (e : L[i]? = some o) (hi : i ≠ d) : L'[i]? = some o := by
  rw [h.at_ i (List.getElem?_eq_some_iff.mp e).1 hi]; exact e
noncomputable def Gw (L L' : UH) : Prop := ∃ x, L' = L ++ x
theorem Gw.refl (L : UH) : Gw L L := ⟨[], by simp⟩
theorem Gw.trans {L L1 M : UH} (a : Gw L L1) (b : Gw L1 M) : Gw L M := by obtain ⟨x, rfl⟩ := a; obtain ⟨y, rfl⟩ := b; exact ⟨x ++ y, by simp⟩
theorem Gw.new (L x : UH) : Gw L (L ++ x) := ⟨x, rfl⟩
theorem Gw.set {L L' : UH} (h : Gw L L') {n : Nat} (hn : L.length ≤ n) (o : HU) : Gw L (L'.set n o) := by
  obtain ⟨x, rfl⟩ := h
  exact ⟨x.set (n - L.length) o, by rw [List.set_append_right _ _ hn]⟩
theorem Gw.le {L L' : UH} (h : Gw L L') : L.length ≤ L'.length := by obtain ⟨x, rfl⟩ := h; simp
theorem Gw.get {L L' : UH} (h : Gw L L') {n : Nat} {o : HU} (e : L[n]? = some o) : L'[n]? = some o := by
  obtain ⟨x, rfl⟩ := h
  rw [List.getElem?_append_left (List.getElem?_eq_some_iff.mp e).1]; exact e
theorem Gw.seq {L L' : UH} (h : Gw L L') {n : Nat} {us : List U} (e : seqAt L n = some us) : seqAt L' n = some us := by
  obtain ⟨x, rfl⟩ := h; exact seqAt_app e
theorem Gw.ex {L L' : UH} (h : Gw L L') (d : Nat) : Ex d L L' := by obtain ⟨x, rfl⟩ := h; exact Ex.new d L x
theorem append_ok {L : UH} {n : Nat} {l : List U} (u : U) (h : L[n]? = some (.lst l)) (hl : l.length < 16777216) : semAppend (.ref n) [u] L = some (.non, L.set n (.lst (l ++ [u]))) := by
  show (lstAt L n).bind _ = _
  rw [lstAt_lst h]
  simp only [Option.bind_some]
  rw [if_pos (decide_eq_true (by unfold sizeLine; omega))]
theorem tyU_lst {L : UH} {n : Nat} {l : List U} (h : L[n]? = some (.lst l)) : tyU "list" (.ref n) L = true := by simp [tyU, h]
theorem len_lst {L : UH} {n : Nat} {l : List U} (h : L[n]? = some (.lst l)) : semLen [.ref n] L = some (.int l.length, L) := by simp [semLen, lenU, seqAt_lst h]
theorem fSeq_nx {f g : FS} {δ δ' : UE} {L L' : UH} (h : f δ L = some (.nx δ', L')) : fSeq f g δ L = g δ' L' := by rw [fSeq_eq, h]; rfl
theorem Ex.seq {d : Nat} {L L' : UH} (h : Ex d L L') {n : Nat} {us : List U} (hn : n ≠ d) (e : seqAt L n = some us) : seqAt L' n = some us := by
  unfold seqAt at e ⊢
  cases hq : L[n]? with
  | none => rw [hq] at e; cases e
  | some o => rw [h.get hq hn]; rw [hq] at e; exact e
noncomputable def b_l_draw : FS := (fSeq (fAsg (f2 semAdd (f2 semIx (fVar 0) (fC (.int 2))) (fC (.int 1))) (MR.gSub (fVar 0) (fC (.int 2)))) (fSeq (fIfS (fAnd (fTest (f2 semEq (f2 semIx (fVar 0) (fC (.int 1))) (fC (.int 1)))) (fTest (f2 semGt (f2 semIx (fVar 0) (fC (.int 0))) (fC (.int 0))))) (fSeq (fAsg (f2 semMod (f2 semIx (fVar 0) (fC (.int 0))) (fVar 1)) (gN 2)) (fSeq (fAsg (f2 semDiv (f2 semIx (fVar 0) (fC (.int 0))) (fVar 1)) (MR.gSub (fVar 0) (fC (.int 0)))) (fRet (fVar 2)))) fNext) (fSeq (fAsg (f2 semMod (f2 semMul (f2 semAdd (f2 semAdd (f2 semIx (fVar 0) (fC (.int 3))) (f2 semMul (fC (.int 6997)) (f2 semIx (fVar 0) (fC (.int 2))))) (fC (.int 11))) (fC (.int 48271))) (fC (.int 2147483647))) (gN 3)) (fSeq (fAsg (f2 semMod (f2 semMul (f2 semMod (f2 semMul (fVar 3) (fVar 3)) (fC (.int 2147483629))) (fC (.int 40692))) (fC (.int 2147483399))) (gN 3)) (fRet (f2 semMod (f2 semDiv (fVar 3) (fC (.int 7))) (fVar 1)))))))
noncomputable def m_l_draw : FN := fnU 4 2 b_l_draw
noncomputable def b_l_folded_1 : FS := (fAsg (f2 semMod (f2 semAdd (f2 semMul (fVar 1) (fC (.int 48271))) (f2 semMod (fVar 2) (fC (.int 2147483629)))) (fC (.int 2147483647))) (gN 1))
noncomputable def b_l_folded : FS := (fSeq (fAsg (fCall semLen (fCons (fVar 0) fNil)) (gN 1)) (fSeq (fFor (fSeqI (fVar 0)) (gN 2) b_l_folded_1) (fRet (fVar 1))))
noncomputable def m_l_folded : FN := fnU 3 1 b_l_folded
noncomputable def b_l_number : FS := (fSeq (fIfS (fTest (f2 semEq (fVar 1) (fC (.int 0)))) (fRet (f2 semSub (fOwn 2 m_l_draw (fCons (fVar 0) (fCons (fC (.int 4)) fNil))) (fC (.int 1)))) fNext) (fSeq (fIfS (fTest (f2 semEq (fVar 1) (fC (.int 1)))) (fRet (f2 semSub (fOwn 2 m_l_draw (fCons (fVar 0) (fCons (fC (.int 41)) fNil))) (fC (.int 20)))) fNext) (fSeq (fAsg (f2 semIx (fLst (fCons (f2 semAdd (f2 semMul (fOwn 2 m_l_draw (fCons (fVar 0) (fCons (f2 semPow (fC (.int 10)) (fC (.int 5))) fNil))) (f2 semPow (fC (.int 10)) (fC (.int 5)))) (fOwn 2 m_l_draw (fCons (fVar 0) (fCons (f2 semPow (fC (.int 10)) (fC (.int 5))) fNil)))) (fCons (f2 semSub (f2 semPow (fC (.int 10)) (fC (.int 10))) (fC (.int 1))) fNil))) (fCall semInt (fCons (f2 semEq (fOwn 2 m_l_draw (fCons (fVar 0) (fCons (fC (.int 8)) fNil))) (fC (.int 0))) fNil))) (gN 2)) (fRet (f2 semMul (f2 semIx (fLst (fCons (fC (.int 1)) (fCons (fNeg (fC (.int 1))) fNil))) (fOwn 2 m_l_draw (fCons (fVar 0) (fCons (fC (.int 2)) fNil)))) (fVar 2))))))
noncomputable def m_l_number : FN := fnU 3 2 b_l_number
noncomputable def b_l_seed : FS := (fSeq (fAsg (fCall semMax (fCons (fVar 0) (fCons (f2 semSub (fC (.int 0)) (fVar 0)) fNil))) (gN 1)) (fRet (fLst (fCons (fVar 1) (fCons (fCall semInt (fCons (f2 semGe (fVar 1) (f2 semPow (fC (.int 10)) (fC (.int 18)))) fNil)) (fCons (fC (.int 0)) (fCons (f2 semMod (fVar 0) (fC (.int 1999999913))) fNil)))))))
noncomputable def m_l_seed : FN := fnU 2 1 b_l_seed
structure Seed (L : UH) (d : Nat) (B : Int) : Prop where
  ex : ∃ (a b c e : Int), L[d]? = some (.lst [.int a, .int b, .int c, .int e]) ∧ 0 ≤ a ∧ 0 ≤ c ∧ c ≤ B ∧ 0 ≤ e ∧ e < 1999999913
theorem Seed.lt {L : UH} {d : Nat} {B : Int} (h : Seed L d B) : d < L.length := by
  obtain ⟨a, b, c, e, h1, _⟩ := h.ex
  exact (List.getElem?_eq_some_iff.mp h1).1
theorem Seed.mono {L : UH} {d : Nat} {B B' : Int} (h : Seed L d B) (hb : B ≤ B') : Seed L d B' := by
  obtain ⟨a, b, c, e, h1, h2, h3, h4, h5⟩ := h.ex
  exact ⟨a, b, c, e, h1, h2, h3, by omega, h5⟩
theorem Seed.new {L : UH} {d : Nat} {B : Int} (h : Seed L d B) (x : List HU) : Seed (L ++ x) d B := by
  obtain ⟨a, b, c, e, h1, h2⟩ := h.ex
  exact ⟨a, b, c, e, by rw [List.getElem?_append_left (List.getElem?_eq_some_iff.mp h1).1]; exact h1, h2⟩
theorem Seed.set {L : UH} {d : Nat} {B : Int} (h : Seed L d B) {n : Nat} (hn : n ≠ d) (o : HU) : Seed (L.set n o) d B := by
  obtain ⟨a, b, c, e, h1, h2⟩ := h.ex
  exact ⟨a, b, c, e, by rw [List.getElem?_set_ne hn]; exact h1, h2⟩
theorem Seed.gw {L L' : UH} {d : Nat} {B : Int} (h : Seed L d B) (g : Gw L L') : Seed L' d B := by obtain ⟨x, rfl⟩ := g; exact h.new x
theorem draw_ok {L : UH} {d : Nat} {B many : Int} (D : Seed L d B) (hB : B ≤ 1000000000000) (h0 : 0 < many) (h1 : many < 1000000000000000) :
    ∃ r L', m_l_draw [.ref d, .int many] L = some (.int r, L') ∧ 0 ≤ r ∧ r < many ∧ Seed L' d (B + 1) ∧ Ex d L L' := by
  obtain ⟨a, b, c, e, hd, ha, hc0, hc1, he0, he1⟩ := D.ex
  have hdl : d < L.length := (List.getElem?_eq_some_iff.mp hd).1
  have q1 := seqAt_lst hd
  have q2 := lstAt_lst hd
  have md : ∀ x : Int, 0 ≤ x % many ∧ x % many < many := fun x => ⟨Int.emod_nonneg _ (by omega), Int.emod_lt_of_pos _ h0⟩
  have i0 : ∀ (x0 x1 x2 x3 : U), L2.atI [x0, x1, x2, x3] 0 = some x0 := fun _ _ _ _ => rfl
  have i1 : ∀ (x0 x1 x2 x3 : U), L2.atI [x0, x1, x2, x3] 1 = some x1 := fun _ _ _ _ => rfl
  have i2 : ∀ (x0 x1 x2 x3 : U), L2.atI [x0, x1, x2, x3] 2 = some x2 := fun _ _ _ _ => rfl
  have i3 : ∀ (x0 x1 x2 x3 : U), L2.atI [x0, x1, x2, x3] 3 = some x3 := fun _ _ _ _ => rfl
  have j0 : ixN 4 0 = some 0 := rfl
  have j2 : ixN 4 2 = some 2 := rfl
  have set1 : ∀ us : List U, seqAt (L.set d (.lst us)) d = some us ∧ lstAt (L.set d (.lst us)) d = some us := fun us => by
    have : (L.set d (.lst us))[d]? = some (.lst us) := List.getElem?_set_self hdl
    exact ⟨seqAt_lst this, lstAt_lst this⟩
  have s1 := set1 [.int a, .int b, .int (c + 1), .int e]
  have keep : ∀ x : Int, 0 ≤ x → Seed (L.set d (.lst [.int x, .int b, .int (c + 1), .int e])) d (B + 1) ∧ Ex d L (L.set d (.lst [.int x, .int b, .int (c + 1), .int e])) := fun x hx =>
    ⟨⟨x, b, c + 1, e, List.getElem?_set_self hdl, hx, by omega, by omega, he0, he1⟩, Ex.put d L _⟩
  by_cases hb : b = 1 ∧ 0 < a
  · obtain ⟨rfl, hap⟩ := hb
    refine ⟨a % many, L.set d (.lst [.int (a / many), .int 1, .int (c + 1), .int e]), ?_, (md a).1, (md a).2, (keep (a / many) (Int.ediv_nonneg (by omega) (by omega))).1, (keep (a / many) (Int.ediv_nonneg (by omega) (by omega))).2⟩
    simp [m_l_draw, fnU, b_l_draw, q1, q2, i0, i1, i2, i3, j0, j2, s1, hap, h0, divOk_of h0 (by omega), List.replicate]
  · generalize hA : (e + 6997 * (c + 1) + 11) * 48271 % 2147483647 = A
    have hA0 : 0 ≤ A ∧ A < 2147483647 := by rw [← hA]; exact ⟨Int.emod_nonneg _ (by decide), Int.emod_lt_of_pos _ (by decide)⟩
    generalize hC : A * A % 2147483629 * 40692 % 2147483399 = Cn
    have m1 : mulOk 6997 (c + 1) = true := mulOk_l (by decide) (by decide)
    have m2 : ∀ x : Int, mulOk x 48271 = true := fun x => mulOk_r (by decide) (by decide)
    have m3 : mulOk A A = true := mulOk_l (by omega) (by omega)
    have m4 : ∀ x : Int, mulOk x 40692 = true := fun x => mulOk_r (by decide) (by decide)
    have d7 : ∀ x : Int, divOk x 7 = true := fun x => divOk_of (by decide) (by decide)
    refine ⟨Cn / 7 % many, L.set d (.lst [.int a, .int b, .int (c + 1), .int e]), ?_, (md _).1, (md _).2, (keep a ha).1, (keep a ha).2⟩
    by_cases hb1 : b = 1
    · have hna : ¬ 0 < a := fun z => hb ⟨hb1, z⟩
      simp [m_l_draw, fnU, b_l_draw, q1, q2, i0, i1, i2, i3, j0, j2, s1, hb1, hna, h0, m1, m2, m3, m4, d7, hA, hC, List.replicate]
      subst hb1
      simp [q1, q2, i0, i1, i2, i3, j2, s1, hna, h0, m1, m2, m3, m4, d7, hA, hC]
    · simp [m_l_draw, fnU, b_l_draw, q1, q2, i0, i1, i2, i3, j0, j2, s1, hb1, h0, m1, m2, m3, m4, d7, hA, hC, List.replicate]
theorem seed_ok (cell : Int) (L : UH) : ∃ L', m_l_seed [.int cell] L = some (.ref L.length, L') ∧ Seed L' L.length 0 ∧ Gw L L' := by
  have hmax : semMax [.int cell, .int (0 - cell)] L = some (.int (if 0 - cell > cell then 0 - cell else cell), L) := rfl
  generalize hn : (if 0 - cell > cell then 0 - cell else cell) = n at hmax
  have hn0 : 0 ≤ n := by rw [← hn]; split <;> omega
  have p18 : powOk 10 18 = true := rfl
  have hint : ∀ k : Bool, semInt [.bl k] L = some (.int (if k then 1 else 0), L) := fun _ => rfl
  refine ⟨L ++ [.lst [.int n, .int (if decide (1000000000000000000 ≤ n) = true then 1 else 0), .int 0, .int (cell % 1999999913)]], ?_, ⟨n, (if decide (1000000000000000000 ≤ n) = true then 1 else 0), 0, cell % 1999999913, by simp, hn0, by omega, by omega, Int.emod_nonneg _ (by decide), Int.emod_lt_of_pos _ (by decide)⟩, Gw.new _ _⟩
  simp only [Int.zero_sub] at hmax
  simp [m_l_seed, fnU, b_l_seed, hmax, p18, hint, small_of, List.replicate]
theorem folded_ok {L : UH} {n : Nat} (ns : List Int) (hs : seqAt L n = some (ns.map U.int)) : ∃ r, m_l_folded [.ref n] L = some (.int r, L) := by
  obtain ⟨δ', L', e, hP⟩ := for_ref (us := ns.map U.int) (n := n) (L0 := L) (L := L) (δ := [some (.ref n), some (.int ns.length), none]) (body := b_l_folded_1) (g := gN 2) (fi := fSeqI (fVar 0))
    (fun _ δ' L' => ∃ y1 y2, δ' = [some (.ref n), some (.int y1), y2] ∧ L' = L)
    (by simp [iSeqU_ref hs]) ⟨ns.length, none, rfl, rfl⟩
    (fun k δ L' ⟨_, _, _, hL⟩ => by rw [hL]; exact hs)
    (fun k u δ L' hu ⟨y1, y2, hδ, hL⟩ => by
      subst hδ; subst hL
      rw [List.getElem?_map] at hu
      obtain ⟨c, _, rfl⟩ := Option.map_eq_some_iff.mp hu
      refine ⟨_, _, rfl, [some (.ref n), some (.int ((y1 * 48271 + c % 2147483629) % 2147483647)), some (.int c)], _, .inl ?_, _, _, rfl, rfl⟩
      have m1 : mulOk y1 48271 = true := mulOk_r (by decide) (by decide)
      simp [b_l_folded_1, m1])
  obtain ⟨y1, y2, hδ, hL⟩ := hP
  subst hL
  refine ⟨y1, ?_⟩
  have hlen : semLen [.ref n] L' = some (.int ns.length, L') := by simp [semLen, lenU, hs]
  rw [hδ] at e
  simp [m_l_folded, fnU, b_l_folded, -fFor_eq, hlen, e, List.replicate]
theorem int_bl (k : Bool) (L : UH) : semInt [.bl k] L = some (.int (if k then 1 else 0), L) := rfl
theorem number2_ok {L : UH} {d : Nat} {B way : Int} (D : Seed L d B) (hB : B ≤ 100000000000) (hw : way = 0 ∨ way = 1 ∨ way = 2) :
    ∃ r L', m_l_number [.ref d, .int way] L = some (.int r, L') ∧ -9999999999 ≤ r ∧ r ≤ 9999999999 ∧ Seed L' d (B + 4) ∧ Ex d L L' := by
  rcases hw with rfl | rfl | rfl
  · obtain ⟨r, L1, e1, a1, b1, D1, x1⟩ := draw_ok (many := 4) D (by omega) (by decide) (by decide)
    exact ⟨r - 1, L1, by simp [m_l_number, fnU, b_l_number, e1, List.replicate], by omega, by omega, D1.mono (by omega), x1⟩
  · obtain ⟨r, L1, e1, a1, b1, D1, x1⟩ := draw_ok (many := 41) D (by omega) (by decide) (by decide)
    exact ⟨r - 20, L1, by simp [m_l_number, fnU, b_l_number, e1, List.replicate], by omega, by omega, D1.mono (by omega), x1⟩
  · obtain ⟨r1, L1, e1, a1, b1, D1, x1⟩ := draw_ok (many := 100000) D (by omega) (by decide) (by decide)
    obtain ⟨r2, K2, e2, a2, b2, D2, x2⟩ := draw_ok (many := 100000) D1 (by omega) (by decide) (by decide)
    obtain ⟨r3, L3, e3, a3, b3, D3, x3⟩ := draw_ok (many := 8) (D2.new [HU.lst [.int (r1 * 100000 + r2), .int 9999999999]]) (by omega) (by decide) (by decide)
    have hdl := D2.lt
    have q3 : seqAt L3 K2.length = some [.int (r1 * 100000 + r2), .int 9999999999] := seqAt_lst (x3.get (i := K2.length) (by simp) (by omega))
    have hg : ∃ g : Int, L2.atI [U.int (r1 * 100000 + r2), .int 9999999999] (if (r3 == 0) = true then 1 else 0) = some (.int g) ∧ 0 ≤ g ∧ g ≤ 9999999999 := by
      by_cases h : r3 = 0
      · exact ⟨9999999999, by simp [h]; rfl, by decide, by decide⟩
      · exact ⟨r1 * 100000 + r2, by simp [h]; rfl, by omega, by omega⟩
    obtain ⟨g, hg, g0, g1⟩ := hg
    obtain ⟨r4, L4, e4, a4, b4, D4, x4⟩ := draw_ok (many := 2) (D3.new [HU.lst [.int 1, .int (-1)]]) (by omega) (by decide) (by decide)
    have q4 : seqAt L4 L3.length = some [.int 1, .int (-1)] := seqAt_lst (x4.get (i := L3.length) (by simp) (by have := D3.lt; omega))
    have hs : ∃ sg : Int, L2.atI [U.int 1, .int (-1)] r4 = some (.int sg) ∧ (sg = 1 ∨ sg = -1) := by
      have : r4 = 0 ∨ r4 = 1 := by omega
      rcases this with rfl | rfl
      · exact ⟨1, rfl, .inl rfl⟩
      · exact ⟨-1, rfl, .inr rfl⟩
    obtain ⟨sg, hs, hsg⟩ := hs
    have p5 : powOk 10 5 = true := rfl
    have p10 : powOk 10 10 = true := rfl
    have m1 : mulOk r1 100000 = true := mulOk_r (by decide) (by decide)
    have m2 : mulOk sg g = true := mulOk_r (by omega) (by omega)
    refine ⟨sg * g, L4, ?_, by rcases hsg with rfl | rfl <;> omega, by rcases hsg with rfl | rfl <;> omega, D4.mono (by omega), x1.trans (x2.trans ((Ex.new d K2 _).trans (x3.trans ((Ex.new d L3 _).trans x4))))⟩
    simp only [beq_iff_eq] at hg
    simp [m_l_number, fnU, b_l_number, p5, p10, e1, m1, e2, small_of, e3, int_bl, q3, hg, e4, q4, hs, m2, List.replicate]
end Lw
set_option Elab.async false
set_option linter.all false
set_option maxRecDepth 100000
set_option maxHeartbeats 1000000
namespace Lw
open PySem L2 MR
noncomputable def b_l_near : FS := (fSeq (fIfS (fOr (fTest (f2 semEq (fVar 1) (fTup fNil))) (fTest (f2 semEq (fOwn 2 m_l_draw (fCons (fVar 0) (fCons (fC (.int 5)) fNil))) (fC (.int 0))))) (fRet (fOwn 2 m_l_number (fCons (fVar 0) (fCons (fOwn 2 m_l_draw (fCons (fVar 0) (fCons (fC (.int 3)) fNil))) fNil)))) fNext) (fSeq (fIfS (fTest (f2 semEq (fOwn 2 m_l_draw (fCons (fVar 0) (fCons (fC (.int 8)) fNil))) (fC (.int 0)))) (fRet (f2 semIx (fLst (fCons (f2 semSub (f2 semPow (fC (.int 10)) (fC (.int 13))) (fC (.int 1))) (fCons (f2 semSub (fC (.int 1)) (f2 semPow (fC (.int 10)) (fC (.int 13)))) (fCons (f2 semPow (fC (.int 10)) (fC (.int 10))) (fCons (f2 semSub (fC (.int 0)) (f2 semPow (fC (.int 10)) (fC (.int 10)))) fNil))))) (fOwn 2 m_l_draw (fCons (fVar 0) (fCons (fC (.int 4)) fNil))))) fNext) (fSeq (fAsg (f2 semSub (f2 semAdd (f2 semIx (fVar 1) (fOwn 2 m_l_draw (fCons (fVar 0) (fCons (fCall semLen (fCons (fVar 1) fNil)) fNil)))) (fOwn 2 m_l_draw (fCons (fVar 0) (fCons (fC (.int 3)) fNil)))) (fC (.int 1))) (gN 2)) (fRet (fCall semMax (fCons (f2 semSub (fC (.int 1)) (f2 semPow (fC (.int 10)) (fC (.int 10)))) (fCons (fCall semMin (fCons (f2 semSub (f2 semPow (fC (.int 10)) (fC (.int 10))) (fC (.int 1))) (fCons (fVar 2) fNil))) fNil)))))))
noncomputable def m_l_near : FN := fnU 3 2 b_l_near
noncomputable def b_l_place_1e : FE := (fVar 2)
noncomputable def b_l_place_2e : FE := (fVar 1)
noncomputable def b_l_place : FS := (fSeq (fIfS (fAnd (fTest (f2 semNe (fVar 1) (fTup fNil))) (fTest (f2 semEq (fOwn 2 m_l_draw (fCons (fVar 0) (fCons (fC (.int 4)) fNil))) (fC (.int 0))))) (fRet (fSl semSl (f2 semIx (fVar 1) (fOwn 2 m_l_draw (fCons (fVar 0) (fCons (fCall semLen (fCons (fVar 1) fNil)) fNil)))) (fPart (fC (.int 1))) fNoPart)) fNext) (fSeq (fAsg (fCall semTuple (fCons (fComp [none, none, none] (fSeqI (fVar 1)) (MR.gTup 3 (MR.gCons (gN 0) (MR.gCons (gN 1) (MR.gCons (gN 2) MR.gNil)))) none b_l_place_2e) fNil)) (gN 2)) (fSeq (fAsg (fCall semTuple (fCons (fComp [none, none, none] (fSeqI (fVar 1)) (MR.gTup 3 (MR.gCons (gN 0) (MR.gCons (gN 1) (MR.gCons (gN 2) MR.gNil)))) none b_l_place_1e) fNil)) (gN 3)) (fRet (fTup (fCons (fOwn 2 m_l_near (fCons (fVar 0) (fCons (fVar 2) fNil))) (fCons (fOwn 2 m_l_near (fCons (fVar 0) (fCons (fVar 3) fNil))) fNil)))))))
noncomputable def m_l_place : FN := fnU 4 2 b_l_place
noncomputable def b_l_box : FS := (fSeq (fAsg (fOwn 2 m_l_place (fCons (fVar 0) (fCons (fVar 1) fNil))) (gN 2)) (fSeq (fAsg (fOwn 2 m_l_place (fCons (fVar 0) (fCons (fVar 1) fNil))) (gN 3)) (fSeq (fIfS (fTest (f2 semEq (fOwn 2 m_l_draw (fCons (fVar 0) (fCons (fC (.int 8)) fNil))) (fC (.int 0)))) (fRet (f2 semAdd (fVar 2) (fVar 3))) fNext) (fSeq (fAsg (fTup (fCons (fCall semMin (fCons (f2 semIx (fVar 2) (fC (.int 0))) (fCons (f2 semIx (fVar 3) (fC (.int 0))) fNil))) (fCons (fCall semMin (fCons (f2 semIx (fVar 2) (fC (.int 1))) (fCons (f2 semIx (fVar 3) (fC (.int 1))) fNil))) fNil))) (gN 4)) (fRet (f2 semAdd (fVar 4) (fTup (fCons (fCall semMax (fCons (f2 semIx (fVar 2) (fC (.int 0))) (fCons (f2 semIx (fVar 3) (fC (.int 0))) fNil))) (fCons (fCall semMax (fCons (f2 semIx (fVar 2) (fC (.int 1))) (fCons (f2 semIx (fVar 3) (fC (.int 1))) fNil))) fNil)))))))))
noncomputable def m_l_box : FN := fnU 5 2 b_l_box
noncomputable def b_l_names_1e : FE := (fMeth "list" semPop (fVar 1) (fCons (fOwn 2 m_l_draw (fCons (fVar 2) (fCons (fCall semLen (fCons (fVar 1) fNil)) fNil))) fNil))
noncomputable def b_l_names_2e : FE := (fVar 0)
noncomputable def b_l_names_3e : FE := (f2 semAdd (fVar 0) (fC (.str "b")))
noncomputable def b_l_names_4e : FE := (f2 semAdd (fC (.str "zzzzzzz")) (fVar 0))
noncomputable def b_l_names : FS := (fSeq (fAsg (fC (.str "abcdefghijklmnopqrstuvwxyz")) (gN 2)) (fSeq (fAsg (f2 semAdd (f2 semAdd (fComp [none] (fStrI (fVar 2)) (gN 0) none b_l_names_2e) (fComp [none] (fStrI (fVar 2)) (gN 0) none b_l_names_3e)) (fComp [none] (fStrI (fVar 2)) (gN 0) none b_l_names_4e)) (gN 3)) (fSeq (fAsg (f2 semAdd (fVar 3) (fLst (fCons (fC (.str "put")) (fCons (fC (.str "take")) (fCons (fC (.str "move")) (fCons (fC (.str "points")) (fCons (fC (.str "counts")) (fCons (fC (.str "pairs")) (fCons (fC (.str "halves")) (fCons (fC (.str "below")) (fCons (fC (.str "above")) (fCons (fC (.str "abcdefgh")) fNil)))))))))))) (gN 3)) (fSeq (fAsg (f2 semAdd (fVar 3) (fLst (fCons (fC (.str "mall")) (fCons (fC (.str "mill")) (fCons (fC (.str "mell")) (fCons (fC (.str "abcxefgh")) (fCons (fC (.str "millmal")) (fCons (fC (.str "mellmal")) (fCons (fC (.str "ba")) fNil))))))))) (gN 3)) (fRet (fComp [none, some 3, some 0] (fRng1 (fCons (fVar 1) fNil)) (gN 0) none b_l_names_1e))))))
noncomputable def m_l_names : FN := fnU 4 2 b_l_names
noncomputable def b_l_points_1 : FS := (fSeq (fAsg (fOwn 2 m_l_number (fCons (fVar 0) (fCons (fVar 3) fNil))) (gN 6)) (fSeq (fAsg (fOwn 2 m_l_number (fCons (fVar 0) (fCons (fVar 3) fNil))) (gN 7)) (fSeq (fAsg (fOwn 2 m_l_draw (fCons (fVar 0) (fCons (fC (.int 6)) fNil))) (gN 8)) (fSeq (fIfS (fAnd (fTest (f2 semNe (fVar 4) (fLst fNil))) (fTest (f2 semLt (fVar 8) (fC (.int 2))))) (fSeq (fAsg (f2 semIx (fVar 4) (fOwn 2 m_l_draw (fCons (fVar 0) (fCons (fCall semLen (fCons (fVar 4) fNil)) fNil)))) (gN 9)) (fSeq (fAsg (f2 semIx (fVar 9) (fC (.int 1))) (gN 6)) (fAsg (f2 semIx (fLst (fCons (fVar 7) (fCons (f2 semIx (fVar 9) (fC (.int 2))) fNil))) (fVar 8)) (gN 7)))) fNext) (fDrop (fMeth "list" semAppend (fVar 4) (fCons (fTup (fCons (fVar 5) (fCons (fVar 6) (fCons (fVar 7) fNil)))) fNil)))))))
noncomputable def b_l_points : FS := (fSeq (fAsg (f2 semIx (fLst (fCons (fOwn 2 m_l_draw (fCons (fVar 0) (fCons (fC (.int 6)) fNil))) (fCons (fOwn 2 m_l_draw (fCons (fVar 0) (fCons (f2 semAdd (fVar 1) (fC (.int 1))) fNil))) (fCons (fVar 1) fNil)))) (fOwn 2 m_l_draw (fCons (fVar 0) (fCons (fC (.int 3)) fNil)))) (gN 2)) (fSeq (fAsg (fOwn 2 m_l_draw (fCons (fVar 0) (fCons (fC (.int 3)) fNil))) (gN 3)) (fSeq (fAsg (fLst fNil) (gN 4)) (fSeq (fFor (fSeqI (fOwn 2 m_l_names (fCons (fVar 0) (fCons (fVar 2) fNil)))) (gN 5) b_l_points_1) (fRet (fCall semTuple (fCons (fVar 4) fNil)))))))
noncomputable def m_l_points : FN := fnU 10 2 b_l_points
noncomputable def b_l_in_order_1e : FE := (f2 semIx (fVar 0) (fC (.int 3)))
noncomputable def b_l_in_order_3e : FE := (fC (.int 1))
noncomputable def b_l_in_order_3t : FT := (fTest (f2 semLtA (fSl semSl (fVar 0) fNoPart (fPart (fC (.int 3)))) (fSl semSl (fVar 1) fNoPart (fPart (fC (.int 3))))))
noncomputable def b_l_in_order_2 : FS := (fSeq (fAsg (fCall semLen (fCons (fComp [none, some 2] (fSeqI (fVar 1)) (gN 0) (some b_l_in_order_3t) b_l_in_order_3e) fNil)) (gN 3)) (fDrop (fMeth "list" semInsert (fVar 1) (fCons (fVar 3) (fCons (fVar 2) fNil)))))
noncomputable def b_l_in_order : FS := (fSeq (fAsg (fLst fNil) (gN 1)) (fSeq (fFor (fSeqI (fVar 0)) (gN 2) b_l_in_order_2) (fRet (fComp [none] (fSeqI (fVar 1)) (gN 0) none b_l_in_order_1e))))
noncomputable def m_l_in_order : FN := fnU 4 1 b_l_in_order
noncomputable def b_l_is_in : FS := (fRet (fAndV (f2 semLe (f2 semIx (fVar 0) (fC (.int 0))) (fVar 1)) (fAndV (f2 semLe (fVar 1) (f2 semIx (fVar 0) (fC (.int 2)))) (fAndV (f2 semLe (f2 semIx (fVar 0) (fC (.int 1))) (fVar 2)) (f2 semLe (fVar 2) (f2 semIx (fVar 0) (fC (.int 3))))))))
noncomputable def m_l_is_in : FN := fnU 3 3 b_l_is_in
noncomputable def b_l_alone : FS := (fSeq (fIfS (fOr (fNot (fTru (fIsX ["NoPlace", "NoAsk", "NoPoints", "NoCounts", "NoName"] "NoPlace" (fVar 0)))) (fOr (fNot (fTru (fIsX ["NoPlace", "NoAsk", "NoPoints", "NoCounts", "NoName"] "BelowError" (fVar 0)))) (fNot (fTru (fIsX ["NoPlace", "NoAsk", "NoPoints", "NoCounts", "NoName"] "ValueError" (fVar 0)))))) (fRet (fC (.bl false))) fNext) (fRet (fNotV (fIsXT ["NoPlace", "NoAsk", "NoPoints", "NoCounts", "NoName"] ["NoAsk", "NoCounts", "NoName", "NoPoints"] (fVar 0)))))
noncomputable def m_l_alone : FN := fnU 1 1 b_l_alone
noncomputable def b_NoPlace___init__ : FS := (fDrop (fBInitC ["NoPlace", "NoAsk", "NoPoints", "NoCounts", "NoName"] (fCons (fVar 0) (fCons (fVar 1) fNil))))
noncomputable def m_NoPlace___init__ : FN := fnU 2 2 b_NoPlace___init__
noncomputable def b_name_at : FS := (fSeq (fIfS (fOr (fTest (f2 semLt (fVar 1) (fC (.int 0)))) (fTest (f2 semGe (fVar 1) (fCall semLen (fCons (fVar 0) fNil))))) fNever fNext) (fRet (f2 semIx (f2 semIx (fVar 0) (fVar 1)) (fC (.int 0)))))
noncomputable def m_name_at : FN := fnU 2 2 b_name_at
noncomputable def xb_name_at : XS := (xSeq fNever (xIf (fOr (fTest (f2 semLt (fVar 1) (fC (.int 0)))) (fTest (f2 semGe (fVar 1) (fCall semLen (fCons (fVar 0) fNil))))) (xRaise ["NoPlace", "NoAsk", "NoPoints", "NoCounts", "NoName"] (fMakeX "NoPlace" 2 m_NoPlace___init__ (fCons (fJoined [(fC (.str "there is no point at place ")), (fFmt (fVar 1)), (fC (.str " in this box"))]) fNil))) xNo) xNo)
noncomputable def x_name_at : XN := fnX 2 2 xb_name_at
noncomputable def b_place_of : FS := (fRet (fTup (fCons (f2 semIx (fVar 0) (fC (.int 1))) (fCons (f2 semIx (fVar 0) (fC (.int 2))) fNil))))
noncomputable def m_place_of : FN := fnU 1 1 b_place_of
noncomputable def b_is_held : FS := (fRet (fAndV (fChain semLe semLe (f2 semIx (fVar 1) (fC (.int 0))) (f2 semIx (fVar 0) (fC (.int 1))) (f2 semIx (fVar 1) (fC (.int 2)))) (fChain semLe semLe (f2 semIx (fVar 1) (fC (.int 1))) (f2 semIx (fVar 0) (fC (.int 2))) (f2 semIx (fVar 1) (fC (.int 3))))))
noncomputable def m_is_held : FN := fnU 2 2 b_is_held
noncomputable def b_points_in_1e : FE := (fVar 0)
noncomputable def b_points_in_1t : FT := (fTru (fOwn 2 m_is_held (fCons (fVar 0) (fCons (fVar 1) fNil))))
noncomputable def b_points_in : FS := (fRet (fComp [none, some 1] (fSeqI (fVar 0)) (gN 0) (some b_points_in_1t) b_points_in_1e))
noncomputable def m_points_in : FN := fnU 2 2 b_points_in
noncomputable def b_nth_by_x : FS := (fRet (fOwn 2 m_name_at (fCons (fSortK m_place_of (fOwn 2 m_points_in (fCons (fVar 0) (fCons (fVar 1) fNil)))) (fCons (fVar 2) fNil))))
noncomputable def m_nth_by_x : FN := fnU 3 3 b_nth_by_x
noncomputable def xb_nth_by_x : XS := (xOf (xOwn 2 x_name_at (fCons (fSortK m_place_of (fOwn 2 m_points_in (fCons (fVar 0) (fCons (fVar 1) fNil)))) (fCons (fVar 2) fNil))))
noncomputable def x_nth_by_x : XN := fnX 3 3 xb_nth_by_x
noncomputable def b_turned_place_of : FS := (fRet (fTup (fCons (f2 semIx (fVar 0) (fC (.int 2))) (fCons (f2 semIx (fVar 0) (fC (.int 1))) fNil))))
noncomputable def m_turned_place_of : FN := fnU 1 1 b_turned_place_of
noncomputable def b_nth_by_y : FS := (fRet (fOwn 2 m_name_at (fCons (fSortK m_turned_place_of (fOwn 2 m_points_in (fCons (fVar 0) (fCons (fVar 1) fNil)))) (fCons (fVar 2) fNil))))
noncomputable def m_nth_by_y : FN := fnU 3 3 b_nth_by_y
noncomputable def xb_nth_by_y : XS := (xOf (xOwn 2 x_name_at (fCons (fSortK m_turned_place_of (fOwn 2 m_points_in (fCons (fVar 0) (fCons (fVar 1) fNil)))) (fCons (fVar 2) fNil))))
noncomputable def x_nth_by_y : XN := fnX 3 3 xb_nth_by_y
noncomputable def b_l_told_1 : FS := (fIfS (fTru (fVar 3)) (fAsg (fOwn 3 m_nth_by_x (fCons (fVar 0) (fCons (fVar 1) (fCons (fVar 2) fNil)))) (gN 4)) (fAsg (fOwn 3 m_nth_by_y (fCons (fVar 0) (fCons (fVar 1) (fCons (fVar 2) fNil)))) (gN 4)))
noncomputable def b_l_told_1x : XS := (xIf (fTru (fVar 3)) (xOf (xOwn 3 x_nth_by_x (fCons (fVar 0) (fCons (fVar 1) (fCons (fVar 2) fNil))))) (xOf (xOwn 3 x_nth_by_y (fCons (fVar 0) (fCons (fVar 1) (fCons (fVar 2) fNil))))))
noncomputable def b_l_told_1h : FS := (fAsg (fVar 6) (gN 5))
noncomputable def b_l_told : FS := (fSeq (fAsg (fC .non) (gN 4)) (fSeq (fAsg (fC .non) (gN 5)) (fSeq (fTry b_l_told_1 b_l_told_1x ["NoPlace", "NoAsk", "NoPoints", "NoCounts", "NoName"] 6 b_l_told_1h) (fSeq (fIfS (fTest (f2 semNotN (fVar 5) (fC .non))) (fRet (f2 semIx (fLst (fCons (fC (.int 0)) (fCons (fTup (fCons (fC (.str "refused")) fNil)) fNil))) (fCall semInt (fCons (fOwn 1 m_l_alone (fCons (fVar 5) fNil)) fNil)))) fNext) (fRet (fVar 4))))))
noncomputable def m_l_told : FN := fnU 7 4 b_l_told
noncomputable def b_l_right_1 : FS := (fSeq (fAsg (fTup (fCons (fC (.str "refused")) fNil)) (gN 12)) (fSeq (fIfS (fTest (fChain semLe semLt (fC (.int 0)) (fVar 11) (fCall semLen (fCons (fVar 9) fNil)))) (fAsg (f2 semIx (fVar 9) (fVar 11)) (gN 12)) fNext) (fIfS (fTest (f2 semNe (fOwn 4 m_l_told (fCons (fVar 0) (fCons (fVar 1) (fCons (fVar 11) (fCons (fVar 2) fNil))))) (fVar 12))) (fRet (fC (.bl false))) fNext)))
noncomputable def b_l_right_2 : FS := (fIfS (fTru (fOwn 3 m_l_is_in (fCons (fVar 1) (fCons (fVar 7) (fCons (fVar 8) fNil))))) (fDrop (fMeth "list" semAppend (fVar 4) (fCons (f2 semIx (fLst (fCons (fTup (fCons (fVar 8) (fCons (fVar 7) (fCons (fVar 5) (fCons (fVar 6) fNil))))) (fCons (fTup (fCons (fVar 7) (fCons (fVar 8) (fCons (fVar 5) (fCons (fVar 6) fNil))))) fNil))) (fCall semInt (fCons (fVar 2) fNil))) fNil))) fNext)
noncomputable def b_l_right : FS := (fSeq (fAsg (fLst fNil) (gN 4)) (fSeq (fFor (fEnumA (fCons (fVar 0) fNil)) (MR.gTup 2 (MR.gCons (gN 5) (MR.gCons (MR.gTup 3 (MR.gCons (gN 6) (MR.gCons (gN 7) (MR.gCons (gN 8) MR.gNil)))) MR.gNil))) b_l_right_2) (fSeq (fAsg (fOwn 1 m_l_in_order (fCons (fVar 4) fNil)) (gN 9)) (fSeq (fAsg (f2 semAdd (fLRng1 (fCons (fCall semMin (fCons (fC (.int 12)) (fCons (fCall semLen (fCons (fVar 9) fNil)) fNil))) fNil)) (fLst (fCons (f2 semSub (fCall semLen (fCons (fVar 9) fNil)) (fC (.int 1))) (fCons (fCall semLen (fCons (fVar 9) fNil)) (fCons (f2 semAdd (fCall semLen (fCons (fVar 9) fNil)) (fVar 3)) (fCons (fNeg (fC (.int 1))) (fCons (f2 semSub (fNeg (fC (.int 1))) (fVar 3)) fNil))))))) (gN 10)) (fSeq (fDrop (fMeth "list" semAppend (fVar 10) (fCons (f2 semMod (fVar 3) (fCall semMax (fCons (fC (.int 1)) (fCons (fCall semLen (fCons (fVar 9) fNil)) fNil)))) fNil))) (fSeq (fFor (fSeqI (fVar 10)) (gN 11) b_l_right_1) (fRet (fC (.bl true)))))))))
noncomputable def m_l_right : FN := fnU 13 4 b_l_right
noncomputable def b_l_wide_1e : FE := (fVar 2)
noncomputable def b_l_wide_2e : FE := (fVar 1)
noncomputable def b_l_wide : FS := (fSeq (fAsg (f2 semAdd (fComp [none, none, none] (fSeqI (fVar 0)) (MR.gTup 3 (MR.gCons (gN 0) (MR.gCons (gN 1) (MR.gCons (gN 2) MR.gNil)))) none b_l_wide_2e) (fLst (fCons (fC (.int 0)) fNil))) (gN 1)) (fSeq (fAsg (f2 semAdd (fComp [none, none, none] (fSeqI (fVar 0)) (MR.gTup 3 (MR.gCons (gN 0) (MR.gCons (gN 1) (MR.gCons (gN 2) MR.gNil)))) none b_l_wide_1e) (fLst (fCons (fC (.int 0)) fNil))) (gN 2)) (fRet (fTup (fCons (fCall semMin (fCons (fVar 1) fNil)) (fCons (fCall semMin (fCons (fVar 2) fNil)) (fCons (fCall semMax (fCons (fVar 1) fNil)) (fCons (fCall semMax (fCons (fVar 2) fNil)) fNil))))))))
noncomputable def m_l_wide : FN := fnU 3 1 b_l_wide
noncomputable def b_law_2 : FS := (fSeq (fAsg (f2 semAdd (f2 semAdd (fC (.int 1)) (fOwn 2 m_l_draw (fCons (fVar 2) (fCons (f2 semPow (fC (.int 10)) (fC (.int 6))) fNil)))) (f2 semMul (f2 semPow (fC (.int 10)) (fC (.int 12))) (fOwn 2 m_l_draw (fCons (fVar 2) (fCons (fC (.int 2)) fNil))))) (gN 6)) (fIfS (fOr (fNot (fTru (fOwn 4 m_l_right (fCons (fVar 3) (fCons (fVar 5) (fCons (fC (.bl true)) (fCons (fVar 6) fNil))))))) (fNot (fTru (fOwn 4 m_l_right (fCons (fVar 3) (fCons (fVar 5) (fCons (fC (.bl false)) (fCons (fVar 6) fNil)))))))) (fRet (fC (.bl false))) fNext))
noncomputable def b_law_3e : FE := (fOwn 2 m_l_box (fCons (fVar 1) (fCons (fVar 2) fNil)))
noncomputable def b_law_1 : FS := (fSeq (fAsg (fOwn 1 m_l_seed (fCons (fVar 1) fNil)) (gN 2)) (fSeq (fAsg (fOwn 2 m_l_points (fCons (fVar 2) (fCons (fC (.int 60)) fNil))) (gN 3)) (fSeq (fAsg (f2 semAdd (fComp [none, some 2, some 3] (fRng1 (fCons (fC (.int 4)) fNil)) (gN 0) none b_law_3e) (fLst (fCons (fOwn 1 m_l_wide (fCons (fVar 3) fNil)) fNil))) (gN 4)) (fFor (fSeqI (fVar 4)) (gN 5) b_law_2))))
noncomputable def b_law : FS := (fSeq (fFor (fSeqI (f2 semAdd (fSl semSl (fVar 0) fNoPart (fPart (fC (.int 2)))) (fLst (fCons (fOwn 1 m_l_folded (fCons (fVar 0) fNil)) fNil)))) (gN 1) b_law_1) (fRet (fC (.bl true))))
noncomputable def m_law : FN := fnU 7 1 b_law
theorem pop_ok {L : UH} {n : Nat} {l : List U} {i : Int} (h : L[n]? = some (.lst l)) (h0 : 0 ≤ i) (h1 : i < l.length) (hs : l.length < 1000000) : semPop (.ref n) [.int i] L = some (l[i.toNat]'(by omega), L.set n (.lst (l.eraseIdx i.toNat))) := by
  have hk : seqIndex? i l.length = some i.toNat := by unfold seqIndex?; simp; omega
  have hg : l[i.toNat]? = some (l[i.toNat]'(by omega)) := List.getElem?_eq_getElem (by omega)
  simp only [semPop, lstAt_lst h, Option.bind_some, hk, hg, Option.map_some]
  rw [if_pos ⟨by omega, by omega⟩]
theorem eraseIdx_mapU {β γ : Type} (f : β → γ) (l : List β) (i : Nat) : (l.map f).eraseIdx i = (l.eraseIdx i).map f := by
  rw [List.eraseIdx_eq_take_drop_succ, List.eraseIdx_eq_take_drop_succ, List.map_append, List.map_take, List.map_drop]
theorem erase_perm {β : Type} : ∀ (l : List β) (i : Nat) (h : i < l.length), (l[i]'h :: l.eraseIdx i).Perm l
  | a :: l, 0, _ => by simp
  | a :: l, i + 1, h => by
    have ih := erase_perm l i (by simpa using h)
    simp only [List.getElem_cons_succ, List.eraseIdx_cons_succ]
    exact (List.Perm.swap _ _ _).trans (ih.cons a)
theorem pop_turnS {β : Type} (rep : β → U) {L : UH} {d n : Nat} {B : Int} {l : List β} (D : Seed L d B) (hB : B ≤ 1000000000) (hd : n ≠ d) (h : L[n]? = some (.lst (l.map rep))) (hl : 0 < l.length) (hs : l.length < 1000) (x0 : Option U) :
    ∃ (r : β) (L' : UH) (l' : List β), (fMeth "list" semPop (fVar 1) (fCons (fOwn 2 m_l_draw (fCons (fVar 2) (fCons (fCall semLen (fCons (fVar 1) fNil)) fNil))) fNil)) [x0, some (.ref n), some (.ref d)] L = some (rep r, L') ∧ Seed L' d (B + 1) ∧ L'[n]? = some (.lst (l'.map rep)) ∧ l'.length + 1 = l.length ∧ (∀ L0, Ex d L0 L → L0.length ≤ n → Ex d L0 L') ∧ (r :: l').Perm l := by
  obtain ⟨i, L1, e1, i0, i1, D1, x1⟩ := draw_ok (many := ((l.map rep).length : Nat)) D (by omega) (by simp; omega) (by simp; omega)
  have h' : L1[n]? = some (.lst (l.map rep)) := x1.get h hd
  have hi : i < l.length := by simpa using i1
  have hp := pop_ok h' i0 i1 (by simp; omega)
  refine ⟨l[i.toNat]'(by omega), L1.set n (.lst ((l.map rep).eraseIdx i.toNat)), l.eraseIdx i.toNat, ?_, D1.set hd _, ?_, ?_, fun L0 x0 hn => (x0.trans x1).set hn _, erase_perm l i.toNat (by omega)⟩
  · have ty := tyU_lst h
    have e1' := e1
    simp only [List.length_map] at e1'
    simp [ty, len_lst h, e1', hp]
  · rw [List.getElem?_set_self (by have := (List.getElem?_eq_some_iff.mp h').1; exact this)]
    rw [eraseIdx_mapU]
  · rw [List.length_eraseIdx, if_pos (by omega)]; omega
noncomputable def abc : Str := "abcdefghijklmnopqrstuvwxyz"
noncomputable def letN : List Nat := abc.cps.toList
theorem abc_ascii : abc.cps.all (· < 128) = true := by decide +kernel
theorem letN_len : letN.length = 26 := by decide +kernel
noncomputable def one (c : Nat) : Str := ⟨#[c]⟩
noncomputable def spare1 : List Str := letN.map one ++ letN.map (fun c => one c ++ "b") ++ letN.map (fun c => "zzzzzzz" ++ one c)
noncomputable def wordsA : List Str := ["put", "take", "move", "points", "counts", "pairs", "halves", "below", "above", "abcdefgh"]
noncomputable def wordsB : List Str := ["mall", "mill", "mell", "abcxefgh", "millmal", "mellmal", "ba"]
noncomputable def spare2 : List Str := spare1 ++ wordsA
noncomputable def spare3 : List Str := spare2 ++ wordsB
theorem spare3_nodup : spare3.Nodup := by decide +kernel
theorem spare3_len : spare3.length = 95 := by decide +kernel
theorem len_b (c : Nat) : (one c).length + ("b" : Str).length ≤ 16777216 := by show 1 + _ ≤ _; decide
theorem len_z (c : Nat) : ("zzzzzzz" : Str).length + (one c).length ≤ 16777216 := by show _ + 1 ≤ _; decide
theorem let_comp (fe : FE) (f : Nat → Str) (hf : ∀ c L, fe [some (.str (one c))] L = some (.str (f c), L)) (x0 x1 x3 : Option U) (L : UH) :
    ∃ L', fComp [none] (fStrI (fVar 2)) (gN 0) none fe [x0, x1, some (.str abc), x3] L = some (.ref L.length, L') ∧ L' = L ++ [.lst ((letN.map f).map U.str)] := by
  have hi : fStrI (fVar 2) [x0, x1, some (.str abc), x3] L = some (.seq (letN.map fun c => .str (one c)), L) := by
    show ((some (U.str abc, L)).bind fun p => _) = _
    rw [Option.bind_some]
    show (if abc.cps.all (· < 128) = true then some (IU.seq (chrU abc), L) else none) = _
    rw [if_pos abc_ascii]; rfl
  have hc : ∃ x : UH, x = [] ∧ fComp [none] (fStrI (fVar 2)) (gN 0) none fe [x0, x1, some (.str abc), x3] L = some (.ref (L ++ x).length, L ++ x ++ [.lst (letN.map fun c => .str (f c))]) := by
    obtain ⟨ys, δ', M, e, ⟨z, hδ⟩, hM, hys⟩ := fcomp (ix := [none]) (it := .seq (letN.map fun c => .str (one c))) (g := gN 0) (tt := none) (fe := fe) (us := letN.map fun c => .str (one c)) (δ := [x0, x1, some (.str abc), x3]) (L := L) (L0 := L)
      (fun k acc δ' M => (∃ z, δ' = [z]) ∧ M = L ∧ acc = (letN.take k).map fun c => .str (f c)) hi (by simp [IU.size]) ⟨⟨none, rfl⟩, rfl, by simp⟩
      (fun k acc δ L _ _ => rfl)
      (fun k u acc δ M hu ⟨⟨z, hδ⟩, hM, ha⟩ => by
        subst hδ; subst hM
        rw [List.getElem?_map] at hu
        obtain ⟨c, hc, rfl⟩ := Option.map_eq_some_iff.mp hu
        have hk : k < letN.length := (List.getElem?_eq_some_iff.mp hc).1
        refine ⟨[some (.str (one c))], M, rfl, true, M, rfl, fun _ => ⟨_, M, hf c M, ?_, ⟨_, rfl⟩, rfl, ?_⟩, fun h => by cases h⟩
        · rw [ha, List.length_map, List.length_take]; have := letN_len; omega
        · rw [ha, List.take_add_one, hc]; simp)
    refine ⟨[], rfl, ?_⟩
    rw [List.length_map, List.take_length] at hys
    rw [e, hM, hys]; simp
  obtain ⟨x, rfl, e⟩ := hc
  refine ⟨_, ?_, rfl⟩
  rw [e]; simp
theorem cat_ok {L : UH} {n m : Nat} {a b : List Str} (h1 : L[n]? = some (.lst (a.map U.str))) (h2 : L[m]? = some (.lst (b.map U.str))) (hs : a.length + b.length ≤ 1000) : semAdd (.ref n) (.ref m) L = some (.ref L.length, L ++ [.lst ((a ++ b).map U.str)]) := by
  unfold semAdd
  simp only [lstAt_lst h1, lstAt_lst h2, Option.bind_some]
  rw [if_pos (small_of (by simp; omega)), List.map_append]
noncomputable def n_let : FS := (fAsg (f2 semAdd (f2 semAdd (fComp [none] (fStrI (fVar 2)) (gN 0) none b_l_names_2e) (fComp [none] (fStrI (fVar 2)) (gN 0) none b_l_names_3e)) (fComp [none] (fStrI (fVar 2)) (gN 0) none b_l_names_4e)) (gN 3))
theorem n_let_ok (x0 x1 x3 : Option U) (L : UH) : ∃ (n : Nat) (L' : UH), n_let [x0, x1, some (.str abc), x3] L = some (.nx [x0, x1, some (.str abc), some (.ref n)], L') ∧ L'[n]? = some (.lst (spare1.map U.str)) ∧ L.length ≤ n ∧ Gw L L' := by
  obtain ⟨L1, e1, h1⟩ := let_comp b_l_names_2e one (fun c L => by simp [b_l_names_2e]) x0 x1 x3 L
  obtain ⟨K2, e2, h2⟩ := let_comp b_l_names_3e (fun c => one c ++ "b") (fun c L => by
    unfold b_l_names_3e
    rw [f2_eq]
    show semAdd (.str (one c)) (.str "b") L = _
    unfold semAdd
    simp only
    rw [if_pos (small_of (len_b c))]) x0 x1 x3 L1
  have k1 : K2[L.length]? = some (.lst ((letN.map one).map U.str)) := by rw [h2, h1]; simp
  have k2 : K2[L1.length]? = some (.lst ((letN.map fun c => one c ++ "b").map U.str)) := by rw [h2]; simp
  have c1 := cat_ok k1 k2 (by simp [letN_len])
  generalize hM : K2 ++ [HU.lst ((letN.map one ++ letN.map fun c => one c ++ "b").map U.str)] = M at c1
  obtain ⟨L3, e3, h3⟩ := let_comp b_l_names_4e (fun c => "zzzzzzz" ++ one c) (fun c L => by
    unfold b_l_names_4e
    rw [f2_eq]
    show semAdd (.str "zzzzzzz") (.str (one c)) L = _
    unfold semAdd
    simp only
    rw [if_pos (small_of (len_z c))]) x0 x1 x3 M
  have k3 : L3[K2.length]? = some (.lst ((letN.map one ++ letN.map fun c => one c ++ "b").map U.str)) := by rw [h3, ← hM]; simp
  have k4 : L3[M.length]? = some (.lst ((letN.map fun c => "zzzzzzz" ++ one c).map U.str)) := by rw [h3]; simp
  have c2 := cat_ok k3 k4 (by simp [letN_len])
  have g : Gw L L3 := ((Gw.trans ⟨_, h1⟩ ⟨_, h2⟩ : Gw L K2).trans ⟨_, hM.symm⟩).trans ⟨_, h3⟩
  refine ⟨L3.length, L3 ++ [.lst (spare1.map U.str)], ?_, by simp, g.le, g.trans (Gw.new _ _)⟩
  unfold n_let
  rw [fAsg_eq, f2_eq, f2_eq, e1, Option.bind_some, e2, Option.bind_some, c1, Option.bind_some, e3, Option.bind_some, c2]
  rfl
theorem strs10 (a b c d e f g h i j : Str) (δ : UE) (L : UH) : (fLst (fCons (fC (.str a)) (fCons (fC (.str b)) (fCons (fC (.str c)) (fCons (fC (.str d)) (fCons (fC (.str e)) (fCons (fC (.str f)) (fCons (fC (.str g)) (fCons (fC (.str h)) (fCons (fC (.str i)) (fCons (fC (.str j)) fNil))))))))))) δ L = some (.ref L.length, L ++ [.lst ([a, b, c, d, e, f, g, h, i, j].map U.str)]) := by
  have sm : ∀ a b c d e f g h i j : U, small [a, b, c, d, e, f, g, h, i, j].length = true := fun _ _ _ _ _ _ _ _ _ _ => small_of (by show 10 ≤ 16777216; decide)
  simp only [fLst_eq, fCons_eq, fC_eq, fNil_eq, Option.bind_some, Option.map_some]
  rw [if_pos (sm _ _ _ _ _ _ _ _ _ _)]
  rfl
theorem strs7 (a b c d e f g : Str) (δ : UE) (L : UH) : (fLst (fCons (fC (.str a)) (fCons (fC (.str b)) (fCons (fC (.str c)) (fCons (fC (.str d)) (fCons (fC (.str e)) (fCons (fC (.str f)) (fCons (fC (.str g)) fNil)))))))) δ L = some (.ref L.length, L ++ [.lst ([a, b, c, d, e, f, g].map U.str)]) := by
  have sm : ∀ a b c d e f g : U, small [a, b, c, d, e, f, g].length = true := fun _ _ _ _ _ _ _ => small_of (by show 7 ≤ 16777216; decide)
  simp only [fLst_eq, fCons_eq, fC_eq, fNil_eq, Option.bind_some, Option.map_some]
  rw [if_pos (sm _ _ _ _ _ _ _)]
  rfl
theorem lenA : wordsA.length = 10 := rfl
theorem lenB : wordsB.length = 7 := rfl
theorem s1_len : spare1.length = 78 := by decide +kernel
theorem s2_len : spare2.length = 88 := by decide +kernel
theorem names_ok {L : UH} {d many : Nat} {B : Int} (D : Seed L d B) (hB : B ≤ 100000000) (hm : many ≤ 95) :
    ∃ (n : Nat) (names : List Str) (L' : UH), m_l_names [.ref d, .int many] L = some (.ref n, L') ∧ L'[n]? = some (.lst (names.map U.str)) ∧ names.length = many ∧ names.Nodup ∧ (∀ x ∈ names, x ∈ spare3) ∧ Seed L' d (B + many) ∧ Ex d L L' ∧ L.length ≤ n := by
  have s1 : (fAsg (fC (.str "abcdefghijklmnopqrstuvwxyz")) (gN 2)) [some (.ref d), some (.int many), none, none] L = some (.nx [some (.ref d), some (.int many), some (.str abc), none], L) := rfl
  obtain ⟨n1, L1, e1, k1, hn1, g1⟩ := n_let_ok (some (.ref d)) (some (.int many)) none L
  have k1' : (L1 ++ [HU.lst (wordsA.map U.str)])[n1]? = some (.lst (spare1.map U.str)) := (Gw.new L1 _).get k1
  have c2 := cat_ok k1' (b := wordsA) (m := L1.length) (by simp) (by rw [s1_len, lenA]; decide)
  have s2 : (fAsg (f2 semAdd (fVar 3) (fLst (fCons (fC (.str "put")) (fCons (fC (.str "take")) (fCons (fC (.str "move")) (fCons (fC (.str "points")) (fCons (fC (.str "counts")) (fCons (fC (.str "pairs")) (fCons (fC (.str "halves")) (fCons (fC (.str "below")) (fCons (fC (.str "above")) (fCons (fC (.str "abcdefgh")) fNil)))))))))))) (gN 3)) [some (.ref d), some (.int many), some (.str abc), some (.ref n1)] L1 = some (.nx [some (.ref d), some (.int many), some (.str abc), some (.ref (L1 ++ [HU.lst (wordsA.map U.str)]).length)], L1 ++ [HU.lst (wordsA.map U.str)] ++ [.lst (spare2.map U.str)]) := by
    have v3 : fVar 3 [some (.ref d), some (.int many), some (.str abc), some (.ref n1)] L1 = some (.ref n1, L1) := rfl
    have sA := strs10 "put" "take" "move" "points" "counts" "pairs" "halves" "below" "above" "abcdefgh" [some (.ref d), some (.int many), some (.str abc), some (.ref n1)] L1
    rw [fAsg_eq, f2_eq, v3, Option.bind_some, sA, Option.bind_some]
    show (semAdd (.ref n1) (.ref L1.length) (L1 ++ [HU.lst (wordsA.map U.str)])).bind _ = _
    rw [c2]
    rfl
  generalize hK2 : L1 ++ [HU.lst (wordsA.map U.str)] = K1 at s2
  have k2 : (K1 ++ [HU.lst (spare2.map U.str)])[K1.length]? = some (.lst (spare2.map U.str)) := by simp
  have g2 : Gw L (K1 ++ [HU.lst (spare2.map U.str)]) := by rw [← hK2]; exact (g1.trans (Gw.new L1 _)).trans (Gw.new _ _)
  have gK : Gw L K1 := by rw [← hK2]; exact g1.trans (Gw.new L1 _)
  generalize hK3 : K1 ++ [HU.lst (spare2.map U.str)] = K2 at s2 k2 g2
  have k2' : (K2 ++ [HU.lst (wordsB.map U.str)])[K1.length]? = some (.lst (spare2.map U.str)) := (Gw.new K2 _).get k2
  have c3 := cat_ok k2' (b := wordsB) (m := K2.length) (by simp) (by rw [s2_len, lenB]; decide)
  have s3 : (fAsg (f2 semAdd (fVar 3) (fLst (fCons (fC (.str "mall")) (fCons (fC (.str "mill")) (fCons (fC (.str "mell")) (fCons (fC (.str "abcxefgh")) (fCons (fC (.str "millmal")) (fCons (fC (.str "mellmal")) (fCons (fC (.str "ba")) fNil))))))))) (gN 3)) [some (.ref d), some (.int many), some (.str abc), some (.ref K1.length)] K2 = some (.nx [some (.ref d), some (.int many), some (.str abc), some (.ref (K2 ++ [HU.lst (wordsB.map U.str)]).length)], K2 ++ [HU.lst (wordsB.map U.str)] ++ [.lst (spare3.map U.str)]) := by
    have v3 : fVar 3 [some (.ref d), some (.int many), some (.str abc), some (.ref K1.length)] K2 = some (.ref K1.length, K2) := rfl
    have sB := strs7 "mall" "mill" "mell" "abcxefgh" "millmal" "mellmal" "ba" [some (.ref d), some (.int many), some (.str abc), some (.ref K1.length)] K2
    rw [fAsg_eq, f2_eq, v3, Option.bind_some, sB, Option.bind_some]
    show (semAdd (.ref K1.length) (.ref K2.length) (K2 ++ [HU.lst (wordsB.map U.str)])).bind _ = _
    rw [c3]
    rfl
  generalize hK4 : K2 ++ [HU.lst (wordsB.map U.str)] = K3 at s3
  have g3 : Gw L (K3 ++ [HU.lst (spare3.map U.str)]) := by rw [← hK4]; exact (g2.trans (Gw.new K2 _)).trans (Gw.new _ _)
  have gK3 : Gw L K3 := by rw [← hK4]; exact g2.trans (Gw.new K2 _)
  have k4 : (K3 ++ [HU.lst (spare3.map U.str)])[K3.length]? = some (.lst (spare3.map U.str)) := by simp
  have D4 := D.gw g3
  have x4 := g3.ex d
  have dl := D.lt
  have le3 := gK3.le
  generalize K3 ++ [HU.lst (spare3.map U.str)] = M at s3 k4 D4 x4
  generalize K3.length = sp at s3 k4 le3
  have hi : fRng1 (fCons (fVar 1) fNil) [some (.ref d), some (.int many), some (.str abc), some (.ref sp)] M = some (.seq (rangeU 0 many), M) := rng1_nat rfl (by omega)
  obtain ⟨ys, δ', M', e, ⟨z, hδ⟩, vs, rest, hvs, hlv, hlr, hp, hat, DM, xM⟩ := fcomp (ix := [none, some 3, some 0]) (it := .seq (rangeU 0 many)) (g := gN 0) (tt := none) (fe := b_l_names_1e) (us := rangeU 0 many) (δ := [some (.ref d), some (.int many), some (.str abc), some (.ref sp)]) (L := M) (L0 := M)
      (fun k acc δ' M => (∃ z, δ' = [z, some (.ref sp), some (.ref d)]) ∧ ∃ (vs rest : List Str), acc = vs.map U.str ∧ vs.length = k ∧ rest.length + k = 95 ∧ (vs ++ rest).Perm spare3 ∧ M[sp]? = some (.lst (rest.map U.str)) ∧ Seed M d (B + k) ∧ Ex d L M)
      hi (by simp [IU.size]) ⟨⟨none, rfl⟩, [], spare3, rfl, rfl, by rw [spare3_len], by simp, k4, by simpa using D4, x4⟩
      (fun k acc δ L _ _ => rfl)
      (fun k u acc δ M hu ⟨⟨z, hδ⟩, vs, rest, hvs, hlv, hlr, hp, hat, DM, xM⟩ => by
        subst hδ
        obtain ⟨hk, rfl⟩ := rangeU_get hu
        obtain ⟨r, M', l', e, D', hat', hl', hx', hperm⟩ := pop_turnS U.str DM (by omega) (by omega) hat (by omega) (by omega) (some (.int (0 + (k : Int))))
        have ha : acc.length < 16777216 := by rw [hvs, List.length_map, hlv]; omega
        refine ⟨[some (.int (0 + k)), some (.ref sp), some (.ref d)], M, rfl, true, M, rfl, fun _ => ⟨.str r, M', ?_, ha, ⟨_, rfl⟩, vs ++ [r], l', by simp [hvs], by simp [hlv], by omega, ?_, hat', ?_, hx' L xM le3⟩, fun h => by cases h⟩
        · unfold b_l_names_1e; exact e
        · refine List.Perm.trans ?_ hp
          rw [List.append_assoc]
          exact List.Perm.append_left vs hperm
        · have : B + ((k + 1 : Nat) : Int) = B + (k : Int) + 1 := by omega
          rw [this]; exact D')
  rw [rangeU_len] at hlv DM
  have hnd : (vs ++ rest).Nodup := hp.nodup_iff.mpr spare3_nodup
  rw [List.nodup_append] at hnd
  refine ⟨M'.length, vs, M' ++ [.lst ys], ?_, by rw [hvs]; simp, hlv, hnd.1, fun x hx => hp.mem_iff.mp (List.mem_append_left _ hx), DM.new _, xM.trans (Ex.new d _ _), xM.le⟩
  have sp : b_l_names = fSeq (fAsg (fC (.str "abcdefghijklmnopqrstuvwxyz")) (gN 2)) (fSeq n_let (fSeq (fAsg (f2 semAdd (fVar 3) (fLst (fCons (fC (.str "put")) (fCons (fC (.str "take")) (fCons (fC (.str "move")) (fCons (fC (.str "points")) (fCons (fC (.str "counts")) (fCons (fC (.str "pairs")) (fCons (fC (.str "halves")) (fCons (fC (.str "below")) (fCons (fC (.str "above")) (fCons (fC (.str "abcdefgh")) fNil)))))))))))) (gN 3)) (fSeq (fAsg (f2 semAdd (fVar 3) (fLst (fCons (fC (.str "mall")) (fCons (fC (.str "mill")) (fCons (fC (.str "mell")) (fCons (fC (.str "abcxefgh")) (fCons (fC (.str "millmal")) (fCons (fC (.str "mellmal")) (fCons (fC (.str "ba")) fNil))))))))) (gN 3)) (fRet (fComp [none, some 3, some 0] (fRng1 (fCons (fVar 1) fNil)) (gN 0) none b_l_names_1e))))) := rfl
  unfold m_l_names fnU
  simp only [List.length_cons, List.length_nil, if_true, List.map_cons, List.map_nil, List.replicate, List.cons_append, List.nil_append]
  rw [sp, fSeq_nx s1, fSeq_nx e1, fSeq_nx s2, fSeq_nx s3, fRet_eq, e]
  rfl
end Lw
set_option Elab.async false
set_option linter.all false
set_option maxRecDepth 100000
set_option maxHeartbeats 1000000
namespace Lw
open PySem L2 MR
noncomputable def ptU (p : Str × (Int × Int)) : U := .tup [.str p.1, .int p.2.1, .int p.2.2]
theorem spare_ok : ∀ x ∈ spare3, PyData.strOk x = true := List.all_eq_true.mp (show (spare3.all fun x => PyData.strOk x) = true by decide +kernel)
theorem pl_pt {p : Str × (Int × Int)} (h : PyData.strOk p.1 = true) : Pl 6 (ptU p) := by
  unfold ptU
  rw [pl_tup]
  intro u hu
  simp only [List.mem_cons, List.not_mem_nil, or_false] at hu
  rcases hu with rfl | rfl | rfl
  · show Pl 5 (.str p.1)
    simpa [Pl] using h
  · exact Pl.int _ _
  · exact Pl.int _ _
theorem ne_nil_ok {L : UH} {ℓ m : Nat} {ps : List (Str × (Int × Int))} (hok : ∀ p ∈ ps, PyData.strOk p.1 = true) (h1 : L[ℓ]? = some (.lst (ps.map ptU))) (h2 : L[m]? = some (.lst [])) : semNe (.ref ℓ) (.ref m) L = some (.bl (!ps.isEmpty), L) := by
  rw [semNe_lst (seqAt_lst h1) (seqAt_lst h2) (fun u hu => by obtain ⟨p, hp, rfl⟩ := List.mem_map.mp hu; exact pl_pt (hok p hp)) (fun u hu => by cases hu)]
  congr 1
  cases ps with
  | nil => rfl
  | cons p ps =>
    have : eqBs ((p :: ps).map ptU) [] = false := by
      cases h : eqBs ((p :: ps).map ptU) [] with
      | false => rfl
      | true =>
        have := (eqBs_iff (fun u hu => by obtain ⟨p, hp, rfl⟩ := List.mem_map.mp hu; exact pl_pt (hok p hp)) (fun u hu => by cases hu)).mp h
        cases this
    rw [this]; rfl
noncomputable def Pw (q : Int × Int) : Prop := (-9999999999 ≤ q.1 ∧ q.1 ≤ 9999999999) ∧ (-9999999999 ≤ q.2 ∧ q.2 ≤ 9999999999)
structure Pf (L0 L : UH) (d n ℓ : Nat) (B : Int) (names : List Str) (ps : List (Str × (Int × Int))) : Prop where
  sd : Seed L d B
  nm : L[n]? = some (.lst (names.map U.str))
  at_ : L[ℓ]? = some (.lst (ps.map ptU))
  ge : L0.length ≤ ℓ
  nd : n ≠ d
  ld : ℓ ≠ d
  nl : n ≠ ℓ
  ex : Ex d L0 L
  nok : ∀ x ∈ names, PyData.strOk x = true
  pok : ∀ p ∈ ps, PyData.strOk p.1 = true
  pb : ∀ p ∈ ps, Pw p.2
theorem Pf.step {L0 L L' : UH} {d n ℓ : Nat} {B B' : Int} {names : List Str} {ps : List (Str × (Int × Int))} (S : Pf L0 L d n ℓ B names ps) (D : Seed L' d B') (x : Ex d L L') : Pf L0 L' d n ℓ B' names ps := ⟨D, x.get S.nm S.nd, x.get S.at_ S.ld, S.ge, S.nd, S.ld, S.nl, S.ex.trans x, S.nok, S.pok, S.pb⟩
noncomputable def p_alike : FS := (fIfS (fAnd (fTest (f2 semNe (fVar 4) (fLst fNil))) (fTest (f2 semLt (fVar 8) (fC (.int 2))))) (fSeq (fAsg (f2 semIx (fVar 4) (fOwn 2 m_l_draw (fCons (fVar 0) (fCons (fCall semLen (fCons (fVar 4) fNil)) fNil)))) (gN 9)) (fSeq (fAsg (f2 semIx (fVar 9) (fC (.int 1))) (gN 6)) (fAsg (f2 semIx (fLst (fCons (fVar 7) (fCons (f2 semIx (fVar 9) (fC (.int 2))) fNil))) (fVar 8)) (gN 7)))) fNext)
theorem p_alike_ok {L0 L : UH} {d n ℓ : Nat} {B x y w : Int} {names : List Str} {ps : List (Str × (Int × Int))} (S : Pf L0 L d n ℓ B names ps) (hxy : Pw (x, y)) (hB : B ≤ 1000000000) (hw : 0 ≤ w) (hl : ps.length ≤ 1000) (x1 x2 x3 x5 x9 : Option U) :
    ∃ (x' y' : Int) (y9 : Option U) (L' : UH), p_alike [some (.ref d), x1, x2, x3, some (.ref ℓ), x5, some (.int x), some (.int y), some (.int w), x9] L = some (.nx [some (.ref d), x1, x2, x3, some (.ref ℓ), x5, some (.int x'), some (.int y'), some (.int w), y9], L') ∧ Pf L0 L' d n ℓ (B + 1) names ps ∧ Pw (x', y') := by
  have dl := S.sd.lt
  have sm0 : small ([] : List U).length = true := small_of (by show 0 ≤ 16777216; decide)
  have S1 := S.step (S.sd.new [HU.lst []]) (Ex.new d L [HU.lst []])
  have hne := ne_nil_ok S1.pok S1.at_ (m := L.length) (by simp)
  have tt : (fAnd (fTest (f2 semNe (fVar 4) (fLst fNil))) (fTest (f2 semLt (fVar 8) (fC (.int 2))))) [some (.ref d), x1, x2, x3, some (.ref ℓ), x5, some (.int x), some (.int y), some (.int w), x9] L = some (!ps.isEmpty && decide (w < 2), L ++ [HU.lst []]) := by
    have t1 : (fTest (f2 semNe (fVar 4) (fLst fNil))) [some (.ref d), x1, x2, x3, some (.ref ℓ), x5, some (.int x), some (.int y), some (.int w), x9] L = some (!ps.isEmpty, L ++ [HU.lst []]) := by
      have v4 : fVar 4 [some (.ref d), x1, x2, x3, some (.ref ℓ), x5, some (.int x), some (.int y), some (.int w), x9] L = some (.ref ℓ, L) := rfl
      rw [fTest_eq, f2_eq, v4, Option.bind_some, fLst_eq, fNil_eq, Option.bind_some, if_pos sm0, Option.bind_some, hne]
      rfl
    rw [fAnd_eq, t1]
    cases (!ps.isEmpty) <;> simp only [Option.bind_some, Bool.true_and, Bool.false_and, if_true, Bool.false_eq_true, if_false, fTest_eq, f2_eq, fVar_eq, fC_eq, List.getElem?_cons_succ, List.getElem?_cons_zero, Option.join_some, Option.map_some, semLt_int]
  unfold p_alike
  rw [fIfS_eq, tt]
  cases hb : (!ps.isEmpty && decide (w < 2)) with
  | false => exact ⟨x, y, x9, _, rfl, ⟨S1.sd.mono (by omega), S1.nm, S1.at_, S1.ge, S1.nd, S1.ld, S1.nl, S1.ex, S1.nok, S1.pok, S1.pb⟩, hxy⟩
  | true =>
    rw [Bool.and_eq_true] at hb
    have hw2 : w < 2 := of_decide_eq_true hb.2
    have hpos : 0 < ps.length := by
      cases ps with
      | nil => cases hb.1
      | cons => simp
    have hlen := len_lst S1.at_
    rw [List.length_map] at hlen
    obtain ⟨i, K2, e2, a2, b2, D2, y2⟩ := draw_ok (many := (ps.length : Nat)) S1.sd (by omega) (by omega) (by omega)
    have S2 := S1.step D2 y2
    obtain ⟨k, hk⟩ : ∃ k : Nat, i = (k : Int) := ⟨i.toNat, by omega⟩
    subst hk
    have hk : k < ps.length := by omega
    have hat : L2.atI (ps.map ptU) (k : Int) = some (ptU (ps[k]'hk)) := by
      rw [atI_of (by omega) (by simp; omega), List.getElem?_map, Int.toNat_natCast, List.getElem?_eq_getElem hk]; rfl
    have ho : Pw (ps[k]'hk).2 := S.pb _ (List.getElem_mem hk)
    generalize ps[k]'hk = o at hat ho
    have s1 : (fAsg (f2 semIx (fVar 4) (fOwn 2 m_l_draw (fCons (fVar 0) (fCons (fCall semLen (fCons (fVar 4) fNil)) fNil)))) (gN 9)) [some (.ref d), x1, x2, x3, some (.ref ℓ), x5, some (.int x), some (.int y), some (.int w), x9] (L ++ [HU.lst []]) = some (.nx [some (.ref d), x1, x2, x3, some (.ref ℓ), x5, some (.int x), some (.int y), some (.int w), some (ptU o)], K2) := by
      simp only [fAsg_eq, f2_eq, fOwn_eq, fCall_eq, fCons_eq, fNil_eq, fVar_eq, List.getElem?_cons_succ, List.getElem?_cons_zero, Option.join_some, Option.map_some, Option.bind_some, hlen, List.length_cons, List.length_nil, if_true, e2, semIx_ref, seqAt_lst S2.at_, hat, gN_eq, List.set_cons_succ, List.set_cons_zero]
    have p1 : L2.atI [U.str o.1, .int o.2.1, .int o.2.2] 1 = some (.int o.2.1) := rfl
    have p2 : L2.atI [U.str o.1, .int o.2.1, .int o.2.2] 2 = some (.int o.2.2) := rfl
    have s2 : (fAsg (f2 semIx (fVar 9) (fC (.int 1))) (gN 6)) [some (.ref d), x1, x2, x3, some (.ref ℓ), x5, some (.int x), some (.int y), some (.int w), some (ptU o)] K2 = some (.nx [some (.ref d), x1, x2, x3, some (.ref ℓ), x5, some (.int o.2.1), some (.int y), some (.int w), some (ptU o)], K2) := by
      unfold ptU
      simp only [fAsg_eq, f2_eq, fVar_eq, fC_eq, List.getElem?_cons_succ, List.getElem?_cons_zero, Option.join_some, Option.map_some, Option.bind_some, semIx_tup, p1, gN_eq, List.set_cons_succ, List.set_cons_zero]
    have sm2 : ∀ x y : U, small [x, y].length = true := fun _ _ => small_of (by show 2 ≤ 16777216; decide)
    have hv : ∃ v, L2.atI [U.int y, .int o.2.2] w = some (.int v) ∧ -9999999999 ≤ v ∧ v ≤ 9999999999 := by
      have : w = 0 ∨ w = 1 := by omega
      rcases this with rfl | rfl
      · exact ⟨_, rfl, hxy.2⟩
      · exact ⟨_, rfl, ho.2⟩
    obtain ⟨v, hv, hvb⟩ := hv
    have q5 : seqAt (K2 ++ [HU.lst [.int y, .int o.2.2]]) K2.length = some [.int y, .int o.2.2] := seqAt_lst (by simp)
    have s3 : (fAsg (f2 semIx (fLst (fCons (fVar 7) (fCons (f2 semIx (fVar 9) (fC (.int 2))) fNil))) (fVar 8)) (gN 7)) [some (.ref d), x1, x2, x3, some (.ref ℓ), x5, some (.int o.2.1), some (.int y), some (.int w), some (ptU o)] K2 = some (.nx [some (.ref d), x1, x2, x3, some (.ref ℓ), x5, some (.int o.2.1), some (.int v), some (.int w), some (ptU o)], K2 ++ [HU.lst [.int y, .int o.2.2]]) := by
      have hl : (fLst (fCons (fVar 7) (fCons (f2 semIx (fVar 9) (fC (.int 2))) fNil))) [some (.ref d), x1, x2, x3, some (.ref ℓ), x5, some (.int o.2.1), some (.int y), some (.int w), some (ptU o)] K2 = some (.ref K2.length, K2 ++ [HU.lst [.int y, .int o.2.2]]) := by
        unfold ptU
        simp only [fLst_eq, fCons_eq, fNil_eq, f2_eq, fVar_eq, fC_eq, List.getElem?_cons_succ, List.getElem?_cons_zero, Option.join_some, Option.map_some, Option.bind_some, semIx_tup, p2]
        rw [if_pos (sm2 _ _)]
      rw [fAsg_eq, f2_eq, hl]
      simp only [Option.bind_some, fVar_eq, List.getElem?_cons_succ, List.getElem?_cons_zero, Option.join_some, Option.map_some, semIx_ref, q5, hv, gN_eq, List.set_cons_succ, List.set_cons_zero]
    have S3 := S2.step (D2.new [HU.lst [.int y, .int o.2.2]]) (Ex.new d K2 _)
    refine ⟨o.2.1, v, some (ptU o), K2 ++ [HU.lst [.int y, .int o.2.2]], ?_, S3, ho.1, hvb⟩
    rw [Option.bind_some, if_pos rfl, fSeq_nx s1, fSeq_nx s2]
    exact s3
theorem turn_pt {L0 L : UH} {d n ℓ : Nat} {B way : Int} {nm : Str} {names : List Str} {ps : List (Str × (Int × Int))} (S : Pf L0 L d n ℓ B names ps) (hB : B ≤ 1000000) (hw : way = 0 ∨ way = 1 ∨ way = 2) (hl : ps.length ≤ 1000) (hnm : nm ∈ names) (x1 x2 x6 x7 x8 x9 : Option U) :
    ∃ (q : Int × Int) (y6 y7 y8 y9 : Option U) (L' : UH), b_l_points_1 [some (.ref d), x1, x2, some (.int way), some (.ref ℓ), some (.str nm), x6, x7, x8, x9] L = some (.nx [some (.ref d), x1, x2, some (.int way), some (.ref ℓ), some (.str nm), y6, y7, y8, y9], L') ∧ Pf L0 L' d n ℓ (B + 10) names (ps ++ [(nm, q)]) := by
  obtain ⟨x, L1, e1, xa, xb, D1, y1⟩ := number2_ok (way := way) S.sd (by omega) hw
  have S1 := S.step D1 y1
  have s1 : (fAsg (fOwn 2 m_l_number (fCons (fVar 0) (fCons (fVar 3) fNil))) (gN 6)) [some (.ref d), x1, x2, some (.int way), some (.ref ℓ), some (.str nm), x6, x7, x8, x9] L = some (.nx [some (.ref d), x1, x2, some (.int way), some (.ref ℓ), some (.str nm), some (.int x), x7, x8, x9], L1) := by
    simp only [fAsg_eq, fOwn_eq, fCons_eq, fNil_eq, fVar_eq, List.getElem?_cons_succ, List.getElem?_cons_zero, Option.join_some, Option.map_some, Option.bind_some, List.length_cons, List.length_nil, if_true, e1, gN_eq, List.set_cons_succ, List.set_cons_zero]
  obtain ⟨y, K2, e2, ya, yb, D2, y2⟩ := number2_ok (way := way) D1 (by omega) hw
  have S2 := S1.step D2 y2
  have s2 : (fAsg (fOwn 2 m_l_number (fCons (fVar 0) (fCons (fVar 3) fNil))) (gN 7)) [some (.ref d), x1, x2, some (.int way), some (.ref ℓ), some (.str nm), some (.int x), x7, x8, x9] L1 = some (.nx [some (.ref d), x1, x2, some (.int way), some (.ref ℓ), some (.str nm), some (.int x), some (.int y), x8, x9], K2) := by
    simp only [fAsg_eq, fOwn_eq, fCons_eq, fNil_eq, fVar_eq, List.getElem?_cons_succ, List.getElem?_cons_zero, Option.join_some, Option.map_some, Option.bind_some, List.length_cons, List.length_nil, if_true, e2, gN_eq, List.set_cons_succ, List.set_cons_zero]
  obtain ⟨w, L3, e3, a3, b3, D3, y3⟩ := draw_ok (many := 6) D2 (by omega) (by decide) (by decide)
  have S3 := S2.step D3 y3
  have s3 : (fAsg (fOwn 2 m_l_draw (fCons (fVar 0) (fCons (fC (.int 6)) fNil))) (gN 8)) [some (.ref d), x1, x2, some (.int way), some (.ref ℓ), some (.str nm), some (.int x), some (.int y), x8, x9] K2 = some (.nx [some (.ref d), x1, x2, some (.int way), some (.ref ℓ), some (.str nm), some (.int x), some (.int y), some (.int w), x9], L3) := by
    simp only [fAsg_eq, fOwn_eq, fCons_eq, fNil_eq, fVar_eq, fC_eq, List.getElem?_cons_succ, List.getElem?_cons_zero, Option.join_some, Option.map_some, Option.bind_some, List.length_cons, List.length_nil, if_true, e3, gN_eq, List.set_cons_succ, List.set_cons_zero]
  obtain ⟨x', y', z9, L4, e4, S4, hw'⟩ := p_alike_ok (x := x) (y := y) S3 ⟨⟨xa, xb⟩, ya, yb⟩ (by omega) a3 hl x1 x2 (some (.int way)) (some (.str nm)) x9
  have ap := append_ok (ptU (nm, (x', y'))) S4.at_ (by simp; omega)
  have hx : ps.map ptU ++ [ptU (nm, (x', y'))] = (ps ++ [(nm, (x', y'))]).map ptU := by simp
  rw [hx] at ap
  have ty := tyU_lst S4.at_
  have sm3 : ∀ x y z : U, small [x, y, z].length = true := fun _ _ _ => small_of (by show 3 ≤ 16777216; decide)
  have s5 : (fDrop (fMeth "list" semAppend (fVar 4) (fCons (fTup (fCons (fVar 5) (fCons (fVar 6) (fCons (fVar 7) fNil)))) fNil))) [some (.ref d), x1, x2, some (.int way), some (.ref ℓ), some (.str nm), some (.int x'), some (.int y'), some (.int w), z9] L4 = some (.nx [some (.ref d), x1, x2, some (.int way), some (.ref ℓ), some (.str nm), some (.int x'), some (.int y'), some (.int w), z9], L4.set ℓ (.lst ((ps ++ [(nm, (x', y'))]).map ptU))) := by
    have ht : (fTup (fCons (fVar 5) (fCons (fVar 6) (fCons (fVar 7) fNil)))) [some (.ref d), x1, x2, some (.int way), some (.ref ℓ), some (.str nm), some (.int x'), some (.int y'), some (.int w), z9] L4 = some (ptU (nm, (x', y')), L4) := by
      simp only [fTup_eq, fCons_eq, fNil_eq, fVar_eq, List.getElem?_cons_succ, List.getElem?_cons_zero, Option.join_some, Option.map_some, Option.bind_some]
      rw [if_pos (sm3 _ _ _)]; rfl
    rw [fDrop_eq, fMeth_eq]
    simp only [fVar_eq, List.getElem?_cons_succ, List.getElem?_cons_zero, Option.join_some, Option.map_some, Option.bind_some, ty, if_true]
    rw [fCons_eq, ht]
    simp only [Option.bind_some, fNil_eq, Option.map_some, ap]
  refine ⟨(x', y'), some (.int x'), some (.int y'), some (.int w), z9, _, ?_, ⟨(S4.sd.set S4.ld _).mono (by omega), by rw [List.getElem?_set_ne (Ne.symm S4.nl)]; exact S4.nm, List.getElem?_set_self (List.getElem?_eq_some_iff.mp S4.at_).1, S4.ge, S4.nd, S4.ld, S4.nl, S4.ex.set S4.ge _, S4.nok, fun p hp => ?_, fun p hp => ?_⟩⟩
  rotate_left
  · rcases List.mem_append.mp hp with q | q
    · exact S4.pok p q
    · have : p = (nm, (x', y')) := by simpa using q
      rw [this]; exact S4.nok nm hnm
  · rcases List.mem_append.mp hp with q | q
    · exact S4.pb p q
    · have : p = (nm, (x', y')) := by simpa using q
      rw [this]; exact hw'
  have sp : b_l_points_1 = fSeq (fAsg (fOwn 2 m_l_number (fCons (fVar 0) (fCons (fVar 3) fNil))) (gN 6)) (fSeq (fAsg (fOwn 2 m_l_number (fCons (fVar 0) (fCons (fVar 3) fNil))) (gN 7)) (fSeq (fAsg (fOwn 2 m_l_draw (fCons (fVar 0) (fCons (fC (.int 6)) fNil))) (gN 8)) (fSeq p_alike (fDrop (fMeth "list" semAppend (fVar 4) (fCons (fTup (fCons (fVar 5) (fCons (fVar 6) (fCons (fVar 7) fNil)))) fNil)))))) := rfl
  rw [sp, fSeq_nx s1, fSeq_nx s2, fSeq_nx s3, fSeq_nx e4]
  exact s5
theorem points_ok {L : UH} {d most : Nat} {B : Int} (D : Seed L d B) (hB : B ≤ 100000) (hm : most ≤ 60) :
    ∃ (ps : List (Str × (Int × Int))) (L' : UH), m_l_points [.ref d, .int most] L = some (.tup (ps.map ptU), L') ∧ ps.length ≤ 60 ∧ (ps.map (·.1)).Nodup ∧ (∀ p ∈ ps, p.1 ∈ spare3) ∧ (∀ p ∈ ps, Pw p.2) ∧ Seed L' d (B + 700) ∧ Ex d L L' := by
  obtain ⟨i1, L1, e1, a1, b1, D1, y1⟩ := draw_ok (many := 6) D (by omega) (by decide) (by decide)
  obtain ⟨i2, K2, e2, a2, b2, D2, y2⟩ := draw_ok (many := (most : Int) + 1) D1 (by omega) (by omega) (by omega)
  obtain ⟨i3, L3, e3, a3, b3, D3, y3⟩ := draw_ok (many := 3) (D2.new [HU.lst [.int i1, .int i2, .int most]]) (by omega) (by decide) (by decide)
  have hdl := D2.lt
  have q5 : seqAt L3 K2.length = some [.int i1, .int i2, .int most] := seqAt_lst (y3.get (i := K2.length) (by simp) (by omega))
  have hp : ∃ n : Nat, L2.atI [U.int i1, .int i2, .int most] i3 = some (.int n) ∧ n ≤ 60 := by
    have : i3 = 0 ∨ i3 = 1 ∨ i3 = 2 := by omega
    rcases this with rfl | rfl | rfl
    · refine ⟨i1.toNat, ?_, by omega⟩
      rw [Int.toNat_of_nonneg (by omega)]; rfl
    · refine ⟨i2.toNat, ?_, by omega⟩
      rw [Int.toNat_of_nonneg (by omega)]; rfl
    · exact ⟨most, rfl, hm⟩
  obtain ⟨many, hp, hmany⟩ := hp
  have s1 : (fAsg (f2 semIx (fLst (fCons (fOwn 2 m_l_draw (fCons (fVar 0) (fCons (fC (.int 6)) fNil))) (fCons (fOwn 2 m_l_draw (fCons (fVar 0) (fCons (f2 semAdd (fVar 1) (fC (.int 1))) fNil))) (fCons (fVar 1) fNil)))) (fOwn 2 m_l_draw (fCons (fVar 0) (fCons (fC (.int 3)) fNil)))) (gN 2)) [some (.ref d), some (.int most), none, none, none, none, none, none, none, none] L = some (.nx [some (.ref d), some (.int most), some (.int many), none, none, none, none, none, none, none], L3) := by
    simp [e1, e2, small_of, e3, q5, hp]
  obtain ⟨way, L4, e4, a4, b4, D4, y4⟩ := draw_ok (many := 3) D3 (by omega) (by decide) (by decide)
  have s2 : (fAsg (fOwn 2 m_l_draw (fCons (fVar 0) (fCons (fC (.int 3)) fNil))) (gN 3)) [some (.ref d), some (.int most), some (.int many), none, none, none, none, none, none, none] L3 = some (.nx [some (.ref d), some (.int most), some (.int many), some (.int way), none, none, none, none, none, none], L4) := by
    simp only [fAsg_eq, fOwn_eq, fCons_eq, fNil_eq, fVar_eq, fC_eq, List.getElem?_cons_succ, List.getElem?_cons_zero, Option.join_some, Option.map_some, Option.bind_some, List.length_cons, List.length_nil, if_true, e4, gN_eq, List.set_cons_succ, List.set_cons_zero]
  have sm0 : small ([] : List U).length = true := small_of (by show 0 ≤ 16777216; decide)
  have s3 : (fAsg (fLst fNil) (gN 4)) [some (.ref d), some (.int most), some (.int many), some (.int way), none, none, none, none, none, none] L4 = some (.nx [some (.ref d), some (.int most), some (.int many), some (.int way), some (.ref L4.length), none, none, none, none, none], L4 ++ [.lst []]) := by
    rw [fAsg_eq, fLst_eq, fNil_eq, Option.bind_some, if_pos sm0]; rfl
  obtain ⟨n, names, L5, e5, k5, hl5, hnd, hsp, D5, y5, hn5⟩ := names_ok (many := many) (D4.new [HU.lst []]) (by omega) (by omega)
  have d4 := D4.lt
  have hlen4 : (L4 ++ [HU.lst []]).length = L4.length + 1 := by simp
  have x4 := (((y1.trans y2).trans (Ex.new d _ _)).trans y3).trans y4
  have S5 : Pf L L5 d n L4.length (B + 65) names [] := ⟨D5.mono (by omega), k5, y5.get (i := L4.length) (by simp) (by omega), x4.le, by omega, by omega, by omega, (x4.trans (Ex.new d _ _)).trans y5, fun x hx => spare_ok x (hsp x hx), fun p hp => (by cases hp), fun p hp => (by cases hp)⟩
  have hseq := seqAt_lst k5
  have hi : (fSeqI (fOwn 2 m_l_names (fCons (fVar 0) (fCons (fVar 2) fNil)))) [some (.ref d), some (.int most), some (.int many), some (.int way), some (.ref L4.length), none, none, none, none, none] (L4 ++ [.lst []]) = some (.ref n, L5) := by
    have hf : (fOwn 2 m_l_names (fCons (fVar 0) (fCons (fVar 2) fNil))) [some (.ref d), some (.int most), some (.int many), some (.int way), some (.ref L4.length), none, none, none, none, none] (L4 ++ [.lst []]) = some (.ref n, L5) := by
      simp only [fOwn_eq, fCons_eq, fNil_eq, fVar_eq, List.getElem?_cons_succ, List.getElem?_cons_zero, Option.join_some, Option.map_some, Option.bind_some, List.length_cons, List.length_nil, if_true, e5]
    rw [fSeqI_eq, hf, Option.bind_some, iSeqU_ref hseq]; rfl
  obtain ⟨δ6, L6, e6, P⟩ := for_ref (us := names.map U.str) (n := n) (body := b_l_points_1) (g := gN 5) (fun k δ' L' => ∃ (y5 y6 y7 y8 y9 : Option U) (ps : List (Str × (Int × Int))), δ' = [some (.ref d), some (.int most), some (.int many), some (.int way), some (.ref L4.length), y5, y6, y7, y8, y9] ∧ Pf L L' d n L4.length (B + 65 + 10 * k) names ps ∧ ps.map (·.1) = names.take k ∧ k ≤ names.length) hi ⟨none, none, none, none, none, [], rfl, by simpa using S5, by simp, by omega⟩
    (fun k δ L ⟨_, _, _, _, _, _, _, S, _⟩ => seqAt_lst S.nm)
    (fun k u δ M hu ⟨z5, z6, z7, z8, z9, ps, hδ, S, hps, hk⟩ => by
      subst hδ
      rw [List.getElem?_map] at hu
      obtain ⟨nm, hnm, rfl⟩ := Option.map_eq_some_iff.mp hu
      have hk' : k < names.length := (List.getElem?_eq_some_iff.mp hnm).1
      have hpl : ps.length = k := by
        have := congrArg List.length hps
        rw [List.length_map, List.length_take] at this
        omega
      obtain ⟨q, w6, w7, w8, w9, M', e, S'⟩ := turn_pt (nm := nm) S (by omega) (by omega : way = 0 ∨ way = 1 ∨ way = 2) (by omega) (List.mem_of_getElem? hnm) (some (.int most)) (some (.int many)) z6 z7 z8 z9
      refine ⟨[some (.ref d), some (.int most), some (.int many), some (.int way), some (.ref L4.length), some (.str nm), z6, z7, z8, z9], M, rfl, _, M', .inl e, _, _, _, _, _, ps ++ [(nm, q)], rfl, ?_, ?_, hk'⟩
      · have : B + 65 + 10 * ((k + 1 : Nat) : Int) = B + 65 + 10 * (k : Int) + 10 := by omega
        rw [this]; exact S'
      · rw [List.map_append, hps, List.take_add_one, hnm]; rfl)
  obtain ⟨z5, z6, z7, z8, z9, ps, hδ, S6, hps, _⟩ := P
  rw [List.length_map] at hps S6
  rw [List.take_length] at hps
  rw [hδ] at e6
  have hpl : ps.length = many := by
    have := congrArg List.length hps
    rw [List.length_map, hl5] at this
    exact this
  refine ⟨ps, L6, ?_, by omega, by rw [hps]; exact hnd, fun p hp => hsp p.1 (by rw [← hps]; exact List.mem_map_of_mem hp), S6.pb, S6.sd.mono (by omega), S6.ex⟩
  unfold m_l_points fnU b_l_points
  simp only [List.length_cons, List.length_nil, if_true, List.map_cons, List.map_nil, List.replicate, List.cons_append, List.nil_append]
  rw [fSeq_nx s1, fSeq_nx s2, fSeq_nx s3, fSeq_nx e6]
  simp only [fRet_eq, fCall_eq, fCons_eq, fNil_eq, fVar_eq, List.getElem?_cons_succ, List.getElem?_cons_zero, Option.join_some, Option.map_some, Option.bind_some, semTuple, seqAt_lst S6.at_]
end Lw
set_option Elab.async false
set_option linter.all false
set_option maxRecDepth 100000
set_option maxHeartbeats 1000000
namespace Lw
open PySem L2 MR
theorem pl_ptn (n : Nat) {p : Str × (Int × Int)} (h : PyData.strOk p.1 = true) : Pl (n + 1) (ptU p) := by
  unfold ptU
  rw [pl_tup]
  intro u hu
  simp only [List.mem_cons, List.not_mem_nil, or_false] at hu
  rcases hu with rfl | rfl | rfl
  · show Pl n (.str p.1)
    cases n <;> simpa [Pl] using h
  · exact Pl.int _ _
  · exact Pl.int _ _
theorem pl_pts {ps : List (Str × (Int × Int))} (h : ∀ p ∈ ps, PyData.strOk p.1 = true) : Pl 6 (.tup (ps.map ptU)) := by
  rw [pl_tup]
  intro u hu
  obtain ⟨p, hp, rfl⟩ := List.mem_map.mp hu
  exact pl_ptn 4 (h p hp)
theorem pl_ints (xs : List Int) : Pl 6 (.tup (xs.map U.int)) := by
  rw [pl_tup]
  intro u hu
  obtain ⟨a, _, rfl⟩ := List.mem_map.mp hu
  exact Pl.int _ _
theorem pl_nil : Pl 6 (.tup []) := by rw [pl_tup]; intro u hu; cases hu
theorem eqB_nil {us : List U} (h : Pl 6 (.tup us)) : eqB (.tup us) (.tup []) = us.isEmpty := by
  cases us with
  | nil => exact eqB_self pl_nil
  | cons a r =>
    cases hb : eqB (.tup (a :: r)) (.tup []) with
    | false => rfl
    | true =>
      have := (eqB_iff h pl_nil).mp hb
      injection this with h1
      cases h1
theorem tup0 (δ : UE) (L : UH) : (fTup fNil) δ L = some (.tup [], L) := by
  have sm0 : small ([] : List U).length = true := small_of (by show 0 ≤ 16777216; decide)
  rw [fTup_eq, fNil_eq, Option.bind_some, if_pos sm0]
theorem at_intN {row : List Int} {k : Nat} (h : k < row.length) : L2.atI (row.map U.int) (k : Int) = some (.int (row.getD k 0)) := by
  rw [atI_of (by omega) (by simp; omega), List.getElem?_map, Int.toNat_natCast, List.getElem?_eq_getElem h]
  simp [List.getD_eq_getElem?_getD, h]
theorem p13 : powOk 10 13 = true := rfl
theorem p10 : powOk 10 10 = true := rfl
theorem ten10 (δ : UE) (L : UH) : (f2 semPow (fC (.int 10)) (fC (.int 10))) δ L = some (.int 10000000000, L) := by simp [p10]
theorem ten13 (δ : UE) (L : UH) : (f2 semPow (fC (.int 10)) (fC (.int 13))) δ L = some (.int 10000000000000, L) := by simp [p13]
noncomputable def nr1 : FS := (fIfS (fOr (fTest (f2 semEq (fVar 1) (fTup fNil))) (fTest (f2 semEq (fOwn 2 m_l_draw (fCons (fVar 0) (fCons (fC (.int 5)) fNil))) (fC (.int 0))))) (fRet (fOwn 2 m_l_number (fCons (fVar 0) (fCons (fOwn 2 m_l_draw (fCons (fVar 0) (fCons (fC (.int 3)) fNil))) fNil)))) fNext)
noncomputable def nr2 : FS := (fIfS (fTest (f2 semEq (fOwn 2 m_l_draw (fCons (fVar 0) (fCons (fC (.int 8)) fNil))) (fC (.int 0)))) (fRet (f2 semIx (fLst (fCons (f2 semSub (f2 semPow (fC (.int 10)) (fC (.int 13))) (fC (.int 1))) (fCons (f2 semSub (fC (.int 1)) (f2 semPow (fC (.int 10)) (fC (.int 13)))) (fCons (f2 semPow (fC (.int 10)) (fC (.int 10))) (fCons (f2 semSub (fC (.int 0)) (f2 semPow (fC (.int 10)) (fC (.int 10)))) fNil))))) (fOwn 2 m_l_draw (fCons (fVar 0) (fCons (fC (.int 4)) fNil))))) fNext)
theorem nr2_list (δ : UE) (L : UH) : (fLst (fCons (f2 semSub (f2 semPow (fC (.int 10)) (fC (.int 13))) (fC (.int 1))) (fCons (f2 semSub (fC (.int 1)) (f2 semPow (fC (.int 10)) (fC (.int 13)))) (fCons (f2 semPow (fC (.int 10)) (fC (.int 10))) (fCons (f2 semSub (fC (.int 0)) (f2 semPow (fC (.int 10)) (fC (.int 10)))) fNil))))) δ L = some (.ref L.length, L ++ [.lst [.int 9999999999999, .int (-9999999999999), .int 10000000000, .int (-10000000000)]]) := by
  have sm4 : ∀ x y z t : U, small [x, y, z, t].length = true := fun _ _ _ _ => small_of (by show 4 ≤ 16777216; decide)
  have c1 : (f2 semSub (f2 semPow (fC (.int 10)) (fC (.int 13))) (fC (.int 1))) δ L = some (.int 9999999999999, L) := by rw [f2_eq, ten13]; rfl
  have c2 : (f2 semSub (fC (.int 1)) (f2 semPow (fC (.int 10)) (fC (.int 13)))) δ L = some (.int (-9999999999999), L) := by rw [f2_eq, fC_eq, Option.bind_some, ten13]; rfl
  have c3 : (f2 semSub (fC (.int 0)) (f2 semPow (fC (.int 10)) (fC (.int 10)))) δ L = some (.int (-10000000000), L) := by rw [f2_eq, fC_eq, Option.bind_some, ten10]; rfl
  rw [fLst_eq, fCons_eq, c1, Option.bind_some, fCons_eq, c2, Option.bind_some, fCons_eq, ten10, Option.bind_some, fCons_eq, c3]
  simp only [Option.bind_some, fNil_eq, Option.map_some]
  rw [if_pos (sm4 _ _ _ _)]
theorem near_ok {L : UH} {d : Nat} {B : Int} (xs : List Int) (hl : xs.length ≤ 1000) (D : Seed L d B) (hB : B ≤ 1000000) :
    ∃ (v : Int) (L' : UH), m_l_near [.ref d, .tup (xs.map U.int)] L = some (.int v, L') ∧ (-9999999999999 ≤ v ∧ v ≤ 9999999999999) ∧ Seed L' d (B + 6) ∧ Ex d L L' := by
  have sp : b_l_near = fSeq nr1 (fSeq nr2 (fSeq (fAsg (f2 semSub (f2 semAdd (f2 semIx (fVar 1) (fOwn 2 m_l_draw (fCons (fVar 0) (fCons (fCall semLen (fCons (fVar 1) fNil)) fNil)))) (fOwn 2 m_l_draw (fCons (fVar 0) (fCons (fC (.int 3)) fNil)))) (fC (.int 1))) (gN 2)) (fRet (fCall semMax (fCons (f2 semSub (fC (.int 1)) (f2 semPow (fC (.int 10)) (fC (.int 10)))) (fCons (fCall semMin (fCons (f2 semSub (f2 semPow (fC (.int 10)) (fC (.int 10))) (fC (.int 1))) (fCons (fVar 2) fNil))) fNil)))))) := rfl
  have he : ∀ L, semEq (.tup (xs.map U.int)) (.tup []) L = some (.bl (xs.map U.int).isEmpty, L) := fun L => by rw [semEq_pl L (pl_ints xs) pl_nil, eqB_nil (pl_ints xs)]
  unfold m_l_near fnU
  simp only [List.length_cons, List.length_nil, if_true, List.map_cons, List.map_nil, List.replicate, List.cons_append, List.nil_append]
  rw [sp]
  have out : ∀ (M : UH) (B' : Int), B' ≤ B + 1 → Seed M d B' → Ex d L M → ∃ (v : Int) (L' : UH), (fRet (fOwn 2 m_l_number (fCons (fVar 0) (fCons (fOwn 2 m_l_draw (fCons (fVar 0) (fCons (fC (.int 3)) fNil))) fNil)))) [some (.ref d), some (.tup (xs.map U.int)), none] M = some (.rt (.int v), L') ∧ (-9999999999999 ≤ v ∧ v ≤ 9999999999999) ∧ Seed L' d (B + 6) ∧ Ex d L L' := fun M B' hb D' x' => by
    obtain ⟨w, M1, e1, a1, b1, D1, y1⟩ := draw_ok (many := 3) D' (by omega) (by decide) (by decide)
    obtain ⟨v, M2, e2, va, vb, D2, y2⟩ := number2_ok (way := w) D1 (by omega) (by omega)
    refine ⟨v, M2, ?_, ⟨by omega, by omega⟩, D2.mono (by omega), (x'.trans y1).trans y2⟩
    simp only [fRet_eq, fOwn_eq, fCons_eq, fNil_eq, fVar_eq, fC_eq, List.getElem?_cons_succ, List.getElem?_cons_zero, Option.join_some, Option.map_some, Option.bind_some, List.length_cons, List.length_nil, if_true, e1, e2]
  have t1 : (fTest (f2 semEq (fVar 1) (fTup fNil))) [some (.ref d), some (.tup (xs.map U.int)), none] L = some ((xs.map U.int).isEmpty, L) := by
    rw [fTest_eq, f2_eq]
    simp only [fVar_eq, List.getElem?_cons_succ, List.getElem?_cons_zero, Option.join_some, Option.map_some, Option.bind_some, tup0, he]
  cases hem : (xs.map U.int).isEmpty with
  | true =>
    obtain ⟨v, L', e, hvb, D', x'⟩ := out L B (by omega) D (Ex.refl _ _)
    refine ⟨v, L', ?_, hvb, D', x'⟩
    rw [fSeq_eq]
    unfold nr1
    rw [fIfS_eq, fOr_eq, t1, hem]
    simp only [Option.bind_some, if_true, e]
  | false =>
    obtain ⟨w, L1, e1, a1, b1, D1, y1⟩ := draw_ok (many := 5) D (by omega) (by decide) (by decide)
    have t2 : (fTest (f2 semEq (fOwn 2 m_l_draw (fCons (fVar 0) (fCons (fC (.int 5)) fNil))) (fC (.int 0)))) [some (.ref d), some (.tup (xs.map U.int)), none] L = some (w == 0, L1) := by
      simp only [fTest_eq, f2_eq, fOwn_eq, fCons_eq, fNil_eq, fVar_eq, fC_eq, List.getElem?_cons_succ, List.getElem?_cons_zero, Option.join_some, Option.map_some, Option.bind_some, List.length_cons, List.length_nil, if_true, e1, semEq_int]
    cases hw : (w == 0) with
    | true =>
      obtain ⟨v, L', e, hvb, D', x'⟩ := out L1 (B + 1) (by omega) D1 y1
      refine ⟨v, L', ?_, hvb, D', x'⟩
      rw [fSeq_eq]
      unfold nr1
      rw [fIfS_eq, fOr_eq, t1, hem]
      simp only [Option.bind_some, Bool.false_eq_true, if_false, t2, hw, if_true, e]
    | false =>
      have s1 : nr1 [some (.ref d), some (.tup (xs.map U.int)), none] L = some (.nx [some (.ref d), some (.tup (xs.map U.int)), none], L1) := by
        unfold nr1
        rw [fIfS_eq, fOr_eq, t1, hem]
        simp only [Option.bind_some, Bool.false_eq_true, if_false, t2, hw, fNext_eq]
      rw [fSeq_nx s1]
      obtain ⟨u, K2, e2, a2, b2, D2, y2⟩ := draw_ok (many := 8) D1 (by omega) (by decide) (by decide)
      have t3 : (fTest (f2 semEq (fOwn 2 m_l_draw (fCons (fVar 0) (fCons (fC (.int 8)) fNil))) (fC (.int 0)))) [some (.ref d), some (.tup (xs.map U.int)), none] L1 = some (u == 0, K2) := by
        simp only [fTest_eq, f2_eq, fOwn_eq, fCons_eq, fNil_eq, fVar_eq, fC_eq, List.getElem?_cons_succ, List.getElem?_cons_zero, Option.join_some, Option.map_some, Option.bind_some, List.length_cons, List.length_nil, if_true, e2, semEq_int]
      cases hu : (u == 0) with
      | true =>
        obtain ⟨i, L3, e3, a3, b3, D3, y3⟩ := draw_ok (many := 4) (D2.new [HU.lst [.int 9999999999999, .int (-9999999999999), .int 10000000000, .int (-10000000000)]]) (by omega) (by decide) (by decide)
        have dl := D2.lt
        have q5 : seqAt L3 K2.length = some [.int 9999999999999, .int (-9999999999999), .int 10000000000, .int (-10000000000)] := seqAt_lst (y3.get (i := K2.length) (by simp) (by omega))
        have hv : ∃ v, L2.atI [U.int 9999999999999, .int (-9999999999999), .int 10000000000, .int (-10000000000)] i = some (.int v) ∧ (-9999999999999 ≤ v ∧ v ≤ 9999999999999) := by
          have : i = 0 ∨ i = 1 ∨ i = 2 ∨ i = 3 := by omega
          rcases this with rfl | rfl | rfl | rfl <;> exact ⟨_, rfl, by decide⟩
        obtain ⟨v, hv, hvb⟩ := hv
        refine ⟨v, L3, ?_, hvb, D3.mono (by omega), ((y1.trans y2).trans (Ex.new d _ _)).trans y3⟩
        rw [fSeq_eq]
        unfold nr2
        rw [fIfS_eq, t3, hu]
        simp only [Option.bind_some, if_true]
        rw [fRet_eq, f2_eq, nr2_list]
        simp only [Option.bind_some, fOwn_eq, fCons_eq, fNil_eq, fVar_eq, fC_eq, List.getElem?_cons_succ, List.getElem?_cons_zero, Option.join_some, Option.map_some, List.length_cons, List.length_nil, if_true, e3, semIx_ref, q5, hv]
      | false =>
        have s2 : nr2 [some (.ref d), some (.tup (xs.map U.int)), none] L1 = some (.nx [some (.ref d), some (.tup (xs.map U.int)), none], K2) := by
          unfold nr2
          rw [fIfS_eq, t3, hu]
          simp only [Option.bind_some, Bool.false_eq_true, if_false, fNext_eq]
        rw [fSeq_nx s2]
        have hpos : 0 < xs.length := by
          cases xs with
          | nil => cases hem
          | cons => simp
        have hlen : ∀ M, semLen [.tup (xs.map U.int)] M = some (.int xs.length, M) := fun M => by simp [semLen, lenU]
        obtain ⟨i, L3, e3, a3, b3, D3, y3⟩ := draw_ok (many := (xs.length : Nat)) D2 (by omega) (by omega) (by omega)
        obtain ⟨k, hk⟩ : ∃ k : Nat, i = (k : Int) := ⟨i.toNat, by omega⟩
        subst hk
        have hat := at_intN (row := xs) (k := k) (by omega)
        generalize xs.getD k 0 = a at hat
        obtain ⟨j, L4, e4, a4, b4, D4, y4⟩ := draw_ok (many := 3) D3 (by omega) (by decide) (by decide)
        have s3 : (fAsg (f2 semSub (f2 semAdd (f2 semIx (fVar 1) (fOwn 2 m_l_draw (fCons (fVar 0) (fCons (fCall semLen (fCons (fVar 1) fNil)) fNil)))) (fOwn 2 m_l_draw (fCons (fVar 0) (fCons (fC (.int 3)) fNil)))) (fC (.int 1))) (gN 2)) [some (.ref d), some (.tup (xs.map U.int)), none] K2 = some (.nx [some (.ref d), some (.tup (xs.map U.int)), some (.int (a + j - 1))], L4) := by
          simp only [fAsg_eq, f2_eq, fOwn_eq, fCall_eq, fCons_eq, fNil_eq, fVar_eq, fC_eq, List.getElem?_cons_succ, List.getElem?_cons_zero, Option.join_some, Option.map_some, Option.bind_some, hlen, List.length_cons, List.length_nil, if_true, e3, semIx_tup, hat, e4, semAdd_int, semSub_int, gN_eq, List.set_cons_succ, List.set_cons_zero]
        rw [fSeq_nx s3]
        generalize a + j - 1 = b
        have hmin : ∀ M, ∃ m : Int, semMin [.int 9999999999, .int b] M = some (.int m, M) := fun M => ⟨_, rfl⟩
        have hm9 : (if b < 9999999999 then b else 9999999999) ≤ 9999999999 := by split <;> omega
        obtain ⟨m, hm, hm9⟩ : ∃ m : Int, semMin [.int 9999999999, .int b] L4 = some (.int m, L4) ∧ m ≤ 9999999999 := ⟨_, rfl, hm9⟩
        have hmax : ∀ M, ∃ v : Int, semMax [.int (-9999999999), .int m] M = some (.int v, M) := fun M => ⟨_, rfl⟩
        have hv9 : -9999999999999 ≤ (if -9999999999 < m then m else -9999999999) ∧ (if -9999999999 < m then m else -9999999999) ≤ 9999999999999 := by split <;> omega
        obtain ⟨v, hv, hv9⟩ : ∃ v : Int, semMax [.int (-9999999999), .int m] L4 = some (.int v, L4) ∧ (-9999999999999 ≤ v ∧ v ≤ 9999999999999) := ⟨_, rfl, hv9⟩
        refine ⟨v, L4, ?_, hv9, D4.mono (by omega), ((y1.trans y2).trans y3).trans y4⟩
        have c1 : (f2 semSub (fC (.int 1)) (f2 semPow (fC (.int 10)) (fC (.int 10)))) [some (.ref d), some (.tup (xs.map U.int)), some (.int b)] L4 = some (.int (-9999999999), L4) := by rw [f2_eq, fC_eq, Option.bind_some, ten10]; rfl
        have c2 : (f2 semSub (f2 semPow (fC (.int 10)) (fC (.int 10))) (fC (.int 1))) [some (.ref d), some (.tup (xs.map U.int)), some (.int b)] L4 = some (.int 9999999999, L4) := by rw [f2_eq, ten10]; rfl
        have c3 : (fCall semMin (fCons (f2 semSub (f2 semPow (fC (.int 10)) (fC (.int 10))) (fC (.int 1))) (fCons (fVar 2) fNil))) [some (.ref d), some (.tup (xs.map U.int)), some (.int b)] L4 = some (.int m, L4) := by
          rw [fCall_eq, fCons_eq, c2]
          simp only [Option.bind_some, fCons_eq, fVar_eq, fNil_eq, List.getElem?_cons_succ, List.getElem?_cons_zero, Option.join_some, Option.map_some, hm]
        rw [fRet_eq, fCall_eq, fCons_eq, c1, Option.bind_some, fCons_eq, c3]
        simp only [Option.bind_some, fNil_eq, Option.map_some, hv]
end Lw
set_option Elab.async false
set_option linter.all false
set_option maxRecDepth 100000
set_option maxHeartbeats 1000000
namespace Lw
open PySem L2 MR
noncomputable def prU (p : Int × Int) : U := .tup [.int p.1, .int p.2]
noncomputable def bxU (b : Int × Int × Int × Int) : U := .tup [.int b.1, .int b.2.1, .int b.2.2.1, .int b.2.2.2]
theorem nums_ok {ps : List (Str × (Int × Int))} (hl : ps.length ≤ 1000) (fe : FE) (f : Int × Int → Int) (hf : ∀ (p : Str × (Int × Int)) (L : UH), fe [some (.str p.1), some (.int p.2.1), some (.int p.2.2)] L = some (.int (f p.2), L)) (δ : UE) (L : UH) (h1 : fVar 1 δ L = some (.tup (ps.map ptU), L)) :
    ∃ L', (fCall semTuple (fCons (fComp [none, none, none] (fSeqI (fVar 1)) (MR.gTup 3 (MR.gCons (gN 0) (MR.gCons (gN 1) (MR.gCons (gN 2) MR.gNil)))) none fe) fNil)) δ L = some (.tup ((ps.map fun p => f p.2).map U.int), L') ∧ Gw L L' := by
  have hi : fSeqI (fVar 1) δ L = some (.seq (ps.map ptU), L) := by rw [fSeqI_eq, h1]; rfl
  obtain ⟨x, e⟩ := comp_grow (ix := [none, none, none]) (fi := fSeqI (fVar 1)) (it := .seq (ps.map ptU)) (g := (MR.gTup 3 (MR.gCons (gN 0) (MR.gCons (gN 1) (MR.gCons (gN 2) MR.gNil))))) (tt := none) (fe := fe) (δ := δ) (L := L) (L0 := L)
    ps ptU (fun _ => true) (fun p => .int (f p.2)) (fun δ => ∃ a b c, δ = [a, b, c]) hi (by simp [IU.size]) (by omega) ⟨none, none, none, rfl⟩
    (fun k x => rfl)
    (fun p δ x _ ⟨a, b, c, hδ⟩ => by
      subst hδ
      refine ⟨[some (.str p.1), some (.int p.2.1), some (.int p.2.2)], rfl, ⟨_, _, _, rfl⟩, [], by simp [testU], fun _ => ⟨[], ?_⟩⟩
      rw [List.append_nil, List.append_nil]
      exact hf p _)
  have hff : List.filter (fun _ => true) ps = ps := List.filter_eq_self.mpr (fun _ _ => rfl)
  have hm : ps.map (fun p => U.int (f p.2)) = (ps.map fun p => f p.2).map U.int := by simp
  rw [hff, hm] at e
  have q2 : seqAt (L ++ x ++ [HU.lst ((ps.map fun p => f p.2).map U.int)]) (L ++ x).length = some ((ps.map fun p => f p.2).map U.int) := seqAt_lst (by simp)
  refine ⟨L ++ x ++ [HU.lst ((ps.map fun p => f p.2).map U.int)], ?_, ⟨x ++ [HU.lst ((ps.map fun p => f p.2).map U.int)], by rw [List.append_assoc]⟩⟩
  rw [fCall_eq, fCons_eq, e]
  simp only [Option.bind_some, fNil_eq, Option.map_some, semTuple, q2]
noncomputable def pl1 : FS := (fIfS (fAnd (fTest (f2 semNe (fVar 1) (fTup fNil))) (fTest (f2 semEq (fOwn 2 m_l_draw (fCons (fVar 0) (fCons (fC (.int 4)) fNil))) (fC (.int 0))))) (fRet (fSl semSl (f2 semIx (fVar 1) (fOwn 2 m_l_draw (fCons (fVar 0) (fCons (fCall semLen (fCons (fVar 1) fNil)) fNil)))) (fPart (fC (.int 1))) fNoPart)) fNext)
noncomputable def Wd (q : Int × Int) : Prop := (-9999999999999 ≤ q.1 ∧ q.1 ≤ 9999999999999) ∧ (-9999999999999 ≤ q.2 ∧ q.2 ≤ 9999999999999)
theorem Pw.wd {q : Int × Int} (h : Pw q) : Wd q := by obtain ⟨⟨a, b⟩, c, e⟩ := h; exact ⟨⟨by omega, by omega⟩, by omega, by omega⟩
theorem place_ok {L : UH} {d : Nat} {B : Int} {ps : List (Str × (Int × Int))} (hl : ps.length ≤ 60) (hok : ∀ p ∈ ps, PyData.strOk p.1 = true) (hpb : ∀ p ∈ ps, Pw p.2) (D : Seed L d B) (hB : B ≤ 100000) :
    ∃ (q : Int × Int) (L' : UH), m_l_place [.ref d, .tup (ps.map ptU)] L = some (prU q, L') ∧ Wd q ∧ Seed L' d (B + 13) ∧ Ex d L L' := by
  have sp : b_l_place = fSeq pl1 (fSeq (fAsg (fCall semTuple (fCons (fComp [none, none, none] (fSeqI (fVar 1)) (MR.gTup 3 (MR.gCons (gN 0) (MR.gCons (gN 1) (MR.gCons (gN 2) MR.gNil)))) none b_l_place_2e) fNil)) (gN 2)) (fSeq (fAsg (fCall semTuple (fCons (fComp [none, none, none] (fSeqI (fVar 1)) (MR.gTup 3 (MR.gCons (gN 0) (MR.gCons (gN 1) (MR.gCons (gN 2) MR.gNil)))) none b_l_place_1e) fNil)) (gN 3)) (fRet (fTup (fCons (fOwn 2 m_l_near (fCons (fVar 0) (fCons (fVar 2) fNil))) (fCons (fOwn 2 m_l_near (fCons (fVar 0) (fCons (fVar 3) fNil))) fNil)))))) := rfl
  have hne : ∀ L, semNe (.tup (ps.map ptU)) (.tup []) L = some (.bl (!(ps.map ptU).isEmpty), L) := fun L => by rw [semNe_pl L (pl_pts hok) pl_nil, eqB_nil (pl_pts hok)]
  unfold m_l_place fnU
  simp only [List.length_cons, List.length_nil, if_true, List.map_cons, List.map_nil, List.replicate, List.cons_append, List.nil_append]
  rw [sp]
  have rest : ∀ (M : UH) (B' : Int), B' ≤ B + 1 → Seed M d B' → Ex d L M → ∃ (q : Int × Int) (L' : UH), (fSeq (fAsg (fCall semTuple (fCons (fComp [none, none, none] (fSeqI (fVar 1)) (MR.gTup 3 (MR.gCons (gN 0) (MR.gCons (gN 1) (MR.gCons (gN 2) MR.gNil)))) none b_l_place_2e) fNil)) (gN 2)) (fSeq (fAsg (fCall semTuple (fCons (fComp [none, none, none] (fSeqI (fVar 1)) (MR.gTup 3 (MR.gCons (gN 0) (MR.gCons (gN 1) (MR.gCons (gN 2) MR.gNil)))) none b_l_place_1e) fNil)) (gN 3)) (fRet (fTup (fCons (fOwn 2 m_l_near (fCons (fVar 0) (fCons (fVar 2) fNil))) (fCons (fOwn 2 m_l_near (fCons (fVar 0) (fCons (fVar 3) fNil))) fNil)))))) [some (.ref d), some (.tup (ps.map ptU)), none, none] M = some (.rt (prU q), L') ∧ Wd q ∧ Seed L' d (B + 13) ∧ Ex d L L' := fun M B' hb D' x' => by
    obtain ⟨M1, e1, g1⟩ := nums_ok (by omega) b_l_place_2e (·.1) (fun p L => rfl) [some (.ref d), some (.tup (ps.map ptU)), none, none] M rfl
    obtain ⟨M2, e2, g2⟩ := nums_ok (by omega) b_l_place_1e (·.2) (fun p L => rfl) [some (.ref d), some (.tup (ps.map ptU)), some (.tup ((ps.map fun p => p.2.1).map U.int)), none] M1 rfl
    have D2 := (D'.gw g1).gw g2
    obtain ⟨v, M3, e3, vb, D3, y3⟩ := near_ok (ps.map fun p => p.2.1) (by simp; omega) D2 (by omega)
    obtain ⟨w, M4, e4, wb, D4, y4⟩ := near_ok (ps.map fun p => p.2.2) (by simp; omega) D3 (by omega)
    refine ⟨(v, w), M4, ?_, ⟨vb, wb⟩, D4.mono (by omega), ((x'.trans ((g1.trans g2).ex d)).trans y3).trans y4⟩
    have s1 : (fAsg (fCall semTuple (fCons (fComp [none, none, none] (fSeqI (fVar 1)) (MR.gTup 3 (MR.gCons (gN 0) (MR.gCons (gN 1) (MR.gCons (gN 2) MR.gNil)))) none b_l_place_2e) fNil)) (gN 2)) [some (.ref d), some (.tup (ps.map ptU)), none, none] M = some (.nx [some (.ref d), some (.tup (ps.map ptU)), some (.tup ((ps.map fun p => p.2.1).map U.int)), none], M1) := by rw [fAsg_eq, e1]; rfl
    have s2 : (fAsg (fCall semTuple (fCons (fComp [none, none, none] (fSeqI (fVar 1)) (MR.gTup 3 (MR.gCons (gN 0) (MR.gCons (gN 1) (MR.gCons (gN 2) MR.gNil)))) none b_l_place_1e) fNil)) (gN 3)) [some (.ref d), some (.tup (ps.map ptU)), some (.tup ((ps.map fun p => p.2.1).map U.int)), none] M1 = some (.nx [some (.ref d), some (.tup (ps.map ptU)), some (.tup ((ps.map fun p => p.2.1).map U.int)), some (.tup ((ps.map fun p => p.2.2).map U.int))], M2) := by rw [fAsg_eq, e2]; rfl
    have sm2 : ∀ x y : U, small [x, y].length = true := fun _ _ => small_of (by show 2 ≤ 16777216; decide)
    rw [fSeq_nx s1, fSeq_nx s2]
    generalize (ps.map fun p => p.2.1) = as at e3
    generalize (ps.map fun p => p.2.2) = bs at e4
    simp only [fRet_eq, fTup_eq, fOwn_eq, fCons_eq, fNil_eq, fVar_eq, List.getElem?_cons_succ, List.getElem?_cons_zero, Option.join_some, Option.map_some, Option.bind_some, List.length_cons, List.length_nil, if_true, e3, e4]
    rw [if_pos (small_of (by show 2 ≤ 16777216; decide))]
    rfl
  have t1 : (fTest (f2 semNe (fVar 1) (fTup fNil))) [some (.ref d), some (.tup (ps.map ptU)), none, none] L = some (!(ps.map ptU).isEmpty, L) := by
    rw [fTest_eq, f2_eq]
    simp only [fVar_eq, List.getElem?_cons_succ, List.getElem?_cons_zero, Option.join_some, Option.map_some, Option.bind_some, tup0, hne]
  cases hem : (!(ps.map ptU).isEmpty) with
  | false =>
    have s1 : pl1 [some (.ref d), some (.tup (ps.map ptU)), none, none] L = some (.nx [some (.ref d), some (.tup (ps.map ptU)), none, none], L) := by
      unfold pl1
      rw [fIfS_eq, fAnd_eq, t1, hem]
      simp only [Option.bind_some, Bool.false_eq_true, if_false, fNext_eq]
    rw [fSeq_nx s1]
    obtain ⟨q, L', e, qb, D', x'⟩ := rest L B (by omega) D (Ex.refl _ _)
    exact ⟨q, L', by rw [e]; rfl, qb, D', x'⟩
  | true =>
    obtain ⟨w, L1, e1, a1, b1, D1, y1⟩ := draw_ok (many := 4) D (by omega) (by decide) (by decide)
    have t2 : (fTest (f2 semEq (fOwn 2 m_l_draw (fCons (fVar 0) (fCons (fC (.int 4)) fNil))) (fC (.int 0)))) [some (.ref d), some (.tup (ps.map ptU)), none, none] L = some (w == 0, L1) := by
      simp only [fTest_eq, f2_eq, fOwn_eq, fCons_eq, fNil_eq, fVar_eq, fC_eq, List.getElem?_cons_succ, List.getElem?_cons_zero, Option.join_some, Option.map_some, Option.bind_some, List.length_cons, List.length_nil, if_true, e1, semEq_int]
    cases hw : (w == 0) with
    | false =>
      have s1 : pl1 [some (.ref d), some (.tup (ps.map ptU)), none, none] L = some (.nx [some (.ref d), some (.tup (ps.map ptU)), none, none], L1) := by
        unfold pl1
        rw [fIfS_eq, fAnd_eq, t1, hem]
        simp only [Option.bind_some, if_true, t2, hw, Bool.false_eq_true, if_false, fNext_eq]
      rw [fSeq_nx s1]
      obtain ⟨q, L', e, qb, D', x'⟩ := rest L1 (B + 1) (by omega) D1 y1
      exact ⟨q, L', by rw [e]; rfl, qb, D', x'⟩
    | true =>
      have hpos : 0 < ps.length := by
        cases ps with
        | nil => cases hem
        | cons => simp
      have hlen : ∀ M, semLen [.tup (ps.map ptU)] M = some (.int ps.length, M) := fun M => by simp [semLen, lenU]
      obtain ⟨i, K2, e2, a2, b2, D2, y2⟩ := draw_ok (many := (ps.length : Nat)) D1 (by omega) (by omega) (by omega)
      obtain ⟨k, hk⟩ : ∃ k : Nat, i = (k : Int) := ⟨i.toNat, by omega⟩
      subst hk
      have hk : k < ps.length := by omega
      have hat : L2.atI (ps.map ptU) (k : Int) = some (ptU (ps[k]'hk)) := by
        rw [atI_of (by omega) (by simp; omega), List.getElem?_map, Int.toNat_natCast, List.getElem?_eq_getElem hk]; rfl
      have ho : Pw (ps[k]'hk).2 := hpb _ (List.getElem_mem hk)
      generalize ps[k]'hk = o at hat ho
      refine ⟨o.2, K2, ?_, ho.wd, D2.mono (by omega), y1.trans y2⟩
      have hsl : ∀ L, semSl (ptU o) (some 1) none L = some (prU o.2, L) := fun L => rfl
      have hix : (f2 semIx (fVar 1) (fOwn 2 m_l_draw (fCons (fVar 0) (fCons (fCall semLen (fCons (fVar 1) fNil)) fNil)))) [some (.ref d), some (.tup (ps.map ptU)), none, none] L1 = some (ptU o, K2) := by
        simp only [f2_eq, fOwn_eq, fCall_eq, fCons_eq, fNil_eq, fVar_eq, List.getElem?_cons_succ, List.getElem?_cons_zero, Option.join_some, Option.map_some, Option.bind_some, hlen, List.length_cons, List.length_nil, if_true, e2, semIx_tup, hat]
      rw [fSeq_eq]
      unfold pl1
      rw [fIfS_eq, fAnd_eq, t1, hem]
      simp only [Option.bind_some, if_true, t2, hw]
      rw [fRet_eq, fSl_eq, hix]
      simp only [Option.bind_some, fPart_eq, fC_eq, fNoPart_eq, Option.map_some, hsl]
noncomputable def Bw (b : Int × Int × Int × Int) : Prop := Wd (b.1, b.2.1) ∧ Wd (b.2.2.1, b.2.2.2)
theorem box_ok {L : UH} {d : Nat} {B : Int} {ps : List (Str × (Int × Int))} (hl : ps.length ≤ 60) (hok : ∀ p ∈ ps, PyData.strOk p.1 = true) (hpb : ∀ p ∈ ps, Pw p.2) (D : Seed L d B) (hB : B ≤ 50000) :
    ∃ (b : Int × Int × Int × Int) (L' : UH), m_l_box [.ref d, .tup (ps.map ptU)] L = some (bxU b, L') ∧ Bw b ∧ Seed L' d (B + 27) ∧ Ex d L L' := by
  obtain ⟨p, L1, e1, pw, D1, y1⟩ := place_ok hl hok hpb D (by omega)
  obtain ⟨q, K2, e2, qw, D2, y2⟩ := place_ok hl hok hpb D1 (by omega)
  obtain ⟨w, L3, e3, a3, b3, D3, y3⟩ := draw_ok (many := 8) D2 (by omega) (by decide) (by decide)
  have x3 := (y1.trans y2).trans y3
  generalize hP : U.tup (ps.map ptU) = P at e1 e2
  have s1 : (fAsg (fOwn 2 m_l_place (fCons (fVar 0) (fCons (fVar 1) fNil))) (gN 2)) [some (.ref d), some P, none, none, none] L = some (.nx [some (.ref d), some P, some (prU p), none, none], L1) := by
    simp only [fAsg_eq, fOwn_eq, fCons_eq, fNil_eq, fVar_eq, List.getElem?_cons_succ, List.getElem?_cons_zero, Option.join_some, Option.map_some, Option.bind_some, List.length_cons, List.length_nil, if_true, e1, gN_eq, List.set_cons_succ, List.set_cons_zero]
  have s2 : (fAsg (fOwn 2 m_l_place (fCons (fVar 0) (fCons (fVar 1) fNil))) (gN 3)) [some (.ref d), some P, some (prU p), none, none] L1 = some (.nx [some (.ref d), some P, some (prU p), some (prU q), none], K2) := by
    simp only [fAsg_eq, fOwn_eq, fCons_eq, fNil_eq, fVar_eq, List.getElem?_cons_succ, List.getElem?_cons_zero, Option.join_some, Option.map_some, Option.bind_some, List.length_cons, List.length_nil, if_true, e2, gN_eq, List.set_cons_succ, List.set_cons_zero]
  have t3 : (fTest (f2 semEq (fOwn 2 m_l_draw (fCons (fVar 0) (fCons (fC (.int 8)) fNil))) (fC (.int 0)))) [some (.ref d), some P, some (prU p), some (prU q), none] K2 = some (w == 0, L3) := by
    simp only [fTest_eq, f2_eq, fOwn_eq, fCons_eq, fNil_eq, fVar_eq, fC_eq, List.getElem?_cons_succ, List.getElem?_cons_zero, Option.join_some, Option.map_some, Option.bind_some, List.length_cons, List.length_nil, if_true, e3, semEq_int]
  have cat : ∀ (a b : Int × Int) L, semAdd (prU a) (prU b) L = some (bxU (a.1, a.2, b.1, b.2), L) := fun a b L => by
    unfold prU semAdd
    simp only
    rw [if_pos ⟨rfl, small_of (by show 4 ≤ 16777216; decide)⟩]
    rfl
  unfold m_l_box fnU b_l_box
  simp only [List.length_cons, List.length_nil, if_true, List.map_cons, List.map_nil, List.replicate, List.cons_append, List.nil_append]
  rw [fSeq_nx s1, fSeq_nx s2]
  cases hw : (w == 0) with
  | true =>
    refine ⟨(p.1, p.2, q.1, q.2), L3, ?_, ⟨pw, qw⟩, D3.mono (by omega), x3⟩
    rw [fSeq_eq, fIfS_eq, t3, hw]
    simp only [Option.bind_some, if_true, fRet_eq, f2_eq, fVar_eq, List.getElem?_cons_succ, List.getElem?_cons_zero, Option.join_some, Option.map_some, cat]
  | false =>
    have s3 : (fIfS (fTest (f2 semEq (fOwn 2 m_l_draw (fCons (fVar 0) (fCons (fC (.int 8)) fNil))) (fC (.int 0)))) (fRet (f2 semAdd (fVar 2) (fVar 3))) fNext) [some (.ref d), some P, some (prU p), some (prU q), none] K2 = some (.nx [some (.ref d), some P, some (prU p), some (prU q), none], L3) := by
      rw [fIfS_eq, t3, hw]
      simp only [Option.bind_some, Bool.false_eq_true, if_false, fNext_eq]
    rw [fSeq_nx s3]
    have hz1 : -9999999999999 ≤ (if q.1 < p.1 then q.1 else p.1) ∧ (if q.1 < p.1 then q.1 else p.1) ≤ 9999999999999 := by obtain ⟨⟨_, _⟩, _, _⟩ := pw; obtain ⟨⟨_, _⟩, _, _⟩ := qw; split <;> omega
    obtain ⟨m1, hm1, hz1⟩ : ∃ m : Int, semMin [.int p.1, .int q.1] L3 = some (.int m, L3) ∧ (-9999999999999 ≤ m ∧ m ≤ 9999999999999) := ⟨_, rfl, hz1⟩
    have hz2 : -9999999999999 ≤ (if q.2 < p.2 then q.2 else p.2) ∧ (if q.2 < p.2 then q.2 else p.2) ≤ 9999999999999 := by obtain ⟨⟨_, _⟩, _, _⟩ := pw; obtain ⟨⟨_, _⟩, _, _⟩ := qw; split <;> omega
    obtain ⟨m2, hm2, hz2⟩ : ∃ m : Int, semMin [.int p.2, .int q.2] L3 = some (.int m, L3) ∧ (-9999999999999 ≤ m ∧ m ≤ 9999999999999) := ⟨_, rfl, hz2⟩
    have hz3 : -9999999999999 ≤ (if p.1 < q.1 then q.1 else p.1) ∧ (if p.1 < q.1 then q.1 else p.1) ≤ 9999999999999 := by obtain ⟨⟨_, _⟩, _, _⟩ := pw; obtain ⟨⟨_, _⟩, _, _⟩ := qw; split <;> omega
    obtain ⟨m3, hm3, hz3⟩ : ∃ m : Int, semMax [.int p.1, .int q.1] L3 = some (.int m, L3) ∧ (-9999999999999 ≤ m ∧ m ≤ 9999999999999) := ⟨_, rfl, hz3⟩
    have hz4 : -9999999999999 ≤ (if p.2 < q.2 then q.2 else p.2) ∧ (if p.2 < q.2 then q.2 else p.2) ≤ 9999999999999 := by obtain ⟨⟨_, _⟩, _, _⟩ := pw; obtain ⟨⟨_, _⟩, _, _⟩ := qw; split <;> omega
    obtain ⟨m4, hm4, hz4⟩ : ∃ m : Int, semMax [.int p.2, .int q.2] L3 = some (.int m, L3) ∧ (-9999999999999 ≤ m ∧ m ≤ 9999999999999) := ⟨_, rfl, hz4⟩
    have h0 : ∀ p : Int × Int, L2.atI [U.int p.1, .int p.2] 0 = some (.int p.1) := fun _ => rfl
    have h1 : ∀ p : Int × Int, L2.atI [U.int p.1, .int p.2] 1 = some (.int p.2) := fun _ => rfl
    have sm2 : ∀ x y : U, small [x, y].length = true := fun _ _ => small_of (by show 2 ≤ 16777216; decide)
    have s4 : (fAsg (fTup (fCons (fCall semMin (fCons (f2 semIx (fVar 2) (fC (.int 0))) (fCons (f2 semIx (fVar 3) (fC (.int 0))) fNil))) (fCons (fCall semMin (fCons (f2 semIx (fVar 2) (fC (.int 1))) (fCons (f2 semIx (fVar 3) (fC (.int 1))) fNil))) fNil))) (gN 4)) [some (.ref d), some P, some (prU p), some (prU q), none] L3 = some (.nx [some (.ref d), some P, some (prU p), some (prU q), some (prU (m1, m2))], L3) := by
      unfold prU
      simp only [fAsg_eq, fTup_eq, fCall_eq, fCons_eq, fNil_eq, f2_eq, fVar_eq, fC_eq, List.getElem?_cons_succ, List.getElem?_cons_zero, Option.join_some, Option.map_some, Option.bind_some, semIx_tup, h0, h1, hm1, hm2]
      rw [if_pos (sm2 _ _)]
      rfl
    rw [fSeq_nx s4]
    refine ⟨(m1, m2, m3, m4), L3, ?_, ⟨⟨hz1, hz2⟩, hz3, hz4⟩, D3.mono (by omega), x3⟩
    have c5 : (fTup (fCons (fCall semMax (fCons (f2 semIx (fVar 2) (fC (.int 0))) (fCons (f2 semIx (fVar 3) (fC (.int 0))) fNil))) (fCons (fCall semMax (fCons (f2 semIx (fVar 2) (fC (.int 1))) (fCons (f2 semIx (fVar 3) (fC (.int 1))) fNil))) fNil))) [some (.ref d), some P, some (prU p), some (prU q), some (prU (m1, m2))] L3 = some (prU (m3, m4), L3) := by
      unfold prU
      simp only [fTup_eq, fCall_eq, fCons_eq, fNil_eq, f2_eq, fVar_eq, fC_eq, List.getElem?_cons_succ, List.getElem?_cons_zero, Option.join_some, Option.map_some, Option.bind_some, semIx_tup, h0, h1, hm3, hm4]
      rw [if_pos (sm2 _ _)]
    have v4 : fVar 4 [some (.ref d), some P, some (prU p), some (prU q), some (prU (m1, m2))] L3 = some (prU (m1, m2), L3) := rfl
    rw [fRet_eq, f2_eq, v4, Option.bind_some, c5]
    simp only [Option.bind_some, cat, Option.map_some]
end Lw
set_option Elab.async false
set_option linter.all false
set_option maxRecDepth 100000
set_option maxHeartbeats 1000000
namespace Lw
open PySem L2 MR
noncomputable def inB (b : Int × Int × Int × Int) (p : Str × (Int × Int)) : Bool := decide (b.1 ≤ p.2.1) && (decide (p.2.1 ≤ b.2.2.1) && (decide (b.2.1 ≤ p.2.2) && decide (p.2.2 ≤ b.2.2.2)))
noncomputable def cntB (ps : List (Str × (Int × Int))) (b : Int × Int × Int × Int) : Nat := (ps.filter (inB b)).length
theorem pt1 (p : Str × (Int × Int)) : L2.atI [U.str p.1, .int p.2.1, .int p.2.2] 1 = some (.int p.2.1) := rfl
theorem pt2 (p : Str × (Int × Int)) : L2.atI [U.str p.1, .int p.2.1, .int p.2.2] 2 = some (.int p.2.2) := rfl
theorem ix1 (p : Str × (Int × Int)) (L : UH) : semIx (ptU p) (.int 1) L = some (.int p.2.1, L) := by unfold ptU; rw [semIx_tup, pt1]; rfl
theorem ix2 (p : Str × (Int × Int)) (L : UH) : semIx (ptU p) (.int 2) L = some (.int p.2.2, L) := by unfold ptU; rw [semIx_tup, pt2]; rfl
theorem bx0 (b : Int × Int × Int × Int) (L : UH) : semIx (bxU b) (.int 0) L = some (.int b.1, L) := rfl
theorem bx1 (b : Int × Int × Int × Int) (L : UH) : semIx (bxU b) (.int 1) L = some (.int b.2.1, L) := rfl
theorem bx2 (b : Int × Int × Int × Int) (L : UH) : semIx (bxU b) (.int 2) L = some (.int b.2.2.1, L) := rfl
theorem bx3 (b : Int × Int × Int × Int) (L : UH) : semIx (bxU b) (.int 3) L = some (.int b.2.2.2, L) := rfl
noncomputable abbrev Bx := Int × Int × Int × Int
theorem chain_le {fa fb fc : FE} {δ : UE} {L : UH} {a b c : Int} (ha : fa δ L = some (.int a, L)) (hb : fb δ L = some (.int b, L)) (hc : fc δ L = some (.int c, L)) : fChain semLe semLe fa fb fc δ L = some (.bl (decide (a ≤ b) && decide (b ≤ c)), L) := by
  unfold fChain
  simp only [ha, hb, hc, Option.bind_some, semLe_int]
  cases decide (a ≤ b) <;> rfl
theorem is_held_ok (p : Str × (Int × Int)) (b : Int × Int × Int × Int) (L : UH) : m_is_held [ptU p, bxU b] L = some (.bl (inB b p), L) := by
  have c1 : fChain semLe semLe (f2 semIx (fVar 1) (fC (.int 0))) (f2 semIx (fVar 0) (fC (.int 1))) (f2 semIx (fVar 1) (fC (.int 2))) [some (ptU p), some (bxU b)] L = some (.bl (decide (b.1 ≤ p.2.1) && decide (p.2.1 ≤ b.2.2.1)), L) := chain_le (by simp only [f2_eq, fVar_eq, fC_eq, List.getElem?_cons_succ, List.getElem?_cons_zero, Option.join_some, Option.map_some, Option.bind_some, bx0]) (by simp only [f2_eq, fVar_eq, fC_eq, List.getElem?_cons_succ, List.getElem?_cons_zero, Option.join_some, Option.map_some, Option.bind_some, ix1]) (by simp only [f2_eq, fVar_eq, fC_eq, List.getElem?_cons_succ, List.getElem?_cons_zero, Option.join_some, Option.map_some, Option.bind_some, bx2])
  have c2 : fChain semLe semLe (f2 semIx (fVar 1) (fC (.int 1))) (f2 semIx (fVar 0) (fC (.int 2))) (f2 semIx (fVar 1) (fC (.int 3))) [some (ptU p), some (bxU b)] L = some (.bl (decide (b.2.1 ≤ p.2.2) && decide (p.2.2 ≤ b.2.2.2)), L) := chain_le (by simp only [f2_eq, fVar_eq, fC_eq, List.getElem?_cons_succ, List.getElem?_cons_zero, Option.join_some, Option.map_some, Option.bind_some, bx1]) (by simp only [f2_eq, fVar_eq, fC_eq, List.getElem?_cons_succ, List.getElem?_cons_zero, Option.join_some, Option.map_some, Option.bind_some, ix2]) (by simp only [f2_eq, fVar_eq, fC_eq, List.getElem?_cons_succ, List.getElem?_cons_zero, Option.join_some, Option.map_some, Option.bind_some, bx3])
  unfold m_is_held fnU b_is_held inB
  simp only [List.length_cons, List.length_nil, if_true, List.map_cons, List.map_nil, Nat.sub_self, List.replicate_zero, List.append_nil, fRet_eq, fAndV_eq, c1, c2, Option.map_some, Option.bind_some]
  cases decide (b.1 ≤ p.2.1) <;> cases decide (p.2.1 ≤ b.2.2.1) <;> cases decide (b.2.1 ≤ p.2.2) <;> cases decide (p.2.2 ≤ b.2.2.2) <;> rfl
theorem points_in_ok {ps : List (Str × (Int × Int))} (hl : ps.length ≤ 1000) (b : Int × Int × Int × Int) (L : UH) : ∃ (r : Nat) (L' : UH), m_points_in [.tup (ps.map ptU), bxU b] L = some (.ref r, L') ∧ L'[r]? = some (.lst ((ps.filter (inB b)).map ptU)) ∧ Gw L L' := by
  obtain ⟨x, e⟩ := comp_grow (ix := [none, some 1]) (fi := fSeqI (fVar 0)) (it := .seq (ps.map ptU)) (g := gN 0) (tt := some b_points_in_1t) (fe := b_points_in_1e) (δ := [some (.tup (ps.map ptU)), some (bxU b)]) (L := L) (L0 := L)
    ps ptU (inB b) ptU (fun δ => ∃ a, δ = [a, some (bxU b)]) (by simp [iSeqU]) (by simp [IU.size]) (by omega) ⟨none, rfl⟩
    (fun k x => rfl)
    (fun p δ x _ ⟨y, hδ⟩ => by
      subst hδ
      refine ⟨[some (ptU p), some (bxU b)], rfl, ⟨_, rfl⟩, [], ?_, fun _ => ⟨[], ?_⟩⟩
      · unfold testU b_points_in_1t
        simp only [fTru_eq, fOwn_eq, fCons_eq, fNil_eq, fVar_eq, List.getElem?_cons_succ, List.getElem?_cons_zero, Option.join_some, Option.map_some, Option.bind_some, List.length_cons, List.length_nil, if_true, is_held_ok, truU_bl, List.append_nil]
      · rw [List.append_nil, List.append_nil]; rfl)
  refine ⟨(L ++ x).length, L ++ x ++ [HU.lst ((ps.filter (inB b)).map ptU)], ?_, by simp, ⟨x ++ [HU.lst ((ps.filter (inB b)).map ptU)], by rw [List.append_assoc]⟩⟩
  unfold m_points_in fnU b_points_in
  simp only [List.length_cons, List.length_nil, if_true, List.map_cons, List.map_nil, Nat.sub_self, List.replicate_zero, List.append_nil, fRet_eq, e, Option.map_some, Option.bind_some]
theorem is_in_ok (b : Int × Int × Int × Int) (p : Str × (Int × Int)) (L : UH) : m_l_is_in [bxU b, .int p.2.1, .int p.2.2] L = some (.bl (inB b p), L) := by
  unfold m_l_is_in fnU b_l_is_in inB
  simp only [List.length_cons, List.length_nil, if_true, List.map_cons, List.map_nil, Nat.sub_self, List.replicate_zero, List.append_nil, fRet_eq, fAndV_eq, f2_eq, fVar_eq, fC_eq, List.getElem?_cons_succ, List.getElem?_cons_zero, Option.join_some, Option.map_some, Option.bind_some, bx0, bx1, bx2, bx3, semLe_int]
  cases decide (b.1 ≤ p.2.1) <;> cases decide (p.2.1 ≤ b.2.2.1) <;> cases decide (b.2.1 ≤ p.2.2) <;> cases decide (p.2.2 ≤ b.2.2.2) <;> rfl
theorem setN {fe : FE} {v : U} {i : Nat} {δ : UE} {L L' : UH} (e : fe δ L = some (v, L')) : (fAsg fe (gN i)) δ L = some (.nx (δ.set i (some v)), L') := by
  rw [fAsg_eq, e]; rfl
theorem own1 {f : FN} {i : Nat} {u v : U} {δ : UE} {L L' : UH} (h : fVar i δ L = some (u, L)) (e : f [u] L = some (v, L')) : (fOwn 1 f (fCons (fVar i) fNil)) δ L = some (v, L') := by
  rw [fOwn_eq, fCons_eq, h]
  simp only [Option.bind_some, fNil_eq, Option.map_some, List.length_cons, List.length_nil, if_true, e]
theorem own3v {f : FN} {i j k : Nat} {u w t v : U} {δ : UE} {L L' : UH} (h : ∀ M, fVar i δ M = some (u, M)) (h2 : ∀ M, fVar j δ M = some (w, M)) (h3 : ∀ M, fVar k δ M = some (t, M)) (e : f [u, w, t] L = some (v, L')) : (fOwn 3 f (fCons (fVar i) (fCons (fVar j) (fCons (fVar k) fNil)))) δ L = some (v, L') := by
  rw [fOwn_eq, fCons_eq, h, Option.bind_some, fCons_eq, h2, Option.bind_some, fCons_eq, h3]
  simp only [Option.bind_some, fNil_eq, Option.map_some, List.length_cons, List.length_nil, if_true, e]
theorem toI_ints (l : List Int) : mapO toI (l.map U.int) = some l := by
  induction l with
  | nil => rfl
  | cons a r ih => simp only [List.map_cons, mapO, toI, ih, Option.bind_some, Option.map_some]
theorem if_no {c : FT} {f : FS} {δ : UE} {L L' : UH} (h : c δ L = some (false, L')) : fIfS c f fNext δ L = some (.nx δ, L') := by
  rw [fIfS_eq, h]; rfl
theorem or_no {c d : FT} {δ : UE} {L L1 L2 : UH} (h : c δ L = some (false, L1)) (h2 : d δ L1 = some (false, L2)) : fOr c d δ L = some (false, L2) := by
  rw [fOr_eq, h]
  exact h2
theorem test_ok {f : FE} {δ : UE} {L L' : UH} {b : Bool} (h : f δ L = some (.bl b, L')) : fTest f δ L = some (b, L') := by
  rw [fTest_eq, h]; rfl
theorem f2_ok {s : S2} {fa fb : FE} {δ : UE} {L L1 L2 L3 : UH} {u v w : U} (h1 : fa δ L = some (u, L1)) (h2 : fb δ L1 = some (v, L2)) (h : s u v L2 = some (w, L3)) : f2 s fa fb δ L = some (w, L3) := by
  rw [f2_eq, h1]; simp only [Option.bind_some, h2, h]
theorem fnN {n k : Nat} {b : FS} {us : List U} {v : U} {L L' : UH} (hn : us.length = k) (h : b (us.map some ++ List.replicate (n - k) none) L = some (.rt v, L')) : fnU n k b us L = some (v, L') := by
  subst hn
  unfold fnU
  rw [if_pos rfl, h]
  rfl
theorem ret_ok {fe : FE} {v : U} {δ : UE} {L L' : UH} (e : fe δ L = some (v, L')) : fRet fe δ L = some (.rt v, L') := by rw [fRet_eq, e]; rfl
theorem call1 {s : SC} {fa : FE} {u v : U} {δ : UE} {L L1 L2 : UH} (h : fa δ L = some (u, L1)) (e : s [u] L1 = some (v, L2)) : (fCall s (fCons fa fNil)) δ L = some (v, L2) := by
  rw [fCall_eq, fCons_eq, h]; exact e
theorem own2 {f : FN} {fa fb : FE} {u w v : U} {δ : UE} {L L1 L2 L' : UH} (h : fa δ L = some (u, L1)) (h2 : fb δ L1 = some (w, L2)) (e : f [u, w] L2 = some (v, L')) : (fOwn 2 f (fCons fa (fCons fb fNil))) δ L = some (v, L') := by
  rw [fOwn_eq, fCons_eq, h]
  simp only [Option.bind_some, fCons_eq, h2, fNil_eq, Option.map_some, List.length_cons, List.length_nil, if_true, e]
theorem own3 {f : FN} {fa fb fc : FE} {u w x v : U} {δ : UE} {L L1 L2 L3 L' : UH} (h : fa δ L = some (u, L1)) (h2 : fb δ L1 = some (w, L2)) (h3 : fc δ L2 = some (x, L3)) (e : f [u, w, x] L3 = some (v, L')) : (fOwn 3 f (fCons fa (fCons fb (fCons fc fNil)))) δ L = some (v, L') := by
  rw [fOwn_eq, fCons_eq, h]
  simp only [Option.bind_some, fCons_eq, h2, h3, fNil_eq, Option.map_some, List.length_cons, List.length_nil, if_true, e]
theorem not_tru {fe : FE} {δ : UE} {L L' : UH} (h : fe δ L = some (.bl true, L')) : (fNot (fTru fe)) δ L = some (false, L') := by
  rw [fNot_eq, fTru_eq, h]; rfl
theorem ix_nat {l : List U} {k : Nat} {u : U} (h : l[k]? = some u) : L2.atI l (k : Int) = some u := by
  have := (List.getElem?_eq_some_iff.mp h).1
  rw [atI_of (by omega) (by omega), Int.toNat_natCast, h]
theorem ix_ref {L : UH} {n : Nat} {l : List U} {i : Int} {u : U} (h : L[n]? = some (.lst l)) (hu : L2.atI l i = some u) : semIx (.ref n) (.int i) L = some (u, L) := by
  rw [semIx_ref, seqAt_lst h]
  simp only [Option.bind_some, hu, Option.map_some]
theorem tup1 {fa : FE} {u : U} {δ : UE} {L L' : UH} (h : fa δ L = some (u, L')) : (fTup (fCons fa fNil)) δ L = some (.tup [u], L') := by
  rw [fTup_eq, fCons_eq, h]
  simp only [Option.bind_some, fNil_eq, Option.map_some]
  rw [if_pos (small_of (by show 1 ≤ 16777216; decide))]
theorem tup2 {fa fb : FE} {u v : U} {δ : UE} {L L1 L2 : UH} (h : fa δ L = some (u, L1)) (h2 : fb δ L1 = some (v, L2)) : (fTup (fCons fa (fCons fb fNil))) δ L = some (.tup [u, v], L2) := by
  rw [fTup_eq, fCons_eq, h, Option.bind_some, fCons_eq, h2]
  simp only [Option.bind_some, fNil_eq, Option.map_some]
  rw [if_pos (small_of (by show 2 ≤ 16777216; decide))]
theorem tup4 {fa fb fc fd : FE} {u v w x : U} {δ : UE} {L : UH} (h : fa δ L = some (u, L)) (h2 : fb δ L = some (v, L)) (h3 : fc δ L = some (w, L)) (h4 : fd δ L = some (x, L)) : (fTup (fCons fa (fCons fb (fCons fc (fCons fd fNil))))) δ L = some (.tup [u, v, w, x], L) := by
  rw [fTup_eq, fCons_eq, h, Option.bind_some, fCons_eq, h2, Option.bind_some, fCons_eq, h3, Option.bind_some, fCons_eq, h4]
  simp only [Option.bind_some, fNil_eq, Option.map_some]
  rw [if_pos (small_of (by show 4 ≤ 16777216; decide))]
noncomputable abbrev Pt := Str × (Int × Int)
noncomputable def keyX (q : Int × Int) : List Int := [q.1, q.2]
noncomputable def keyY (q : Int × Int) : List Int := [q.2, q.1]
noncomputable def ordS (key : Int × Int → List Int) (qs : List Pt) : List Nat := SO.sortN (ltK (qs.map fun p => key p.2)) qs.length
noncomputable def nthS (key : Int × Int → List Int) (qs : List Pt) (k : Nat) : Str := (((qs[(ordS key qs).getD k 0]?).map (·.1)).getD "")
theorem ord_perm (key : Int × Int → List Int) (qs : List Pt) : (ordS key qs).Perm (List.range qs.length) := SO.sortN_perm (ltK_wo _)
theorem ord_len (key : Int × Int → List Int) (qs : List Pt) : (ordS key qs).length = qs.length := by rw [(ord_perm key qs).length_eq, List.length_range]
theorem map_sort {m : FN} {key : Int × Int → List Int} {fe : FE} {δ : UE} {L L1 : UH} {r : Nat} {qs : List Pt} (hk : ∀ (p : Pt) (M : UH), m [ptU p] M = some (tupI (key p.2), M)) (hne : ∀ q, key q ≠ []) (h : fe δ L = some (.ref r, L1)) (hr : L1[r]? = some (.lst (qs.map ptU))) (hl : qs.length < 64) :
    fSortK m fe δ L = some (.ref L1.length, L1 ++ [.lst ((ordS key qs).map fun i => (qs.map ptU).getD i .non)]) := by
  have hks : mapO (keyOf m L1) (qs.map ptU) = some (qs.map fun p => key p.2) := by
    clear hr hl
    induction qs with
    | nil => rfl
    | cons p qs ih =>
      have hp : keyOf m L1 (ptU p) = some (key p.2) := by
        unfold keyOf
        rw [hk p L1]
        simp only [Option.bind_some, if_true]
        show mapO toI ((key p.2).map U.int) = _
        exact toI_ints _
      rw [List.map_cons, List.map_cons]
      simp only [mapO, hp, ih, Option.bind_some, Option.map_some]
  have hall : ((qs.map fun p => key p.2).all fun t => !t.isEmpty) = true := by
    rw [List.all_eq_true]
    intro t ht
    obtain ⟨p, _, rfl⟩ := List.mem_map.mp ht
    cases hq : key p.2 with
    | nil => exact absurd hq (hne _)
    | cons => rfl
  unfold fSortK
  rw [h]
  simp only [Option.bind_some, seqAt_lst hr, hks]
  rw [if_pos ⟨by simpa using hl, hall⟩, List.length_map]
  rfl
theorem name_at_ok {L : UH} {r k : Nat} {us : List U} {p : Pt} (hr : L[r]? = some (.lst us)) (hk : us[k]? = some (ptU p)) : m_name_at [.ref r, .int k] L = some (.str p.1, L) := by
  have hlt := (List.getElem?_eq_some_iff.mp hk).1
  have c1 : (fTest (f2 semLt (fVar 1) (fC (.int 0)))) [some (.ref r), some (.int k)] L = some (decide ((k : Int) < 0), L) := rfl
  have c2 : (fTest (f2 semGe (fVar 1) (fCall semLen (fCons (fVar 0) fNil)))) [some (.ref r), some (.int k)] L = some (decide ((us.length : Int) ≤ k), L) := test_ok (f2_ok rfl (call1 rfl (len_lst hr)) rfl)
  have d1 : decide ((k : Int) < 0) = false := by simp
  have d2 : decide ((us.length : Int) ≤ k) = false := by simp; omega
  rw [d1] at c1
  rw [d2] at c2
  refine fnN rfl ?_
  unfold b_name_at
  show fSeq _ _ [some (.ref r), some (.int k)] L = _
  rw [fSeq_nx (if_no (or_no c1 c2))]
  exact ret_ok (f2_ok (f2_ok rfl rfl (ix_ref hr (ix_nat hk))) rfl rfl)
theorem nth_any {mk mn : FN} {key : Int × Int → List Int} {ps : List Pt} {b : Bx} {k : Nat} (hmn : mn = fnU 3 3 (fRet (fOwn 2 m_name_at (fCons (fSortK mk (fOwn 2 m_points_in (fCons (fVar 0) (fCons (fVar 1) fNil)))) (fCons (fVar 2) fNil)))))
    (hk : ∀ (p : Pt) (M : UH), mk [ptU p] M = some (tupI (key p.2), M)) (hne : ∀ q, key q ≠ []) (hl : ps.length ≤ 60) (hlt : k < cntB ps b) (L : UH) :
    ∃ L', mn [.tup (ps.map ptU), bxU b, .int k] L = some (.str (nthS key (ps.filter (inB b)) k), L') ∧ Gw L L' := by
  obtain ⟨r, L1, e1, hr, g1⟩ := points_in_ok (ps := ps) (by omega) b L
  have hq : (ps.filter (inB b)).length ≤ 60 := Nat.le_trans (List.length_filter_le _ _) hl
  have hlt : k < (ps.filter (inB b)).length := hlt
  generalize ps.filter (inB b) = qs at hr hq hlt
  have e2 : (fSortK mk (fOwn 2 m_points_in (fCons (fVar 0) (fCons (fVar 1) fNil)))) [some (.tup (ps.map ptU)), some (bxU b), some (.int k)] L = some (.ref L1.length, L1 ++ [.lst ((ordS key qs).map fun i => (qs.map ptU).getD i .non)]) := map_sort hk hne (own2 rfl rfl e1) hr (by omega)
  have hol := ord_len key qs
  have hin : (ordS key qs)[k]? = some ((ordS key qs).getD k 0) := by
    rw [List.getD_eq_getElem?_getD, List.getElem?_eq_getElem (by omega)]; rfl
  have hmem : (ordS key qs).getD k 0 < qs.length := List.mem_range.mp ((ord_perm key qs).mem_iff.mp (List.mem_of_getElem? hin))
  have hat : ((ordS key qs).map fun i => (qs.map ptU).getD i .non)[k]? = some (ptU (qs[(ordS key qs).getD k 0]'hmem)) := by
    rw [List.getElem?_map, hin]
    show some ((qs.map ptU).getD _ .non) = _
    rw [List.getD_eq_getElem?_getD, List.getElem?_map, List.getElem?_eq_getElem hmem]
    rfl
  have e3 := name_at_ok (L := L1 ++ [.lst ((ordS key qs).map fun i => (qs.map ptU).getD i .non)]) (r := L1.length) (by simp) hat
  have hn : (qs[(ordS key qs).getD k 0]'hmem).1 = nthS key qs k := by
    unfold nthS
    rw [List.getElem?_eq_getElem hmem]; rfl
  rw [hn] at e3
  refine ⟨L1 ++ [.lst ((ordS key qs).map fun i => (qs.map ptU).getD i .non)], ?_, g1.trans (Gw.new _ _)⟩
  rw [hmn]
  exact fnN rfl (ret_ok (own2 e2 rfl e3))
theorem place_of_ok (p : Pt) (L : UH) : m_place_of [ptU p] L = some (tupI (keyX p.2), L) := fnN rfl (ret_ok (tup2 (f2_ok rfl rfl (ix1 p L)) (f2_ok rfl rfl (ix2 p L))))
theorem turned_of_ok (p : Pt) (L : UH) : m_turned_place_of [ptU p] L = some (tupI (keyY p.2), L) := fnN rfl (ret_ok (tup2 (f2_ok rfl rfl (ix2 p L)) (f2_ok rfl rfl (ix1 p L))))
theorem nth_x_ok {ps : List Pt} {b : Bx} {k : Nat} (hl : ps.length ≤ 60) (hlt : k < cntB ps b) (L : UH) : ∃ L', m_nth_by_x [.tup (ps.map ptU), bxU b, .int k] L = some (.str (nthS keyX (ps.filter (inB b)) k), L') ∧ Gw L L' :=
  nth_any (mk := m_place_of) rfl place_of_ok (fun q h => by cases h) hl hlt L
theorem nth_y_ok {ps : List Pt} {b : Bx} {k : Nat} (hl : ps.length ≤ 60) (hlt : k < cntB ps b) (L : UH) : ∃ L', m_nth_by_y [.tup (ps.map ptU), bxU b, .int k] L = some (.str (nthS keyY (ps.filter (inB b)) k), L') ∧ Gw L L' :=
  nth_any (mk := m_turned_place_of) rfl turned_of_ok (fun q h => by cases h) hl hlt L
end Lw
set_option Elab.async false
set_option linter.all false
set_option maxRecDepth 100000
set_option maxHeartbeats 1000000
namespace Lw
open PySem L2 MR
theorem numT_len {n : Int} (h : fmtOk n = true) : (numT n).length ≤ 40 := by
  unfold fmtOk at h
  simp only [Bool.and_eq_true, decide_eq_true_eq] at h
  have e : (numT n).length = (toString n).length := by
    unfold numT
    rw [show (Str.ofString (toString n)).length = (Str.ofString (toString n)).cps.toList.length from by simp [Str.length], Str.ofString_eq_toList, List.toList_toArray, List.length_map, String.length_toList]
  rw [e]
  have hp : (10 : Nat) ^ 21 = 1000000000000000000000 := by decide
  have k : ∀ m : Nat, m ≤ 100000000000000000000 → (Nat.repr m).length ≤ 21 := fun m hm => (Nat.length_repr_le_iff (by decide)).mpr (by rw [hp]; omega)
  cases n with
  | ofNat m =>
    have := k m (by have := h.2; simp only [Int.ofNat_eq_natCast] at this; omega)
    show (Nat.repr m).length ≤ 40
    omega
  | negSucc m =>
    have := k (m + 1) (by have := h.1; omega)
    show ("-" ++ Nat.repr (m + 1)).length ≤ 40
    rw [String.length_append]
    have h1 : ("-" : String).length = 1 := rfl
    omega
theorem strApp (a b : Str) : (a ++ b).length = a.length + b.length := by
  show (a.cps ++ b.cps).size = a.cps.size + b.cps.size
  rw [Array.size_append]
theorem goJ_small {δ : UE} {L : UH} : ∀ (fs : List FE) (out : Str), (∀ f ∈ fs, ∃ x : Str, f δ L = some (.str x, L) ∧ x.length ≤ 1000) → out.length + 1000 * fs.length ≤ 16777216 → ∃ s, goJ out fs δ L = some (.str s, L)
  | [], out, _, _ => ⟨out, rfl⟩
  | f :: r, out, h, hl => by
    obtain ⟨x, e, hx⟩ := h f List.mem_cons_self
    rw [List.length_cons] at hl
    have hb : (out ++ x).length + 1000 * r.length ≤ 16777216 := by rw [strApp]; omega
    obtain ⟨s, hs⟩ := goJ_small r (out ++ x) (fun g hg => h g (List.mem_cons_of_mem _ hg)) hb
    refine ⟨s, ?_⟩
    unfold goJ
    simp only [e, Option.bind_some]
    rw [if_pos (small_of (by omega)), hs]
theorem joined_ok {δ : UE} {L : UH} (fs : List FE) (h : ∀ f ∈ fs, ∃ x : Str, f δ L = some (.str x, L) ∧ x.length ≤ 1000) (hl : fs.length ≤ 100) : ∃ s, fJoined fs δ L = some (.str s, L) := goJ_small fs Str.empty h (by show 0 + _ ≤ _; omega)
theorem fmt_int {δ : UE} {L : UH} {f : FE} {n : Int} (h : f δ L = some (.int n, L)) (hf : fmtOk n = true) : ∃ x : Str, fFmt f δ L = some (.str x, L) ∧ x.length ≤ 1000 := by
  refine ⟨numT n, ?_, Nat.le_trans (numT_len hf) (by decide)⟩
  unfold fFmt
  simp only [h, Option.bind_some]
  rw [if_pos hf]
theorem fC_str {δ : UE} {L : UH} (x : Str) (h : x.length ≤ 1000) : ∃ y : Str, fC (.str x) δ L = some (.str y, L) ∧ y.length ≤ 1000 := ⟨x, rfl, h⟩
theorem joined3 {δ : UE} {L : UH} {a b c : FE} (ha : ∃ x : Str, a δ L = some (.str x, L) ∧ x.length ≤ 1000) (hb : ∃ x : Str, b δ L = some (.str x, L) ∧ x.length ≤ 1000) (hc : ∃ x : Str, c δ L = some (.str x, L) ∧ x.length ≤ 1000) : ∃ s, fJoined [a, b, c] δ L = some (.str s, L) :=
  joined_ok _ (fun f hf => by
    rcases List.mem_cons.mp hf with rfl | hf
    · exact ha
    · rcases List.mem_cons.mp hf with rfl | hf
      · exact hb
      · rcases List.mem_cons.mp hf with rfl | hf
        · exact hc
        · cases hf) (by show 3 ≤ 100; decide)
theorem handon_ok {C : Str} {Cs : List Str} (hC : C ∈ Cs) (u : U) (M : UH) : fnU 2 2 (fDrop (fBInitC Cs (fCons (fVar 0) (fCons (fVar 1) fNil)))) [.ref M.length, u] (M ++ [.exc C true []]) = some (.non, M ++ [.exc C true []]) := by
  have h1 : (M ++ [HU.exc C true []])[M.length]? = some (.exc C true []) := by simp
  have h2 : (fBInitC Cs (fCons (fVar 0) (fCons (fVar 1) fNil))) [some (.ref M.length), some u] (M ++ [.exc C true []]) = some (.non, M ++ [.exc C true []]) := by
    unfold fBInitC
    simp only [fCons_eq, fNil_eq, fVar_eq, List.getElem?_cons_succ, List.getElem?_cons_zero, Option.join_some, Option.map_some, Option.bind_some, h1]
    rw [if_pos hC]
  unfold fnU
  simp only [List.length_cons, List.length_nil, if_true, List.map_cons, List.map_nil, Nat.sub_self, List.replicate_zero, List.append_nil]
  rw [fDrop_eq, h2]
  rfl
theorem makeX_ok {C : Str} {F : FN} {g : FA} {δ : UE} {L L1 : UH} {u : U} {fs : List (Str × U)} (hg : g δ L = some ([u], L1)) (hF : F [.ref L1.length, u] (L1 ++ [.exc C true []]) = some (.non, L1 ++ [.exc C true fs])) :
    fMakeX C 2 F g δ L = some (.ref L1.length, L1 ++ [.exc C true fs]) := by
  unfold fMakeX
  simp only [hg, Option.bind_some]
  rw [if_pos ⟨rfl, by simp⟩, hF]
  rfl
theorem raiseX_ok {C : Str} {Cs : List Str} {F : FN} {g : FA} {δ : UE} {L L1 : UH} {u : U} {fs : List (Str × U)} (hC : C ∈ Cs) (hg : g δ L = some ([u], L1)) (hF : F [.ref L1.length, u] (L1 ++ [.exc C true []]) = some (.non, L1 ++ [.exc C true fs])) :
    xRaise Cs (fMakeX C 2 F g) δ L = some (L1.length, δ, L1 ++ [.exc C false fs]) := by
  have h1 : (L1 ++ [HU.exc C true fs])[L1.length]? = some (.exc C true fs) := by simp
  unfold xRaise
  rw [makeX_ok hg hF]
  simp only [Option.bind_some, h1]
  rw [if_pos hC]
  simp
theorem fnX_ok {N m n : Nat} {x : XS} {us : List U} {L L' : UH} {δ' : UE} (hl : us.length = m) (h : x (us.map some ++ List.replicate (N - us.length) none) L = some (n, δ', L')) : fnX N m x us L = some (n, L') := by
  unfold fnX
  rw [if_pos hl, h]
  rfl
theorem fnX_no {N m : Nat} {x : XS} {us : List U} {L : UH} (hl : us.length = m) (h : x (us.map some ++ List.replicate (N - us.length) none) L = none) : fnX N m x us L = none := by
  unfold fnX
  rw [if_pos hl, h]
  rfl
theorem xIf_t {c : FT} {x y : XS} {δ : UE} {L L1 : UH} (h : c δ L = some (true, L1)) : xIf c x y δ L = x δ L1 := by unfold xIf; rw [h]; rfl
theorem xIf_f {c : FT} {x y : XS} {δ : UE} {L L1 : UH} (h : c δ L = some (false, L1)) : xIf c x y δ L = y δ L1 := by unfold xIf; rw [h]; rfl
theorem xSeq_hit {f : FS} {x y : XS} {δ : UE} {L : UH} {r : Nat × UE × UH} (h : x δ L = some r) : xSeq f x y δ L = some r := by unfold xSeq; rw [h]
theorem xSeq_no {x : XS} {δ : UE} {L : UH} (h : x δ L = none) : xSeq fNever x xNo δ L = none := by unfold xSeq; rw [h]; rfl
theorem xOf_hit {x : XE} {δ : UE} {L L' : UH} {n : Nat} (h : x δ L = some (n, L')) : xOf x δ L = some (n, δ, L') := by unfold xOf; rw [h]; rfl
theorem xOf_no {x : XE} {δ : UE} {L : UH} (h : x δ L = none) : xOf x δ L = none := by unfold xOf; rw [h]; rfl
theorem try_hit {b suite : FS} {x : XS} {Cs : List Str} {i n : Nat} {δ δ1 δ2 : UE} {L L1 L2 : UH} {C : Str} {fr : Bool} {fs : List (Str × U)} (h : x δ L = some (n, δ1, L1)) (hL : L1[n]? = some (.exc C fr fs)) (hC : C ∈ Cs)
    (hs : suite (δ1.set i (some (.ref n))) L1 = some (.nx δ2, L2)) : fTry b x Cs i suite δ L = some (.nx (δ2.set i none), L2) := by
  unfold fTry
  simp only [h, hL]
  rw [if_pos hC, hs]
  rfl
theorem try_no {b suite : FS} {x : XS} {Cs : List Str} {i : Nat} {δ : UE} {L : UH} (h : x δ L = none) : fTry b x Cs i suite δ L = b δ L := by unfold fTry; rw [h]
theorem excAt_ok2 {Cs : List Str} {L : UH} {n : Nat} {C : Str} {fr : Bool} {fs : List (Str × U)} (hL : L[n]? = some (.exc C fr fs)) (hC : C ∈ Cs) : excAt Cs (.ref n) L = some (n, C, fs) := by
  unfold excAt
  simp only [hL]
  rw [if_pos hC]
theorem isX_is {Cs : List Str} {D C : Str} {f : FE} {δ : UE} {L : UH} {n : Nat} {fr : Bool} {fs : List (Str × U)} (h : f δ L = some (.ref n, L)) (hL : L[n]? = some (.exc C fr fs)) (hC : C ∈ Cs) : fIsX Cs D f δ L = some (.bl (isX C D), L) := by
  unfold fIsX
  simp only [h, Option.bind_some, excAt_ok2 hL hC, Option.map_some]
theorem isXT_is {Cs Dn : List Str} {C : Str} {f : FE} {δ : UE} {L : UH} {n : Nat} {fr : Bool} {fs : List (Str × U)} (h : f δ L = some (.ref n, L)) (hL : L[n]? = some (.exc C fr fs)) (hC : C ∈ Cs) : fIsXT Cs Dn f δ L = some (.bl (Dn.any (isX C)), L) := by
  unfold fIsXT
  simp only [h, Option.bind_some, excAt_ok2 hL hC, Option.map_some]
noncomputable abbrev Cs5 : List Str := ["NoPlace", "NoAsk", "NoPoints", "NoCounts", "NoName"]
theorem np_in : ("NoPlace" : Str) ∈ Cs5 := by decide
theorem place_init (u : U) (M : UH) : m_NoPlace___init__ [.ref M.length, u] (M ++ [.exc "NoPlace" true []]) = some (.non, M ++ [.exc "NoPlace" true []]) := handon_ok np_in u M
theorem xlen1 : Str.length "there is no point at place " ≤ 1000 := by decide +kernel
theorem xlen2 : Str.length " in this box" ≤ 1000 := by decide +kernel
noncomputable def oneX (L : UH) : UH := L ++ [.exc "NoPlace" false []]
theorem oneX_at (L : UH) : (oneX L)[L.length]? = some (.exc "NoPlace" false []) := by simp [oneX]
theorem oneX_gw (L : UH) : Gw L (oneX L) := Gw.new L _
theorem alone_ok {L : UH} {k : Nat} {fr : Bool} {fs : List (Str × U)} (hL : L[k]? = some (.exc "NoPlace" fr fs)) : m_l_alone [.ref k] L = some (.bl true, L) := by
  have i1 : ∀ D, fIsX Cs5 D (fVar 0) [some (.ref k)] L = some (.bl (isX "NoPlace" D), L) := fun D => isX_is rfl hL np_in
  have i2 : fIsXT Cs5 ["NoAsk", "NoCounts", "NoName", "NoPoints"] (fVar 0) [some (.ref k)] L = some (.bl ((["NoAsk", "NoCounts", "NoName", "NoPoints"] : List Str).any (isX "NoPlace")), L) := isXT_is rfl hL np_in
  have a1 : isX "NoPlace" "NoPlace" = true := by decide
  have a2 : isX "NoPlace" "BelowError" = true := by decide
  have a3 : isX "NoPlace" "ValueError" = true := by decide
  have a4 : (["NoAsk", "NoCounts", "NoName", "NoPoints"] : List Str).any (isX "NoPlace") = false := by decide
  rw [a4] at i2
  have j1 := i1 "NoPlace"
  have j2 := i1 "BelowError"
  have j3 := i1 "ValueError"
  rw [a1] at j1
  rw [a2] at j2
  rw [a3] at j3
  unfold m_l_alone fnU b_l_alone
  simp only [List.length_cons, List.length_nil, if_true, List.map_cons, List.map_nil, Nat.sub_self, List.replicate_zero, List.append_nil]
  have s1 : (fIfS (fOr (fNot (fTru (fIsX Cs5 "NoPlace" (fVar 0)))) (fOr (fNot (fTru (fIsX Cs5 "BelowError" (fVar 0)))) (fNot (fTru (fIsX Cs5 "ValueError" (fVar 0)))))) (fRet (fC (.bl false))) fNext) [some (.ref k)] L = some (.nx [some (.ref k)], L) := by
    simp only [fIfS_eq, fOr_eq, fNot_eq, fTru_eq, j1, j2, j3, Option.bind_some, truU_bl, Option.map_some, Bool.not_true, Bool.false_eq_true, if_false, fNext_eq]
  rw [fSeq_nx s1, fRet_eq, fNotV_eq, i2]
  rfl
theorem na_test {L : UH} {r : Nat} {us : List U} {p : Int} (hr : L[r]? = some (.lst us)) : (fOr (fTest (f2 semLt (fVar 1) (fC (.int 0)))) (fTest (f2 semGe (fVar 1) (fCall semLen (fCons (fVar 0) fNil))))) [some (.ref r), some (.int p)] L = some (decide (p < 0) || decide ((us.length : Int) ≤ p), L) := by
  have c1 : (fTest (f2 semLt (fVar 1) (fC (.int 0)))) [some (.ref r), some (.int p)] L = some (decide (p < 0), L) := rfl
  have c2 : (fTest (f2 semGe (fVar 1) (fCall semLen (fCons (fVar 0) fNil)))) [some (.ref r), some (.int p)] L = some (decide ((us.length : Int) ≤ p), L) := test_ok (f2_ok rfl (call1 rfl (len_lst hr)) rfl)
  rw [fOr_eq, c1]
  cases decide (p < 0)
  · exact c2
  · rfl
theorem name_at_x {L : UH} {r : Nat} {us : List U} {p : Int} (hr : L[r]? = some (.lst us)) (h : p < 0 ∨ (us.length : Int) ≤ p) (hf : fmtOk p = true) : x_name_at [.ref r, .int p] L = some (L.length, oneX L) := by
  have ht := na_test (p := p) hr
  have hb : (decide (p < 0) || decide ((us.length : Int) ≤ p)) = true := by
    rcases h with h | h <;> simp [h]
  rw [hb] at ht
  obtain ⟨s, hs⟩ := joined3 (δ := [some (.ref r), some (.int p)]) (L := L) (fC_str "there is no point at place " xlen1) (fmt_int (f := fVar 1) rfl hf) (fC_str " in this box" xlen2)
  have hr := raiseX_ok (C := "NoPlace") (Cs := Cs5) (F := m_NoPlace___init__) (g := fCons (fJoined [(fC (.str "there is no point at place ")), (fFmt (fVar 1)), (fC (.str " in this box"))]) fNil) (δ := [some (.ref r), some (.int p)]) (L := L) (L1 := L) (u := .str s) (fs := []) np_in (by rw [fCons_eq, hs]; rfl) (place_init _ _)
  refine fnX_ok rfl (δ' := [some (.ref r), some (.int p)]) ?_
  show xb_name_at [some (.ref r), some (.int p)] L = _
  unfold xb_name_at
  refine xSeq_hit ?_
  rw [xIf_t ht]
  exact hr
theorem name_at_no {L : UH} {r : Nat} {us : List U} {p : Int} (hr : L[r]? = some (.lst us)) (h1 : 0 ≤ p) (h2 : p < us.length) : x_name_at [.ref r, .int p] L = none := by
  have ht := na_test (p := p) hr
  have hb : (decide (p < 0) || decide ((us.length : Int) ≤ p)) = false := by
    have : ¬ p < 0 := by omega
    have : ¬ (us.length : Int) ≤ p := by omega
    simp [*]
  rw [hb] at ht
  refine fnX_no rfl ?_
  show xb_name_at [some (.ref r), some (.int p)] L = _
  unfold xb_name_at
  refine xSeq_no ?_
  rw [xIf_f ht]
  rfl
theorem xown {k : Nat} {F : XN} {g : FA} {δ : UE} {L L1 : UH} {us : List U} {z : Option (Nat × UH)} (hg : g δ L = some (us, L1)) (hk : us.length = k) (hF : F us L1 = z) : xOwn k F g δ L = z := by
  unfold xOwn
  simp only [hg, Option.bind_some, hk, if_true, hF]
theorem nth_any_x {mk : FN} {xn : XN} {key : Int × Int → List Int} {ps : List Pt} {b : Bx} {p : Int} (hxn : xn = fnX 3 3 (xOf (xOwn 2 x_name_at (fCons (fSortK mk (fOwn 2 m_points_in (fCons (fVar 0) (fCons (fVar 1) fNil)))) (fCons (fVar 2) fNil)))))
    (hk : ∀ (p : Pt) (M : UH), mk [ptU p] M = some (tupI (key p.2), M)) (hne : ∀ q, key q ≠ []) (hl : ps.length ≤ 60) (L : UH) :
    ((0 ≤ p ∧ p < cntB ps b) → xn [.tup (ps.map ptU), bxU b, .int p] L = none) ∧
    ((p < 0 ∨ (cntB ps b : Int) ≤ p) → fmtOk p = true → ∃ (n : Nat) (L' : UH), xn [.tup (ps.map ptU), bxU b, .int p] L = some (n, L') ∧ L'[n]? = some (.exc "NoPlace" false []) ∧ Gw L L') := by
  obtain ⟨r, L1, e1, hr, g1⟩ := points_in_ok (ps := ps) (by omega) b L
  have hq : (ps.filter (inB b)).length ≤ 60 := Nat.le_trans (List.length_filter_le _ _) hl
  have hc : cntB ps b = (ps.filter (inB b)).length := rfl
  rw [hc]
  generalize ps.filter (inB b) = qs at hr hq
  have e2 : (fSortK mk (fOwn 2 m_points_in (fCons (fVar 0) (fCons (fVar 1) fNil)))) [some (.tup (ps.map ptU)), some (bxU b), some (.int p)] L = some (.ref L1.length, L1 ++ [.lst ((ordS key qs).map fun i => (qs.map ptU).getD i .non)]) := map_sort hk hne (own2 rfl rfl e1) hr (by omega)
  have hus : ((ordS key qs).map fun i => (qs.map ptU).getD i .non).length = qs.length := by rw [List.length_map, ord_len]
  generalize ((ordS key qs).map fun i => (qs.map ptU).getD i .non) = us at e2 hus
  have hat : (L1 ++ [HU.lst us])[L1.length]? = some (.lst us) := by simp
  have hg : (fCons (fSortK mk (fOwn 2 m_points_in (fCons (fVar 0) (fCons (fVar 1) fNil)))) (fCons (fVar 2) fNil)) [some (.tup (ps.map ptU)), some (bxU b), some (.int p)] L = some ([.ref L1.length, .int p], L1 ++ [HU.lst us]) := by
    rw [fCons_eq, e2]; rfl
  refine ⟨fun ⟨h1, h2⟩ => ?_, fun h hf => ⟨(L1 ++ [HU.lst us]).length, oneX (L1 ++ [HU.lst us]), ?_, oneX_at _, (g1.trans (Gw.new _ _)).trans (oneX_gw _)⟩⟩
  · rw [hxn]
    exact fnX_no rfl (xOf_no (xown hg rfl (name_at_no hat h1 (by omega))))
  · rw [hxn]
    exact fnX_ok (δ' := [some (.tup (ps.map ptU)), some (bxU b), some (.int p)]) rfl (xOf_hit (xown hg rfl (name_at_x hat (by omega) hf)))
noncomputable def keyB (z : Bool) : Int × Int → List Int := if z then keyX else keyY
theorem told_yes {ps : List Pt} {b : Bx} {k : Nat} (z : Bool) (hl : ps.length ≤ 60) (hlt : k < cntB ps b) (L : UH) : ∃ L', m_l_told [.tup (ps.map ptU), bxU b, .int k, .bl z] L = some (.str (nthS (keyB z) (ps.filter (inB b)) k), L') ∧ Gw L L' := by
  obtain ⟨LX, ex, gx⟩ := nth_x_ok hl hlt L
  obtain ⟨LY, ey, gy⟩ := nth_y_ok hl hlt L
  have nx := (nth_any_x (mk := m_place_of) (xn := x_nth_by_x) (ps := ps) (b := b) (p := k) rfl place_of_ok (fun q h => by cases h) hl L).1 ⟨by omega, by omega⟩
  have ny := (nth_any_x (mk := m_turned_place_of) (xn := x_nth_by_y) (ps := ps) (b := b) (p := k) rfl turned_of_ok (fun q h => by cases h) hl L).1 ⟨by omega, by omega⟩
  have s1 : (fAsg (fC .non) (gN 4)) [some (.tup (ps.map ptU)), some (bxU b), some (.int k), some (.bl z), none, none, none] L = some (.nx [some (.tup (ps.map ptU)), some (bxU b), some (.int k), some (.bl z), some .non, none, none], L) := rfl
  have s2 : (fAsg (fC .non) (gN 5)) [some (.tup (ps.map ptU)), some (bxU b), some (.int k), some (.bl z), some .non, none, none] L = some (.nx [some (.tup (ps.map ptU)), some (bxU b), some (.int k), some (.bl z), some .non, some .non, none], L) := rfl
  have tz : (fTru (fVar 3)) [some (.tup (ps.map ptU)), some (bxU b), some (.int k), some (.bl z), some .non, some .non, none] L = some (z, L) := rfl
  have g3 : (fCons (fVar 0) (fCons (fVar 1) (fCons (fVar 2) fNil))) [some (.tup (ps.map ptU)), some (bxU b), some (.int k), some (.bl z), some .non, some .non, none] L = some ([.tup (ps.map ptU), bxU b, .int k], L) := rfl
  have hx : b_l_told_1x [some (.tup (ps.map ptU)), some (bxU b), some (.int k), some (.bl z), some .non, some .non, none] L = none := by
    unfold b_l_told_1x
    cases z with
    | true => rw [xIf_t tz]; exact xOf_no (xown g3 rfl nx)
    | false => rw [xIf_f tz]; exact xOf_no (xown g3 rfl ny)
  obtain ⟨L', eb, g⟩ : ∃ L', b_l_told_1 [some (.tup (ps.map ptU)), some (bxU b), some (.int k), some (.bl z), some .non, some .non, none] L = some (.nx [some (.tup (ps.map ptU)), some (bxU b), some (.int k), some (.bl z), some (.str (nthS (keyB z) (ps.filter (inB b)) k)), some .non, none], L') ∧ Gw L L' := by
    unfold b_l_told_1
    cases z with
    | true =>
      refine ⟨LX, ?_, gx⟩
      rw [fIfS_eq, tz]
      exact setN (i := 4) (own3v (fun _ => rfl) (fun _ => rfl) (fun _ => rfl) ex)
    | false =>
      refine ⟨LY, ?_, gy⟩
      rw [fIfS_eq, tz]
      exact setN (i := 4) (own3v (fun _ => rfl) (fun _ => rfl) (fun _ => rfl) ey)
  have s3 := (try_no (b := b_l_told_1) (suite := b_l_told_1h) (Cs := Cs5) (i := 6) hx).trans eb
  refine ⟨L', fnN rfl ?_, g⟩
  unfold b_l_told
  show fSeq _ _ [some (.tup (ps.map ptU)), some (bxU b), some (.int k), some (.bl z), none, none, none] L = _
  rw [fSeq_nx s1, fSeq_nx s2, fSeq_nx s3, fSeq_nx (if_no rfl)]
  rfl
theorem told_no {ps : List Pt} {b : Bx} {p : Int} (z : Bool) (hl : ps.length ≤ 60) (h : p < 0 ∨ (cntB ps b : Int) ≤ p) (hf : fmtOk p = true) (L : UH) : ∃ L', m_l_told [.tup (ps.map ptU), bxU b, .int p, .bl z] L = some (.tup [.str "refused"], L') ∧ Gw L L' := by
  obtain ⟨n1, LX, ex, ax, gx⟩ := (nth_any_x (mk := m_place_of) (xn := x_nth_by_x) (ps := ps) (b := b) (p := p) rfl place_of_ok (fun q h => by cases h) hl L).2 h hf
  obtain ⟨n2, LY, ey, ay, gy⟩ := (nth_any_x (mk := m_turned_place_of) (xn := x_nth_by_y) (ps := ps) (b := b) (p := p) rfl turned_of_ok (fun q h => by cases h) hl L).2 h hf
  have s1 : (fAsg (fC .non) (gN 4)) [some (.tup (ps.map ptU)), some (bxU b), some (.int p), some (.bl z), none, none, none] L = some (.nx [some (.tup (ps.map ptU)), some (bxU b), some (.int p), some (.bl z), some .non, none, none], L) := rfl
  have s2 : (fAsg (fC .non) (gN 5)) [some (.tup (ps.map ptU)), some (bxU b), some (.int p), some (.bl z), some .non, none, none] L = some (.nx [some (.tup (ps.map ptU)), some (bxU b), some (.int p), some (.bl z), some .non, some .non, none], L) := rfl
  have tz : (fTru (fVar 3)) [some (.tup (ps.map ptU)), some (bxU b), some (.int p), some (.bl z), some .non, some .non, none] L = some (z, L) := rfl
  have g3 : (fCons (fVar 0) (fCons (fVar 1) (fCons (fVar 2) fNil))) [some (.tup (ps.map ptU)), some (bxU b), some (.int p), some (.bl z), some .non, some .non, none] L = some ([.tup (ps.map ptU), bxU b, .int p], L) := rfl
  obtain ⟨n, L', hx, hat, g⟩ : ∃ n L', b_l_told_1x [some (.tup (ps.map ptU)), some (bxU b), some (.int p), some (.bl z), some .non, some .non, none] L = some (n, [some (.tup (ps.map ptU)), some (bxU b), some (.int p), some (.bl z), some .non, some .non, none], L') ∧ L'[n]? = some (.exc "NoPlace" false []) ∧ Gw L L' := by
    unfold b_l_told_1x
    cases z with
    | true =>
      refine ⟨n1, LX, ?_, ax, gx⟩
      rw [xIf_t tz]; exact xOf_hit (xown g3 rfl ex)
    | false =>
      refine ⟨n2, LY, ?_, ay, gy⟩
      rw [xIf_f tz]; exact xOf_hit (xown g3 rfl ey)
  have s3 := try_hit (b := b_l_told_1) (suite := b_l_told_1h) (Cs := Cs5) (i := 6) (δ2 := [some (.tup (ps.map ptU)), some (bxU b), some (.int p), some (.bl z), some .non, some (.ref n), some (.ref n)]) (L2 := L') hx hat np_in rfl
  simp only [List.set_cons_succ, List.set_cons_zero] at s3
  have c1 : (fTest (f2 semNotN (fVar 5) (fC .non))) [some (.tup (ps.map ptU)), some (bxU b), some (.int p), some (.bl z), some .non, some (.ref n), none] L' = some (true, L') := rfl
  have r1 : (fTup (fCons (fC (.str "refused")) fNil)) [some (.tup (ps.map ptU)), some (bxU b), some (.int p), some (.bl z), some .non, some (.ref n), none] L' = some (.tup [.str "refused"], L') := tup1 rfl
  have r2 : (fLst (fCons (fC (.int 0)) (fCons (fTup (fCons (fC (.str "refused")) fNil)) fNil))) [some (.tup (ps.map ptU)), some (bxU b), some (.int p), some (.bl z), some .non, some (.ref n), none] L' = some (.ref L'.length, L' ++ [.lst [.int 0, .tup [.str "refused"]]]) := by
    rw [fLst_eq, fCons_eq, fC_eq]
    simp only [Option.bind_some, fCons_eq, r1, fNil_eq, Option.map_some]
    rw [if_pos (small_of (by show 2 ≤ 16777216; decide))]
  have a1 := alone_ok (L := L' ++ [.lst [.int 0, .tup [.str "refused"]]]) (k := n) (fr := false) (fs := []) ((Gw.new _ _).get hat)
  have r3 : (fCall semInt (fCons (fOwn 1 m_l_alone (fCons (fVar 5) fNil)) fNil)) [some (.tup (ps.map ptU)), some (bxU b), some (.int p), some (.bl z), some .non, some (.ref n), none] (L' ++ [.lst [.int 0, .tup [.str "refused"]]]) = some (.int 1, L' ++ [.lst [.int 0, .tup [.str "refused"]]]) := call1 (own1 rfl a1) rfl
  refine ⟨L' ++ [.lst [.int 0, .tup [.str "refused"]]], fnN rfl ?_, g.trans (Gw.new _ _)⟩
  unfold b_l_told
  show fSeq _ _ [some (.tup (ps.map ptU)), some (bxU b), some (.int p), some (.bl z), none, none, none] L = _
  rw [fSeq_nx s1, fSeq_nx s2, fSeq_nx s3]
  have r4 := ret_ok (f2_ok (s := semIx) r2 r3 (ix_ref (l := [.int 0, .tup [.str "refused"]]) (i := 1) (u := .tup [.str "refused"]) (by simp) rfl))
  have s4 : (fIfS (fTest (f2 semNotN (fVar 5) (fC .non))) (fRet (f2 semIx (fLst (fCons (fC (.int 0)) (fCons (fTup (fCons (fC (.str "refused")) fNil)) fNil))) (fCall semInt (fCons (fOwn 1 m_l_alone (fCons (fVar 5) fNil)) fNil)))) fNext) [some (.tup (ps.map ptU)), some (bxU b), some (.int p), some (.bl z), some .non, some (.ref n), none] L' = some (.rt (.tup [.str "refused"]), L' ++ [.lst [.int 0, .tup [.str "refused"]]]) := by
    rw [fIfS_eq, c1]; exact r4
  rw [fSeq_eq, s4]
  rfl
end Lw
set_option Elab.async false
set_option linter.all false
set_option maxRecDepth 100000
set_option maxHeartbeats 1000000
namespace Lw
open PySem L2 MR
noncomputable abbrev Rw := (Int × Int × Int) × Str
noncomputable def k3 (r : Rw) : List Int := [r.1.1, r.1.2.1, r.1.2.2]
noncomputable def rwU (r : Rw) : U := .tup [.int r.1.1, .int r.1.2.1, .int r.1.2.2, .str r.2]
noncomputable def ltB (o q : Rw) : Bool := ltT (k3 o) (k3 q)
theorem ltB_tr {a b q : Rw} (h : leT (k3 a) (k3 b)) (hb : ltB b q = true) : ltB a q = true := by
  unfold ltB at hb ⊢
  cases hc : ltT (k3 a) (k3 q) with
  | true => rfl
  | false => have := ltT_tr (k3 q) (k3 a) (k3 b) hc h; rw [this] at hb; cases hb
theorem prefixR (q : Rw) : ∀ fl : List Rw, (fl.map k3).Pairwise leT → (∀ o ∈ fl.take (fl.filter fun o => ltB o q).length, leT (k3 o) (k3 q)) ∧ ∀ o ∈ fl.drop (fl.filter fun o => ltB o q).length, leT (k3 q) (k3 o)
  | [], _ => by simp
  | a :: fl, h => by
    rw [List.map_cons] at h
    obtain ⟨h1, h2⟩ := List.pairwise_cons.mp h
    cases ha : ltB a q with
    | true =>
      obtain ⟨i1, i2⟩ := prefixR q fl h2
      rw [List.filter_cons_of_pos (by exact ha), List.length_cons, List.take_succ_cons, List.drop_succ_cons]
      refine ⟨fun o ho => ?_, i2⟩
      rcases List.mem_cons.mp ho with e | e
      · subst e
        exact ltT_asym _ _ ha
      · exact i1 o e
    | false =>
      have hno : ∀ o ∈ a :: fl, ltB o q = false := fun o ho => by
        rcases List.mem_cons.mp ho with e | e
        · subst e; exact ha
        · cases hq : ltB o q with
          | false => rfl
          | true => rw [ltB_tr (h1 _ (List.mem_map_of_mem e)) hq] at ha; cases ha
      have hf : (a :: fl).filter (fun o => ltB o q) = [] := List.filter_eq_nil_iff.mpr fun o ho => by rw [hno o ho]; simp
      rw [hf]
      refine ⟨by simp, fun o ho => hno o (by simpa using ho)⟩
noncomputable def insR (fl : List Rw) (q : Rw) : List Rw := fl.take (fl.filter fun o => ltB o q).length ++ q :: fl.drop (fl.filter fun o => ltB o q).length
theorem insR_perm (fl : List Rw) (q : Rw) : (insR fl q).Perm (fl ++ [q]) := by
  unfold insR
  refine List.perm_middle.trans ?_
  rw [List.take_append_drop]
  exact (List.perm_append_comm (l₁ := [q]) (l₂ := fl))
theorem insR_sorted {fl : List Rw} (q : Rw) (h : (fl.map k3).Pairwise leT) : ((insR fl q).map k3).Pairwise leT := by
  obtain ⟨h1, h2⟩ := prefixR q fl h
  unfold insR
  generalize (fl.filter fun o => ltB o q).length = c at h1 h2
  rw [List.map_append, List.map_cons]
  have h' := h
  rw [← List.take_append_drop c fl, List.map_append] at h'
  obtain ⟨s1, s2, s3⟩ := List.pairwise_append.mp h'
  refine List.pairwise_append.mpr ⟨s1, List.pairwise_cons.mpr ⟨fun z hz => ?_, s2⟩, fun a ha z hz => ?_⟩
  · obtain ⟨o, ho, rfl⟩ := List.mem_map.mp hz
    exact h2 o ho
  · obtain ⟨o, ho, rfl⟩ := List.mem_map.mp ha
    rcases List.mem_cons.mp hz with e | e
    · subst e; exact h1 o ho
    · exact s3 _ (List.mem_map_of_mem ho) z e
theorem insert_ok {L : UH} {n : Nat} {l : List U} {i : Nat} (u : U) (h : L[n]? = some (.lst l)) (hi : i ≤ l.length) (hl : l.length < 1000000) : semInsert (.ref n) [.int (i : Int), u] L = some (.non, L.set n (.lst (l.take i ++ u :: l.drop i))) := by
  have hz : l.length < sizeLine := by unfold sizeLine; omega
  have h63 : (i : Int) < 2 ^ 63 := by omega
  show (lstAt L n).bind _ = _
  rw [lstAt_lst h, Option.bind_some, if_pos ⟨Int.natCast_nonneg i, h63, hz⟩, Int.toNat_natCast, Nat.min_eq_left hi]
theorem sl3 (r : Rw) (L : UH) : semSl (rwU r) none (some 3) L = some (.tup ((k3 r).map U.int), L) := rfl
theorem lt3 (o q : Rw) (L : UH) : semLtA (.tup ((k3 o).map U.int)) (.tup ((k3 q).map U.int)) L = some (.bl (ltB o q), L) := rfl
theorem lst0 (δ : UE) (L : UH) : (fLst fNil) δ L = some (.ref L.length, L ++ [.lst []]) := by
  rw [fLst_eq, fNil_eq]; rfl
theorem in_order_ok {L : UH} {n : Nat} {rows : List Rw} (hr : L[n]? = some (.lst (rows.map rwU))) (hl : rows.length ≤ 60) : ∃ (r : Nat) (L' : UH) (fl : List Rw), m_l_in_order [.ref n] L = some (.ref r, L') ∧ L'[r]? = some (.lst (fl.map fun o => U.str o.2)) ∧ fl.Perm rows ∧ (fl.map k3).Pairwise leT ∧ Gw L L' := by
  have hn := (List.getElem?_eq_some_iff.mp hr).1
  obtain ⟨δ', L', e, hP⟩ := for_ref (us := rows.map rwU) (n := n) (L0 := L ++ [.lst []]) (L := L ++ [.lst []]) (δ := [some (.ref n), some (.ref L.length), none, none]) (body := b_l_in_order_2) (g := gN 2) (fi := fSeqI (fVar 0))
    (fun k δ' M => ∃ (y2 y3 : Option U) (fl : List Rw), δ' = [some (.ref n), some (.ref L.length), y2, y3] ∧ M[L.length]? = some (.lst (fl.map rwU)) ∧ fl.Perm (rows.take k) ∧ (fl.map k3).Pairwise leT ∧ Gw L M)
    (by simp only [fSeqI_eq, fVar_eq, List.getElem?_cons_succ, List.getElem?_cons_zero, Option.join_some, Option.map_some, Option.bind_some, iSeqU_ref (seqAt_lst ((Gw.new L [.lst []]).get hr))])
    ⟨none, none, [], rfl, by simp, by simp, by simp, Gw.new _ _⟩
    (fun k δ M ⟨_, _, _, _, _, _, _, gM⟩ => seqAt_lst (gM.get hr))
    (fun k u δ M hu ⟨y2, y3, fl, hδ, hf, hp, hs, gM⟩ => by
      subst hδ
      rw [List.getElem?_map] at hu
      obtain ⟨p, hk, rfl⟩ := Option.map_eq_some_iff.mp hu
      have hfl : fl.length ≤ 100 := by have := hp.length_eq; simp at this; omega
      have hsq := seqAt_lst hf
      obtain ⟨x, e1⟩ := comp_grow (ix := [none, some 2]) (fi := fSeqI (fVar 1)) (it := .ref L.length) (g := gN 0) (tt := some b_l_in_order_3t) (fe := b_l_in_order_3e) (δ := [some (.ref n), some (.ref L.length), some (rwU p), y3]) (L := M) (L0 := M)
        fl rwU (fun o => ltB o p) (fun _ => U.int 1) (fun δ => ∃ a, δ = [a, some (rwU p)]) (by simp only [fSeqI_eq, fVar_eq, List.getElem?_cons_succ, List.getElem?_cons_zero, Option.join_some, Option.map_some, Option.bind_some, iSeqU_ref hsq]) (by rw [size_ref hsq]; simp) (by omega) ⟨none, rfl⟩
        (fun k x => at_ref (seqAt_app hsq))
        (fun o δ x _ ⟨y, hδ⟩ => by
          subst hδ
          refine ⟨[some (rwU o), some (rwU p)], rfl, ⟨_, rfl⟩, [], ?_, fun _ => ⟨[], by simp [b_l_in_order_3e]⟩⟩
          rw [List.append_nil]
          show b_l_in_order_3t _ (M ++ x) = _
          unfold b_l_in_order_3t
          exact test_ok (f2_ok (sl3 o _) (sl3 p _) (lt3 o p _)))
      have gx : Gw M (M ++ x ++ [HU.lst ((fl.filter fun o => ltB o p).map fun _ => U.int 1)]) := (Gw.new _ _).trans (Gw.new _ _)
      have hlen := len_lst (L := M ++ x ++ [HU.lst ((fl.filter fun o => ltB o p).map fun _ => U.int 1)]) (n := (M ++ x).length) (l := (fl.filter fun o => ltB o p).map fun _ => U.int 1) (by simp)
      rw [List.length_map] at hlen
      have hf2 := gx.get hf
      have hcl : (fl.filter fun o => ltB o p).length ≤ (fl.map rwU).length := by rw [List.length_map]; exact List.length_filter_le ..
      have ins := insert_ok (rwU p) hf2 hcl (by rw [List.length_map]; omega)
      have hins : (fl.map rwU).take (fl.filter fun o => ltB o p).length ++ rwU p :: (fl.map rwU).drop (fl.filter fun o => ltB o p).length = (insR fl p).map rwU := by
        unfold insR; simp
      rw [hins] at ins
      have ty := tyU_lst hf2
      have hl2 := (List.getElem?_eq_some_iff.mp hf2).1
      refine ⟨[some (.ref n), some (.ref L.length), some (rwU p), y3], M, rfl, [some (.ref n), some (.ref L.length), some (rwU p), some (.int ((fl.filter fun o => ltB o p).length : Nat))], _, .inl ?_, _, _, insR fl p, rfl, List.getElem?_set_self hl2, ?_, insR_sorted p hs, (gM.trans gx).set (Nat.le_refl _) _⟩
      · have t1 := setN (i := 3) (δ := [some (.ref n), some (.ref L.length), some (rwU p), y3]) (call1 (s := semLen) e1 hlen)
        simp only [List.set_cons_succ, List.set_cons_zero] at t1
        unfold b_l_in_order_2
        rw [fSeq_nx t1]
        generalize M ++ x ++ [HU.lst ((fl.filter fun o => ltB o p).map fun _ => U.int 1)] = M2 at ins ty
        have v1 : fVar 1 [some (.ref n), some (.ref L.length), some (rwU p), some (.int ((fl.filter fun o => ltB o p).length : Nat))] M2 = some (.ref L.length, M2) := rfl
        have v3 : fVar 3 [some (.ref n), some (.ref L.length), some (rwU p), some (.int ((fl.filter fun o => ltB o p).length : Nat))] M2 = some (.int ((fl.filter fun o => ltB o p).length : Nat), M2) := rfl
        have v2 : fVar 2 [some (.ref n), some (.ref L.length), some (rwU p), some (.int ((fl.filter fun o => ltB o p).length : Nat))] M2 = some (rwU p, M2) := rfl
        rw [fDrop_eq, fMeth_eq, v1]
        simp only [Option.bind_some, ty, if_true]
        rw [fCons_eq, v3, Option.bind_some, fCons_eq, v2]
        simp only [Option.bind_some, fNil_eq, Option.map_some, ins]
      · rw [List.take_add_one, hk]
        refine (insR_perm fl p).trans ?_
        simp only [Option.toList_some]
        exact hp.append_right _)
  obtain ⟨y2, y3, fl, hδ, hf, hp, hs, gM⟩ := hP
  rw [List.length_map, List.take_length] at hp
  have hfl : fl.length ≤ 60 := by rw [hp.length_eq]; exact hl
  rw [hδ] at e
  have hsq := seqAt_lst hf
  obtain ⟨x, e1⟩ := comp_grow (ix := [none]) (fi := fSeqI (fVar 1)) (it := .ref L.length) (g := gN 0) (tt := none) (fe := b_l_in_order_1e) (δ := [some (.ref n), some (.ref L.length), y2, y3]) (L := L') (L0 := L')
    fl rwU (fun _ => true) (fun o => U.str o.2) (fun δ => ∃ a, δ = [a]) (by simp only [fSeqI_eq, fVar_eq, List.getElem?_cons_succ, List.getElem?_cons_zero, Option.join_some, Option.map_some, Option.bind_some, iSeqU_ref hsq]) (by rw [size_ref hsq]; simp) (by omega) ⟨none, rfl⟩
    (fun k x => at_ref (seqAt_app hsq))
    (fun o δ x _ ⟨y, hδ⟩ => by
      subst hδ
      refine ⟨[some (rwU o)], rfl, ⟨_, rfl⟩, [], by rw [List.append_nil]; rfl, fun _ => ⟨[], ?_⟩⟩
      rw [List.append_nil, List.append_nil]
      rfl)
  rw [List.filter_eq_self.mpr (fun _ _ => rfl)] at e1
  refine ⟨(L' ++ x).length, L' ++ x ++ [.lst (fl.map fun o => U.str o.2)], fl, ?_, by simp, hp, hs, gM.trans ((Gw.new _ _).trans (Gw.new _ _))⟩
  have s1 := setN (i := 1) (lst0 [some (.ref n), none, none, none] L)
  simp only [List.set_cons_succ, List.set_cons_zero] at s1
  refine fnN rfl ?_
  unfold b_l_in_order
  show fSeq _ _ [some (.ref n), none, none, none] L = _
  rw [fSeq_nx s1, fSeq_nx e]
  exact ret_ok e1
end Lw
set_option Elab.async false
set_option linter.all false
set_option maxRecDepth 100000
set_option maxHeartbeats 1000000
namespace Lw
open PySem L2 MR
noncomputable def eps (ps : List Pt) (b : Bx) : List (Pt × Nat) := ps.zipIdx.filter fun e => inB b e.1
noncomputable def rowOf (z : Bool) (e : Pt × Nat) : Rw := if z then ((e.1.2.1, e.1.2.2, (e.2 : Int)), e.1.1) else ((e.1.2.2, e.1.2.1, (e.2 : Int)), e.1.1)
theorem rowOf_name (z : Bool) (e : Pt × Nat) : (rowOf z e).2 = e.1.1 := by unfold rowOf; cases z <;> rfl
theorem rowOf_k3 (z : Bool) (e : Pt × Nat) : k3 (rowOf z e) = keyB z e.1.2 ++ [(e.2 : Int)] := by unfold rowOf keyB; cases z <;> rfl
theorem eps_fst (ps : List Pt) (b : Bx) : (eps ps b).map (·.1) = ps.filter (inB b) := by
  unfold eps
  have h := List.filter_map (f := fun e : Pt × Nat => e.1) (p := inB b) (l := ps.zipIdx)
  have h2 : ps.zipIdx.map (fun e : Pt × Nat => e.1) = ps := List.zipIdx_map_fst 0 ps
  rw [h2] at h
  exact h.symm
theorem eps_up (ps : List Pt) (b : Bx) : (eps ps b).Pairwise fun a c => a.2 < c.2 := by
  unfold eps
  refine List.Pairwise.sublist List.filter_sublist ?_
  have h : (ps.zipIdx.map (fun e : Pt × Nat => e.2)).Pairwise (· < ·) := by
    rw [List.zipIdx_map_snd]; exact List.pairwise_lt_range'
  exact List.pairwise_map.mp h
theorem eps_inj {ps : List Pt} {b : Bx} {a c : Pt × Nat} (ha : a ∈ eps ps b) (hc : c ∈ eps ps b) (h : a.2 = c.2) : a = c := by
  have ha := (List.mem_filter.mp ha).1
  have hc := (List.mem_filter.mp hc).1
  have e1 := List.mem_zipIdx_iff_getElem?.mp ha
  have e2 := List.mem_zipIdx_iff_getElem?.mp hc
  rw [h, e2] at e1
  obtain ⟨a1, a2⟩ := a
  obtain ⟨c1, c2⟩ := c
  simp only at h e1
  rw [h, Option.some.inj e1]
theorem lt_snoc {a b c d s t : Int} (h : ltT [c, d] [a, b] = false) (h2 : ltT [a, b] [c, d] = false → s ≤ t) : ltT [c, d, t] [a, b, s] = false := by
  simp only [ltT, beq_iff_eq] at h h2 ⊢
  split at h
  · rename_i e
    subst e
    rw [if_pos rfl] at h2 ⊢
    split at h
    · rename_i e
      subst e
      rw [if_pos rfl] at h2 ⊢
      have := h2 rfl
      split
      · rfl
      · simpa using this
    · rename_i e
      rw [if_neg e]; exact h
  · rename_i e
    rw [if_neg e]; exact h
theorem names_is {ps : List Pt} {b : Bx} {z : Bool} {fl : List Rw} (hp : fl.Perm ((eps ps b).map (rowOf z))) (hs : (fl.map k3).Pairwise leT) :
    fl.length = cntB ps b ∧ ∀ k, k < cntB ps b → (fl.map (·.2))[k]? = some (nthS (keyB z) (ps.filter (inB b)) k) := by
  have hq := eps_fst ps b
  have hup := eps_up ps b
  have hinj : ∀ a ∈ eps ps b, ∀ c ∈ eps ps b, a.2 = c.2 → a = c := fun a ha c hc => eps_inj ha hc
  have hc : cntB ps b = (ps.filter (inB b)).length := rfl
  rw [hc]
  generalize ps.filter (inB b) = qs at hq
  generalize eps ps b = es at hp hq hup hinj
  have hel : es.length = qs.length := by rw [← hq, List.length_map]
  have hfl : fl.length = qs.length := by rw [hp.length_eq, List.length_map, hel]
  refine ⟨hfl, ?_⟩
  have hql : ∀ i (h : i < es.length), qs[i]'(by omega) = (es[i]'h).1 := fun i h => by subst hq; rw [List.getElem_map]
  have hat : ∀ i (h : i < es.length), (qs.map fun p => keyB z p.2).getD i [] = keyB z (es[i]'h).1.2 := fun i h => by
    rw [List.getD_eq_getElem?_getD, List.getElem?_map, List.getElem?_eq_getElem (by omega), hql i h]; rfl
  have hop := ord_perm (keyB z) qs
  have hol := ord_len (keyB z) qs
  have hlt : ∀ i ∈ ordS (keyB z) qs, i < es.length := fun i hi => by rw [hel]; exact List.mem_range.mp (hop.mem_iff.mp hi)
  have hst : (ordS (keyB z) qs).Pairwise (SO.Ls (ltK (qs.map fun p => keyB z p.2))) := SO.sortN_stable (ltK_wo _) _
  let at_ : Nat → Rw := fun i => (es.map (rowOf z)).getD i ((0, 0, 0), "")
  have hget : ∀ i (h : i < es.length), at_ i = rowOf z (es[i]'h) := fun i h => by
    show (es.map (rowOf z)).getD i _ = _
    rw [List.getD_eq_getElem?_getD, List.getElem?_map, List.getElem?_eq_getElem h]; rfl
  have hW : ((ordS (keyB z) qs).map at_).Perm (es.map (rowOf z)) := by
    have e2 : (List.range qs.length).map at_ = es.map (rowOf z) := by
      apply List.ext_getElem
      · simp [hel]
      · intro i h1 h2
        rw [List.getElem_map, List.getElem_range, hget i (by simpa using h2), List.getElem_map]
    rw [← e2]
    exact hop.map _
  have hWs : (((ordS (keyB z) qs).map at_).map k3).Pairwise leT := by
    rw [List.map_map]
    refine List.pairwise_map.mpr (List.Pairwise.imp_of_mem (fun {i j} hi hj h => ?_) hst)
    have hi := hlt i hi
    have hj := hlt j hj
    show leT (k3 (at_ i)) (k3 (at_ j))
    rw [hget i hi, hget j hj, rowOf_k3, rowOf_k3]
    obtain ⟨h1, h2⟩ := h
    unfold SO.Le ltK at h1 h2
    rw [hat i hi, hat j hj] at h1 h2
    have ht : i ≤ j → ((es[i]'hi).2 : Int) ≤ ((es[j]'hj).2 : Int) := fun hij => by
      by_cases e : i = j
      · subst e; exact Int.le_refl _
      · have := List.pairwise_iff_getElem.mp hup i j hi hj (by omega); omega
    unfold leT
    unfold keyB at h1 h2 ⊢
    cases z
    · exact lt_snoc h1 fun q => ht (h2 q)
    · exact lt_snoc h1 fun q => ht (h2 q)
  have hk : fl.map k3 = ((ordS (keyB z) qs).map at_).map k3 := sort_same ((hp.trans hW.symm).map _) hs hWs
  have hrow : ∀ r ∈ es.map (rowOf z), ∀ r' ∈ es.map (rowOf z), k3 r = k3 r' → r = r' := fun r hr r' hr' h => by
    obtain ⟨a, ha, rfl⟩ := List.mem_map.mp hr
    obtain ⟨c, hc, rfl⟩ := List.mem_map.mp hr'
    have : a.2 = c.2 := by
      unfold k3 rowOf at h
      cases z <;> simp at h <;> omega
    rw [hinj a ha c hc this]
  intro k hk2
  have k1 : k < fl.length := by omega
  have k2 : k < (ordS (keyB z) qs).length := by omega
  have hkk : k3 (fl[k]'k1) = k3 (at_ ((ordS (keyB z) qs)[k]'k2)) := by
    have h := congrArg (fun l => l[k]?) hk
    simp only [List.getElem?_map, List.getElem?_eq_getElem k1, List.getElem?_eq_getElem k2, Option.map_some, Option.some.injEq] at h
    exact h
  have hoi := hlt _ (List.getElem_mem k2)
  have heq : fl[k]'k1 = at_ ((ordS (keyB z) qs)[k]'k2) := hrow _ (hp.mem_iff.mp (List.getElem_mem k1)) _ (by rw [hget _ hoi]; exact List.mem_map_of_mem (List.getElem_mem hoi)) hkk
  rw [List.getElem?_map, List.getElem?_eq_getElem k1, heq, hget _ hoi]
  unfold nthS
  rw [List.getD_eq_getElem?_getD, List.getElem?_eq_getElem k2]
  have hqi : qs[(ordS (keyB z) qs)[k]'k2]? = some ((es[(ordS (keyB z) qs)[k]'k2]'hoi).1) := by rw [List.getElem?_eq_getElem (by omega), hql _ hoi]
  simp only [Option.map_some, Option.getD_some, hqi, rowOf_name]
end Lw
set_option Elab.async false
set_option linter.all false
set_option maxRecDepth 100000
set_option maxHeartbeats 1000000
namespace Lw
open PySem L2 MR
theorem pl_str {t : Str} (h : PyData.strOk t = true) : Pl 6 (.str t) := by simpa [Pl] using h
theorem ref_ok : PyData.strOk "refused" = true := by decide +kernel
theorem ne_str {t : Str} (h : PyData.strOk t = true) (L : UH) : semNe (.str t) (.str t) L = some (.bl false, L) := by
  rw [semNe_pl L (pl_str h) (pl_str h), eqB_self (pl_str h)]; rfl
theorem ne_ref (L : UH) : semNe (.tup [.str "refused"]) (.tup [.str "refused"]) L = some (.bl false, L) := by
  have h : Pl 6 (.tup [.str "refused"]) := pl_tup.mpr fun u hu => by
    rw [List.mem_singleton.mp hu]
    simpa [Pl] using ref_ok
  rw [semNe_pl L h h, eqB_self h]; rfl
theorem enum_get {ps : List Pt} {k : Nat} {u : U} (h : (enumU (ps.map ptU))[k]? = some u) : ∃ p, ps[k]? = some p ∧ u = .tup [.int (k : Int), ptU p] := by
  unfold enumU at h
  rw [List.getElem?_mapIdx, List.getElem?_map] at h
  cases hp : ps[k]? with
  | none => rw [hp] at h; cases h
  | some p => rw [hp] at h; cases h; exact ⟨p, rfl, rfl⟩
theorem zip_take {ps : List Pt} {k : Nat} {p : Pt} (h : ps[k]? = some p) : ps.zipIdx.take (k + 1) = ps.zipIdx.take k ++ [(p, k)] := by
  rw [List.take_add_one, List.getElem?_zipIdx, h]
  simp
theorem rows_ok {ps : List Pt} (b : Bx) (z : Bool) (far : Int) (hl : ps.length ≤ 60) (L : UH) :
    ∃ (y5 y6 y7 y8 : Option U) (L' : UH), (fFor (fEnumA (fCons (fVar 0) fNil)) (MR.gTup 2 (MR.gCons (gN 5) (MR.gCons (MR.gTup 3 (MR.gCons (gN 6) (MR.gCons (gN 7) (MR.gCons (gN 8) MR.gNil)))) MR.gNil))) b_l_right_2) [some (.tup (ps.map ptU)), some (bxU b), some (.bl z), some (.int far), some (.ref L.length), none, none, none, none, none, none, none, none] (L ++ [.lst []]) =
      some (.nx [some (.tup (ps.map ptU)), some (bxU b), some (.bl z), some (.int far), some (.ref L.length), y5, y6, y7, y8, none, none, none, none], L') ∧ L'[L.length]? = some (.lst (((eps ps b).map (rowOf z)).map rwU)) ∧ Gw L L' := by
  generalize hP : U.tup (ps.map ptU) = P
  have hi : (fEnumA (fCons (fVar 0) fNil)) [some P, some (bxU b), some (.bl z), some (.int far), some (.ref L.length), none, none, none, none, none, none, none, none] (L ++ [.lst []]) = some (.seq (enumU (ps.map ptU)), L ++ [.lst []]) := by
    subst hP; rfl
  obtain ⟨δ', L', e, y5, y6, y7, y8, hδ, hr, g⟩ := for_seq (us := enumU (ps.map ptU)) (body := b_l_right_2) (g := (MR.gTup 2 (MR.gCons (gN 5) (MR.gCons (MR.gTup 3 (MR.gCons (gN 6) (MR.gCons (gN 7) (MR.gCons (gN 8) MR.gNil)))) MR.gNil))))
    (fun k δ' M => ∃ (y5 y6 y7 y8 : Option U), δ' = [some P, some (bxU b), some (.bl z), some (.int far), some (.ref L.length), y5, y6, y7, y8, none, none, none, none] ∧ M[L.length]? = some (.lst ((((ps.zipIdx.take k).filter fun e => inB b e.1).map (rowOf z)).map rwU)) ∧ Gw L M)
    hi ⟨none, none, none, none, rfl, by simp, Gw.new _ _⟩
    (fun k u δ M hu ⟨y5, y6, y7, y8, hδ, hr, g⟩ => by
      subst hδ
      obtain ⟨p, hk, rfl⟩ := enum_get hu
      have hkl := (List.getElem?_eq_some_iff.mp hk).1
      have hz := zip_take hk
      have hil := is_in_ok b p M
      have ht : (fTru (fOwn 3 m_l_is_in (fCons (fVar 1) (fCons (fVar 7) (fCons (fVar 8) fNil))))) [some P, some (bxU b), some (.bl z), some (.int far), some (.ref L.length), some (.int (k : Int)), some (.str p.1), some (.int p.2.1), some (.int p.2.2), none, none, none, none] M = some (inB b p, M) := by
        rw [fTru_eq, own3 rfl rfl rfl hil]; rfl
      refine ⟨[some P, some (bxU b), some (.bl z), some (.int far), some (.ref L.length), some (.int (k : Int)), some (.str p.1), some (.int p.2.1), some (.int p.2.2), none, none, none, none], M, rfl, [some P, some (bxU b), some (.bl z), some (.int far), some (.ref L.length), some (.int (k : Int)), some (.str p.1), some (.int p.2.1), some (.int p.2.2), none, none, none, none], ?_⟩
      cases hin : inB b p with
      | false =>
        rw [hin] at ht
        refine ⟨M, .inl (if_no ht), _, _, _, _, rfl, ?_, g⟩
        rw [hz, List.filter_append, List.filter_cons_of_neg (by simp [hin]), List.filter_nil, List.append_nil]
        exact hr
      | true =>
        rw [hin] at ht
        have t1 : (fTup (fCons (fVar 8) (fCons (fVar 7) (fCons (fVar 5) (fCons (fVar 6) fNil))))) [some P, some (bxU b), some (.bl z), some (.int far), some (.ref L.length), some (.int (k : Int)), some (.str p.1), some (.int p.2.1), some (.int p.2.2), none, none, none, none] M = some (rwU (rowOf false (p, k)), M) := tup4 rfl rfl rfl rfl
        have t2 : (fTup (fCons (fVar 7) (fCons (fVar 8) (fCons (fVar 5) (fCons (fVar 6) fNil))))) [some P, some (bxU b), some (.bl z), some (.int far), some (.ref L.length), some (.int (k : Int)), some (.str p.1), some (.int p.2.1), some (.int p.2.2), none, none, none, none] M = some (rwU (rowOf true (p, k)), M) := tup4 rfl rfl rfl rfl
        have t3 : (fLst (fCons (fTup (fCons (fVar 8) (fCons (fVar 7) (fCons (fVar 5) (fCons (fVar 6) fNil))))) (fCons (fTup (fCons (fVar 7) (fCons (fVar 8) (fCons (fVar 5) (fCons (fVar 6) fNil))))) fNil))) [some P, some (bxU b), some (.bl z), some (.int far), some (.ref L.length), some (.int (k : Int)), some (.str p.1), some (.int p.2.1), some (.int p.2.2), none, none, none, none] M = some (.ref M.length, M ++ [.lst [rwU (rowOf false (p, k)), rwU (rowOf true (p, k))]]) := by
          rw [fLst_eq, fCons_eq, t1, Option.bind_some, fCons_eq, t2]
          simp only [Option.bind_some, fNil_eq, Option.map_some]
          rw [if_pos (small_of (by show 2 ≤ 16777216; decide))]
        have t4 : (fCall semInt (fCons (fVar 2) fNil)) [some P, some (bxU b), some (.bl z), some (.int far), some (.ref L.length), some (.int (k : Int)), some (.str p.1), some (.int p.2.1), some (.int p.2.2), none, none, none, none] (M ++ [.lst [rwU (rowOf false (p, k)), rwU (rowOf true (p, k))]]) = some (.int (if z then 1 else 0), M ++ [.lst [rwU (rowOf false (p, k)), rwU (rowOf true (p, k))]]) := by
          cases z <;> exact call1 rfl rfl
        have t5 := f2_ok (s := semIx) t3 t4 (ix_ref (l := [rwU (rowOf false (p, k)), rwU (rowOf true (p, k))]) (u := rwU (rowOf z (p, k))) (by simp) (by cases z <;> rfl))
        have gx : Gw M (M ++ [.lst [rwU (rowOf false (p, k)), rwU (rowOf true (p, k))]]) := Gw.new _ _
        generalize M ++ [.lst [rwU (rowOf false (p, k)), rwU (rowOf true (p, k))]] = M2 at t5 gx
        have hr2 := gx.get hr
        have hlr : (((((ps.zipIdx.take k).filter fun e => inB b e.1).map (rowOf z)).map rwU)).length < 16777216 := by
          rw [List.length_map, List.length_map]
          have := List.length_filter_le (fun e : Pt × Nat => inB b e.1) (ps.zipIdx.take k)
          rw [List.length_take] at this
          omega
        have ap := append_ok (rwU (rowOf z (p, k))) hr2 hlr
        have ty := tyU_lst hr2
        have hl2 := (List.getElem?_eq_some_iff.mp hr2).1
        refine ⟨_, .inl ?_, _, _, _, _, rfl, ?_, (g.trans gx).set (Nat.le_refl _) (.lst ((((ps.zipIdx.take k).filter fun e => inB b e.1).map (rowOf z)).map rwU ++ [rwU (rowOf z (p, k))]))⟩
        · unfold b_l_right_2
          rw [fIfS_eq, ht]
          simp only [Option.bind_some, if_true]
          have v4 : fVar 4 [some P, some (bxU b), some (.bl z), some (.int far), some (.ref L.length), some (.int (k : Int)), some (.str p.1), some (.int p.2.1), some (.int p.2.2), none, none, none, none] M = some (.ref L.length, M) := rfl
          have ty1 := tyU_lst hr
          rw [fDrop_eq, fMeth_eq, v4]
          simp only [Option.bind_some, ty1, if_true]
          rw [fCons_eq, t5]
          simp only [Option.bind_some, fNil_eq, Option.map_some, ap]
        · rw [List.getElem?_set_self hl2, hz, List.filter_append, List.filter_cons_of_pos (by simpa using hin), List.filter_nil]
          simp)
  have hlen : (enumU (ps.map ptU)).length = ps.zipIdx.length := by simp [enumU]
  rw [hlen, List.take_length] at hr
  exact ⟨y5, y6, y7, y8, L', by rw [hδ] at e; exact e, hr, g⟩
end Lw
set_option Elab.async false
set_option linter.all false
set_option maxRecDepth 100000
set_option maxHeartbeats 1000000
namespace Lw
open PySem L2 MR
theorem lrng1_nat {g : FA} {δ : UE} {L L' : UH} {n : Nat} (hg : g δ L = some ([.int n], L')) (h : n ≤ 1000) : fLRng1 g δ L = some (.ref L'.length, L' ++ [.lst (rangeU 0 n)]) := by
  have key : ∀ j : Int, 0 ≤ j → j ≤ 1000 → g δ L = some ([.int j], L') → fLRng1 g δ L = some (.ref L'.length, L' ++ [.lst (rangeU 0 j.toNat)]) := fun j h0 h1 hg => by
    unfold fLRng1
    rw [hg]
    simp only [Option.bind_some]
    rw [if_pos ⟨by omega, by omega⟩]
  have := key n (by omega) (by omega) hg
  rwa [Int.toNat_natCast] at this
theorem chain_lt {fa fb fc : FE} {δ : UE} {L : UH} {a b c : Int} (ha : fa δ L = some (.int a, L)) (hb : fb δ L = some (.int b, L)) (hc : fc δ L = some (.int c, L)) : fChain semLe semLt fa fb fc δ L = some (.bl (decide (a ≤ b) && decide (b < c)), L) := by
  unfold fChain
  simp only [ha, hb, hc, Option.bind_some, semLe_int]
  cases decide (a ≤ b) <;> rfl
theorem place_turn {ps : List Pt} {b : Bx} {z : Bool} {far pc : Int} {N : Nat} {nm : List Str} (hl : ps.length ≤ 60) (hok : ∀ t ∈ nm, PyData.strOk t = true) (hlen : nm.length = cntB ps b) (hnm : ∀ k, k < cntB ps b → nm[k]? = some (nthS (keyB z) (ps.filter (inB b)) k)) (hf : fmtOk pc = true) {L : UH} (hN : L[N]? = some (.lst (nm.map U.str))) (x4 x5 x6 x7 x8 x10 x12 : Option U) :
    ∃ (y12 : Option U) (L' : UH), b_l_right_1 [some (.tup (ps.map ptU)), some (bxU b), some (.bl z), some (.int far), x4, x5, x6, x7, x8, some (.ref N), x10, some (.int pc), x12] L = some (.nx [some (.tup (ps.map ptU)), some (bxU b), some (.bl z), some (.int far), x4, x5, x6, x7, x8, some (.ref N), x10, some (.int pc), y12], L') ∧ Gw L L' := by
  have s1 := setN (i := 12) (δ := [some (.tup (ps.map ptU)), some (bxU b), some (.bl z), some (.int far), x4, x5, x6, x7, x8, some (.ref N), x10, some (.int pc), x12]) (tup1 (fa := fC (.str "refused")) (L := L) rfl)
  simp only [List.set_cons_succ, List.set_cons_zero] at s1
  have hln : semLen [.ref N] L = some (.int (nm.length : Nat), L) := by have := len_lst hN; rw [List.length_map] at this; exact this
  have c1 := test_ok (chain_lt (fa := fC (.int 0)) (fb := fVar 11) (fc := fCall semLen (fCons (fVar 9) fNil)) (δ := [some (.tup (ps.map ptU)), some (bxU b), some (.bl z), some (.int far), x4, x5, x6, x7, x8, some (.ref N), x10, some (.int pc), some (.tup [.str "refused"])]) (L := L) rfl rfl (call1 rfl hln))
  unfold b_l_right_1
  rw [fSeq_nx s1]
  by_cases hp : 0 ≤ pc ∧ pc < (nm.length : Nat)
  · obtain ⟨k, rfl⟩ : ∃ k : Nat, pc = k := ⟨pc.toNat, by omega⟩
    have hkl : k < cntB ps b := by omega
    have hk := hnm k hkl
    have hb : (decide ((0 : Int) ≤ (k : Int)) && decide ((k : Int) < (nm.length : Nat))) = true := by simp; omega
    rw [hb] at c1
    have hix : semIx (.ref N) (.int (k : Int)) L = some (.str (nthS (keyB z) (ps.filter (inB b)) k), L) := ix_ref hN (ix_nat (by rw [List.getElem?_map, hk]; rfl))
    have s2 : (fIfS (fTest (fChain semLe semLt (fC (.int 0)) (fVar 11) (fCall semLen (fCons (fVar 9) fNil)))) (fAsg (f2 semIx (fVar 9) (fVar 11)) (gN 12)) fNext) [some (.tup (ps.map ptU)), some (bxU b), some (.bl z), some (.int far), x4, x5, x6, x7, x8, some (.ref N), x10, some (.int (k : Int)), some (.tup [.str "refused"])] L = some (.nx [some (.tup (ps.map ptU)), some (bxU b), some (.bl z), some (.int far), x4, x5, x6, x7, x8, some (.ref N), x10, some (.int (k : Int)), some (.str (nthS (keyB z) (ps.filter (inB b)) k))], L) := by
      rw [fIfS_eq, c1]
      exact setN (i := 12) (f2_ok rfl rfl hix)
    obtain ⟨L', e, g⟩ := told_yes z hl hkl L
    refine ⟨some (.str (nthS (keyB z) (ps.filter (inB b)) k)), L', ?_, g⟩
    rw [fSeq_nx s2]
    refine if_no (test_ok (f2_ok (u := .str (nthS (keyB z) (ps.filter (inB b)) k)) (v := .str (nthS (keyB z) (ps.filter (inB b)) k)) (L1 := L') (L2 := L') ?_ rfl (ne_str (hok _ (List.mem_of_getElem? hk)) L')))
    rw [fOwn_eq]
    simp only [fCons_eq, fNil_eq, fVar_eq, List.getElem?_cons_succ, List.getElem?_cons_zero, Option.join_some, Option.map_some, Option.bind_some, List.length_cons, List.length_nil, if_true, e]
  · have hb : (decide ((0 : Int) ≤ pc) && decide (pc < (nm.length : Nat))) = false := by
      rw [Bool.and_eq_false_iff]
      by_cases h0 : 0 ≤ pc
      · right; simp; omega
      · left; simp; omega
    rw [hb] at c1
    obtain ⟨L', e, g⟩ := told_no z hl (b := b) (p := pc) (by omega) hf L
    refine ⟨some (.tup [.str "refused"]), L', ?_, g⟩
    rw [fSeq_nx (if_no c1)]
    refine if_no (test_ok (f2_ok (u := .tup [.str "refused"]) (v := .tup [.str "refused"]) (L1 := L') (L2 := L') ?_ rfl (ne_ref L')))
    rw [fOwn_eq]
    simp only [fCons_eq, fNil_eq, fVar_eq, List.getElem?_cons_succ, List.getElem?_cons_zero, Option.join_some, Option.map_some, Option.bind_some, List.length_cons, List.length_nil, if_true, e]
theorem right_ok {ps : List Pt} (b : Bx) (z : Bool) {far : Int} (hl : ps.length ≤ 60) (hok : ∀ p ∈ ps, PyData.strOk p.1 = true) (f1 : 1 ≤ far) (f2' : far ≤ 10000000000000) (L : UH) :
    ∃ L', m_l_right [.tup (ps.map ptU), bxU b, .bl z, .int far] L = some (.bl true, L') ∧ Gw L L' := by
  generalize hP : U.tup (ps.map ptU) = P
  have s1 := setN (i := 4) (lst0 [some P, some (bxU b), some (.bl z), some (.int far), none, none, none, none, none, none, none, none, none] L)
  simp only [List.set_cons_succ, List.set_cons_zero] at s1
  obtain ⟨y5, y6, y7, y8, L1, e1, h1, g1⟩ := rows_ok b z far hl L
  rw [hP] at e1
  have hel : ((eps ps b).map (rowOf z)).length ≤ 60 := by
    rw [List.length_map]
    have := List.length_filter_le (fun e : Pt × Nat => inB b e.1) ps.zipIdx
    rw [List.length_zipIdx] at this
    unfold eps; omega
  obtain ⟨N, L2, fl, e2, h2, hp, hs, g2⟩ := in_order_ok h1 hel
  obtain ⟨hfl, hnm⟩ := names_is hp hs
  have h2' : L2[N]? = some (.lst ((fl.map (·.2)).map U.str)) := by rw [List.map_map]; exact h2
  have hokn : ∀ t ∈ fl.map (·.2), PyData.strOk t = true := fun t ht => by
    obtain ⟨r, hr, rfl⟩ := List.mem_map.mp ht
    obtain ⟨a, ha, rfl⟩ := List.mem_map.mp (hp.mem_iff.mp hr)
    rw [rowOf_name]
    have : a.1 ∈ (eps ps b).map (·.1) := List.mem_map_of_mem ha
    rw [eps_fst] at this
    exact hok _ (List.mem_filter.mp this).1
  have hlen : (fl.map (·.2)).length = cntB ps b := by rw [List.length_map, hfl]
  have hcn : cntB ps b ≤ 60 := Nat.le_trans (List.length_filter_le _ _) hl
  generalize fl.map (·.2) = nm at h2' hokn hlen hnm
  generalize hn : cntB ps b = n at hcn hlen hnm
  have s3 := setN (i := 9) (own1 (i := 4) (δ := [some P, some (bxU b), some (.bl z), some (.int far), some (.ref L.length), y5, y6, y7, y8, none, none, none, none]) rfl e2)
  simp only [List.set_cons_succ, List.set_cons_zero] at s3
  have len9 : ∀ (M : UH) (x10 x11 x12 : Option U), Gw L2 M → (fCall semLen (fCons (fVar 9) fNil)) [some P, some (bxU b), some (.bl z), some (.int far), some (.ref L.length), y5, y6, y7, y8, some (.ref N), x10, x11, x12] M = some (.int (n : Nat), M) := fun M x10 x11 x12 g => by
    have := len_lst (g.get h2')
    rw [List.length_map, hlen] at this
    exact call1 rfl this
  have p1 : (fLRng1 (fCons (fCall semMin (fCons (fC (.int 12)) (fCons (fCall semLen (fCons (fVar 9) fNil)) fNil))) fNil)) [some P, some (bxU b), some (.bl z), some (.int far), some (.ref L.length), y5, y6, y7, y8, some (.ref N), none, none, none] L2 = some (.ref L2.length, L2 ++ [.lst (rangeU 0 (min 12 n))]) := by
    refine lrng1_nat ?_ (by omega)
    have q : (fCall semMin (fCons (fC (.int 12)) (fCons (fCall semLen (fCons (fVar 9) fNil)) fNil))) [some P, some (bxU b), some (.bl z), some (.int far), some (.ref L.length), y5, y6, y7, y8, some (.ref N), none, none, none] L2 = some (.int ((min 12 n : Nat) : Int), L2) := by
      rw [fCall_eq, fCons_eq, fC_eq]
      simp only [Option.bind_some, fCons_eq, len9 L2 none none none (Gw.refl _), fNil_eq, Option.map_some]
      show some (U.int (if (n : Int) < 12 then (n : Int) else 12), L2) = _
      congr 2
      split <;> simp <;> omega
    rw [fCons_eq, q]; rfl
  have g3 : Gw L2 (L2 ++ [.lst (rangeU 0 (min 12 n))]) := Gw.new _ _
  have hR : (L2 ++ [HU.lst (rangeU 0 (min 12 n))])[L2.length]? = some (.lst (rangeU 0 (min 12 n))) := by simp
  generalize hL3 : L2 ++ [HU.lst (rangeU 0 (min 12 n))] = L3 at p1 g3 hR
  have p2 : (fLst (fCons (f2 semSub (fCall semLen (fCons (fVar 9) fNil)) (fC (.int 1))) (fCons (fCall semLen (fCons (fVar 9) fNil)) (fCons (f2 semAdd (fCall semLen (fCons (fVar 9) fNil)) (fVar 3)) (fCons (fNeg (fC (.int 1))) (fCons (f2 semSub (fNeg (fC (.int 1))) (fVar 3)) fNil)))))) [some P, some (bxU b), some (.bl z), some (.int far), some (.ref L.length), y5, y6, y7, y8, some (.ref N), none, none, none] L3 = some (.ref L3.length, L3 ++ [.lst ([(n : Int) - 1, (n : Int), (n : Int) + far, -1, -1 - far].map U.int)]) := by
    have q1 := f2_ok (s := semSub) (fb := fC (.int 1)) (w := .int ((n : Int) - 1)) (len9 L3 none none none g3) rfl rfl
    have q2 := f2_ok (s := semAdd) (fb := fVar 3) (w := .int ((n : Int) + far)) (len9 L3 none none none g3) rfl rfl
    have q3 : (fNeg (fC (.int 1))) [some P, some (bxU b), some (.bl z), some (.int far), some (.ref L.length), y5, y6, y7, y8, some (.ref N), none, none, none] L3 = some (.int (-1), L3) := rfl
    have q4 := f2_ok (s := semSub) (fb := fVar 3) (w := .int (-1 - far)) q3 rfl rfl
    rw [fLst_eq]
    simp only [fCons_eq, q1, len9 L3 none none none g3, q2, q3, q4, fNil_eq, Option.bind_some, Option.map_some]
    rw [if_pos (small_of (by show 5 ≤ 16777216; decide))]
    rfl
  have g4 : Gw L3 (L3 ++ [.lst ([(n : Int) - 1, (n : Int), (n : Int) + far, -1, -1 - far].map U.int)]) := Gw.new _ _
  have hR2 : (L3 ++ [HU.lst ([(n : Int) - 1, (n : Int), (n : Int) + far, -1, -1 - far].map U.int)])[L3.length]? = some (.lst ([(n : Int) - 1, (n : Int), (n : Int) + far, -1, -1 - far].map U.int)) := by simp
  have hR1 := g4.get hR
  generalize L3 ++ [HU.lst ([(n : Int) - 1, (n : Int), (n : Int) + far, -1, -1 - far].map U.int)] = L4 at p2 g4 hR2 hR1
  have hrg : rangeU 0 (min 12 n) = ((List.range (min 12 n)).map fun i => (0 : Int) + (i : Nat)).map U.int := by unfold rangeU; rw [List.map_map]; rfl
  obtain ⟨xs, hxs, hxb, hxl⟩ : ∃ xs : List Int, rangeU 0 (min 12 n) ++ [(n : Int) - 1, (n : Int), (n : Int) + far, -1, -1 - far].map U.int = xs.map U.int ∧ (∀ x ∈ xs, fmtOk x = true) ∧ xs.length ≤ 100 := by
    have fm : ∀ x : Int, -100000000000000 ≤ x → x ≤ 100000000000000 → fmtOk x = true := fun x h1 h2 => by unfold fmtOk; simp; omega
    refine ⟨((List.range (min 12 n)).map fun i => (0 : Int) + (i : Nat)) ++ [(n : Int) - 1, (n : Int), (n : Int) + far, -1, -1 - far], by rw [hrg, List.map_append], fun x hx => ?_, ?_⟩
    · rcases List.mem_append.mp hx with h | h
      · obtain ⟨i, hi, rfl⟩ := List.mem_map.mp h
        have := List.mem_range.mp hi
        exact fm _ (by omega) (by omega)
      · simp only [List.mem_cons, List.not_mem_nil, or_false] at h
        rcases h with h | h | h | h | h <;> subst h <;> exact fm _ (by omega) (by omega)
    · rw [List.length_append, List.length_map, List.length_range]
      show min 12 n + 5 ≤ 100
      omega
  have p3 : semAdd (.ref L2.length) (.ref L3.length) L4 = some (.ref L4.length, L4 ++ [.lst (xs.map U.int)]) := by
    rw [← hxs]
    have hsm : ((rangeU 0 (min 12 n)).length + ([(n : Int) - 1, (n : Int), (n : Int) + far, -1, -1 - far].map U.int).length) ≤ 16777216 := by
      rw [rangeU_len]; show min 12 n + 5 ≤ _; omega
    unfold semAdd
    simp only [lstAt_lst hR1, lstAt_lst hR2, Option.bind_some]
    rw [if_pos (small_of hsm)]
  have s4 := setN (i := 10) (δ := [some P, some (bxU b), some (.bl z), some (.int far), some (.ref L.length), y5, y6, y7, y8, some (.ref N), none, none, none]) (f2_ok (s := semAdd) p1 p2 p3)
  simp only [List.set_cons_succ, List.set_cons_zero] at s4
  have g5 : Gw L2 (L4 ++ [.lst (xs.map U.int)]) := (g3.trans g4).trans (Gw.new _ _)
  have hX : (L4 ++ [HU.lst (xs.map U.int)])[L4.length]? = some (.lst (xs.map U.int)) := by simp
  have hl4 : L2.length ≤ L4.length := (g3.trans g4).le
  generalize hL5 : L4 ++ [HU.lst (xs.map U.int)] = L5 at s4 g5 hX
  have hmx : (0 : Int) < max 1 (n : Int) := by omega
  have p5 : (f2 semMod (fVar 3) (fCall semMax (fCons (fC (.int 1)) (fCons (fCall semLen (fCons (fVar 9) fNil)) fNil)))) [some P, some (bxU b), some (.bl z), some (.int far), some (.ref L.length), y5, y6, y7, y8, some (.ref N), some (.ref L4.length), none, none] L5 = some (.int (far % max 1 (n : Int)), L5) := by
    have q : (fCall semMax (fCons (fC (.int 1)) (fCons (fCall semLen (fCons (fVar 9) fNil)) fNil))) [some P, some (bxU b), some (.bl z), some (.int far), some (.ref L.length), y5, y6, y7, y8, some (.ref N), some (.ref L4.length), none, none] L5 = some (.int (max 1 (n : Int)), L5) := by
      rw [fCall_eq, fCons_eq, fC_eq]
      simp only [Option.bind_some, fCons_eq, len9 L5 (some (.ref L4.length)) none none g5, fNil_eq, Option.map_some]
      show some (U.int (if (1 : Int) < n then (n : Int) else 1), L5) = _
      congr 2
      split <;> simp <;> omega
    refine f2_ok rfl q ?_
    rw [semMod_int, if_pos (by simpa using hmx)]
  have ap := append_ok (.int (far % max 1 (n : Int))) hX (by rw [List.length_map]; omega)
  have ty := tyU_lst hX
  have s5 : (fDrop (fMeth "list" semAppend (fVar 10) (fCons (f2 semMod (fVar 3) (fCall semMax (fCons (fC (.int 1)) (fCons (fCall semLen (fCons (fVar 9) fNil)) fNil)))) fNil))) [some P, some (bxU b), some (.bl z), some (.int far), some (.ref L.length), y5, y6, y7, y8, some (.ref N), some (.ref L4.length), none, none] L5 = some (.nx [some P, some (bxU b), some (.bl z), some (.int far), some (.ref L.length), y5, y6, y7, y8, some (.ref N), some (.ref L4.length), none, none], L5.set L4.length (.lst (xs.map U.int ++ [.int (far % max 1 (n : Int))]))) := by
    have v : fVar 10 [some P, some (bxU b), some (.bl z), some (.int far), some (.ref L.length), y5, y6, y7, y8, some (.ref N), some (.ref L4.length), none, none] L5 = some (.ref L4.length, L5) := rfl
    rw [fDrop_eq, fMeth_eq, v]
    simp only [Option.bind_some, ty, if_true]
    rw [fCons_eq, p5]
    simp only [Option.bind_some, fNil_eq, Option.map_some, ap]
  have hlt5 := (List.getElem?_eq_some_iff.mp hX).1
  have g6 : Gw L2 (L5.set L4.length (.lst (xs.map U.int ++ [.int (far % max 1 (n : Int))]))) := g5.set hl4 _
  have hY : (L5.set L4.length (.lst (xs.map U.int ++ [.int (far % max 1 (n : Int))])))[L4.length]? = some (.lst ((xs ++ [far % max 1 (n : Int)]).map U.int)) := by
    rw [List.getElem?_set_self hlt5, List.map_append]; rfl
  have hyb : ∀ x ∈ xs ++ [far % max 1 (n : Int)], fmtOk x = true := fun x hx => by
    rcases List.mem_append.mp hx with h | h
    · exact hxb x h
    · rw [List.mem_singleton.mp h]
      have := Int.emod_nonneg far (show (max 1 (n : Int)) ≠ 0 by omega)
      have := Int.emod_lt_of_pos far hmx
      unfold fmtOk; simp; omega
  generalize L5.set L4.length (.lst (xs.map U.int ++ [.int (far % max 1 (n : Int))])) = L6 at s5 g6 hY
  generalize xs ++ [far % max 1 (n : Int)] = ys at hY hyb
  have hi : fSeqI (fVar 10) [some P, some (bxU b), some (.bl z), some (.int far), some (.ref L.length), y5, y6, y7, y8, some (.ref N), some (.ref L4.length), none, none] L6 = some (.ref L4.length, L6) := by
    simp only [fSeqI_eq, fVar_eq, List.getElem?_cons_succ, List.getElem?_cons_zero, Option.join_some, Option.map_some, Option.bind_some, iSeqU_ref (seqAt_lst hY)]
  obtain ⟨δ7, L7, e7, y11, y12, hδ, g7⟩ := for_ref (us := ys.map U.int) (n := L4.length) (body := b_l_right_1) (g := gN 11)
    (fun k δ' M => ∃ y11 y12, δ' = [some P, some (bxU b), some (.bl z), some (.int far), some (.ref L.length), y5, y6, y7, y8, some (.ref N), some (.ref L4.length), y11, y12] ∧ Gw L6 M) hi ⟨none, none, rfl, Gw.refl _⟩
    (fun k δ M ⟨_, _, _, g⟩ => seqAt_lst (g.get hY))
    (fun k u δ M hu ⟨y11, y12, hδ, g⟩ => by
      subst hδ
      rw [List.getElem?_map] at hu
      obtain ⟨pc, hpc, rfl⟩ := Option.map_eq_some_iff.mp hu
      subst hn
      obtain ⟨w12, M', e, gM⟩ := place_turn (far := far) (pc := pc) hl hokn hlen hnm (hyb pc (List.mem_of_getElem? hpc)) ((g6.trans g).get h2') (some (.ref L.length)) y5 y6 y7 y8 (some (.ref L4.length)) y12
      rw [hP] at e
      exact ⟨[some P, some (bxU b), some (.bl z), some (.int far), some (.ref L.length), y5, y6, y7, y8, some (.ref N), some (.ref L4.length), some (.int pc), y12], M, rfl, _, M', .inl e, some (.int pc), w12, rfl, g.trans gM⟩)
  rw [hδ] at e7
  refine ⟨L7, fnN rfl ?_, ((g1.trans g2).trans g6).trans g7⟩
  unfold b_l_right
  show fSeq _ _ [some P, some (bxU b), some (.bl z), some (.int far), none, none, none, none, none, none, none, none, none] L = _
  rw [fSeq_nx s1, fSeq_nx e1, fSeq_nx s3, fSeq_nx s4, fSeq_nx s5, fSeq_nx e7]
  rfl
end Lw
set_option Elab.async false
set_option linter.all false
set_option maxRecDepth 100000
set_option maxHeartbeats 1000000
namespace Lw
open PySem L2 MR
theorem Gw.of {L L' : UH} (h : L.length ≤ L'.length) (e : ∀ i, i < L.length → L'[i]? = L[i]?) : Gw L L' := by
  refine ⟨L'.drop L.length, ?_⟩
  apply List.ext_getElem?
  intro i
  by_cases hi : i < L.length
  · rw [List.getElem?_append_left hi, e i hi]
  · rw [List.getElem?_append_right (by omega), List.getElem?_drop]
    congr 1; omega
theorem Gw.ex' {L M M' : UH} {d : Nat} (g : Gw L M) (x : Ex d M M') (hd : L.length ≤ d) : Gw L M' := by
  refine Gw.of (Nat.le_trans g.le x.le) fun i hi => ?_
  rw [x.at_ i (Nat.lt_of_lt_of_le hi g.le) (by omega)]
  obtain ⟨y, rfl⟩ := g
  rw [List.getElem?_append_left hi]
theorem numsW_ok {ps : List Pt} (hl : ps.length ≤ 1000) (fe : FE) (f : Int × Int → Int) (hf : ∀ (p : Pt) (L : UH), fe [some (.str p.1), some (.int p.2.1), some (.int p.2.2)] L = some (.int (f p.2), L)) (δ : UE) (L : UH) (h1 : fVar 0 δ L = some (.tup (ps.map ptU), L)) :
    ∃ (n : Nat) (L' : UH), (f2 semAdd (fComp [none, none, none] (fSeqI (fVar 0)) (MR.gTup 3 (MR.gCons (gN 0) (MR.gCons (gN 1) (MR.gCons (gN 2) MR.gNil)))) none fe) (fLst (fCons (fC (.int 0)) fNil))) δ L = some (.ref n, L') ∧ L'[n]? = some (.lst (((ps.map fun (p : Pt) => f p.2) ++ [0]).map U.int)) ∧ Gw L L' := by
  have hi : fSeqI (fVar 0) δ L = some (.seq (ps.map ptU), L) := by rw [fSeqI_eq, h1]; rfl
  obtain ⟨x, e⟩ := comp_grow (ix := [none, none, none]) (fi := fSeqI (fVar 0)) (it := .seq (ps.map ptU)) (g := (MR.gTup 3 (MR.gCons (gN 0) (MR.gCons (gN 1) (MR.gCons (gN 2) MR.gNil))))) (tt := none) (fe := fe) (δ := δ) (L := L) (L0 := L)
    ps ptU (fun _ => true) (fun p => .int (f p.2)) (fun δ => ∃ a b c, δ = [a, b, c]) hi (by simp [IU.size]) (by omega) ⟨none, none, none, rfl⟩
    (fun k x => rfl)
    (fun p δ x _ ⟨a, b, c, hδ⟩ => by
      subst hδ
      refine ⟨[some (.str p.1), some (.int p.2.1), some (.int p.2.2)], rfl, ⟨_, _, _, rfl⟩, [], by simp [testU], fun _ => ⟨[], ?_⟩⟩
      rw [List.append_nil, List.append_nil]
      exact hf p _)
  have hff : List.filter (fun _ => true) ps = ps := List.filter_eq_self.mpr (fun _ _ => rfl)
  have hm : ps.map (fun p => U.int (f p.2)) = (ps.map fun p => f p.2).map U.int := by simp
  rw [hff, hm] at e
  have g1 : Gw L (L ++ x ++ [HU.lst ((ps.map fun p => f p.2).map U.int)]) := ⟨x ++ [HU.lst ((ps.map fun p => f p.2).map U.int)], by rw [List.append_assoc]⟩
  have q1 : (L ++ x ++ [HU.lst ((ps.map fun p => f p.2).map U.int)])[(L ++ x).length]? = some (.lst ((ps.map fun p => f p.2).map U.int)) := by simp
  generalize (L ++ x).length = a at e q1
  generalize L ++ x ++ [HU.lst ((ps.map fun p => f p.2).map U.int)] = M at e g1 q1
  have e2 : (fLst (fCons (fC (.int 0)) fNil)) δ M = some (.ref M.length, M ++ [.lst [.int 0]]) := by
    rw [fLst_eq, fCons_eq, fC_eq]
    simp only [Option.bind_some, fNil_eq, Option.map_some]
    rw [if_pos (small_of (by show 1 ≤ 16777216; decide))]
  have q2 := (Gw.new M [HU.lst [U.int 0]]).get q1
  have q3 : (M ++ [HU.lst [U.int 0]])[M.length]? = some (.lst [U.int 0]) := by simp
  have e3 : semAdd (.ref a) (.ref M.length) (M ++ [HU.lst [U.int 0]]) = some (.ref (M ++ [HU.lst [U.int 0]]).length, M ++ [HU.lst [U.int 0]] ++ [.lst ((ps.map fun p => f p.2).map U.int ++ [.int 0])]) := by
    unfold semAdd
    simp only [lstAt_lst q2, lstAt_lst q3, Option.bind_some]
    rw [if_pos (small_of (by rw [List.length_map, List.length_map]; show ps.length + 1 ≤ _; omega))]
  exact ⟨_, _, f2_ok e e2 e3, by rw [List.map_append]; simp, (g1.trans (Gw.new _ _)).trans (Gw.new _ _)⟩
theorem mm_lst {g2 : Int → Int → Int} {gl : List Int → Int} {L : UH} {n : Nat} {l : List Int} (h : L[n]? = some (.lst ((l ++ [0]).map U.int))) : semMM g2 gl [.ref n] L = some (.int (gl (l ++ [0])), L) := by
  unfold semMM
  simp only [seqAt_lst h, Option.bind_some, toI_ints]
  rw [if_neg (by simp)]
theorem wide_ok {ps : List Pt} (hl : ps.length ≤ 60) (L : UH) : ∃ (b : Bx) (L' : UH), m_l_wide [.tup (ps.map ptU)] L = some (bxU b, L') ∧ Gw L L' := by
  obtain ⟨n1, L1, e1, h1, g1⟩ := numsW_ok (ps := ps) (by omega) b_l_wide_2e (fun q => q.1) (fun p L => rfl) [some (.tup (ps.map ptU)), none, none] L rfl
  have s1 := setN (i := 1) e1
  simp only [List.set_cons_succ, List.set_cons_zero] at s1
  obtain ⟨n2, L2, e2, h2, g2⟩ := numsW_ok (ps := ps) (by omega) b_l_wide_1e (fun q => q.2) (fun p L => rfl) [some (.tup (ps.map ptU)), some (.ref n1), none] L1 rfl
  have s2 := setN (i := 2) e2
  simp only [List.set_cons_succ, List.set_cons_zero] at s2
  have h1' := g2.get h1
  refine ⟨(minI ((ps.map fun p => p.2.1) ++ [0]), minI ((ps.map fun p => p.2.2) ++ [0]), maxI ((ps.map fun p => p.2.1) ++ [0]), maxI ((ps.map fun p => p.2.2) ++ [0])), L2, fnN rfl ?_, g1.trans g2⟩
  unfold b_l_wide
  show fSeq _ _ [some (.tup (ps.map ptU)), none, none] L = _
  rw [fSeq_nx s1, fSeq_nx s2]
  exact ret_ok (tup4 (call1 rfl (mm_lst h1')) (call1 rfl (mm_lst h2)) (call1 rfl (mm_lst h1')) (call1 rfl (mm_lst h2)))
theorem boxes_ok {L : UH} {d : Nat} {B : Int} {ps : List Pt} (hl : ps.length ≤ 60) (hok : ∀ p ∈ ps, PyData.strOk p.1 = true) (hpb : ∀ p ∈ ps, Pw p.2) (D : Seed L d B) (hB : B ≤ 10000) (x0 x1 x4 x5 x6 : Option U) :
    ∃ (bs : List Bx) (n : Nat) (L' : UH), (f2 semAdd (fComp [none, some 2, some 3] (fRng1 (fCons (fC (.int 4)) fNil)) (gN 0) none b_law_3e) (fLst (fCons (fOwn 1 m_l_wide (fCons (fVar 3) fNil)) fNil))) [x0, x1, some (.ref d), some (.tup (ps.map ptU)), x4, x5, x6] L = some (.ref n, L') ∧ L'[n]? = some (.lst (bs.map bxU)) ∧ n ≠ d ∧ bs.length = 5 ∧ Seed L' d (B + 108) ∧ Ex d L L' := by
  generalize hP : U.tup (ps.map ptU) = P
  have hi : fRng1 (fCons (fC (.int 4)) fNil) [x0, x1, some (.ref d), some P, x4, x5, x6] L = some (.seq (rangeU 0 4), L) := rng1_nat (n := 4) rfl (by omega)
  obtain ⟨ys, δ', M, e, ⟨z, hδ⟩, bs, hbs, hlb, hbw, DM, xM⟩ := fcomp (ix := [none, some 2, some 3]) (it := .seq (rangeU 0 4)) (g := gN 0) (tt := none) (fe := b_law_3e) (us := rangeU 0 4) (δ := [x0, x1, some (.ref d), some P, x4, x5, x6]) (L := L) (L0 := L)
      (fun k acc δ' M => (∃ z, δ' = [z, some (.ref d), some P]) ∧ ∃ (bs : List Bx), acc = bs.map bxU ∧ bs.length = k ∧ (∀ b ∈ bs, Bw b) ∧ Seed M d (B + 27 * k) ∧ Ex d L M)
      hi (by simp [IU.size]) ⟨⟨none, rfl⟩, [], rfl, rfl, fun b hb => (by cases hb), D.mono (by omega), Ex.refl _ _⟩
      (fun k acc δ L _ _ => rfl)
      (fun k u acc δ M hu ⟨⟨z, hδ⟩, bs, ha, hk', hbw, DM, xM⟩ => by
        subst hδ
        obtain ⟨hk, rfl⟩ := rangeU_get hu
        obtain ⟨b, M', e, bw, D', y'⟩ := box_ok hl hok hpb DM (by omega)
        rw [hP] at e
        have hac : acc.length < 16777216 := by rw [ha, List.length_map, hk']; omega
        refine ⟨[some (.int (0 + k)), some (.ref d), some P], M, rfl, true, M, rfl, fun _ => ⟨bxU b, M', own2 rfl rfl e, hac, ⟨_, rfl⟩, bs ++ [b], by simp [ha], by simp [hk'], fun c hc => ?_, ?_, xM.trans y'⟩, fun h => by cases h⟩
        · rcases List.mem_append.mp hc with q | q
          · exact hbw c q
          · rw [List.mem_singleton.mp q]; exact bw
        · have : B + 27 * ((k + 1 : Nat) : Int) = B + 27 * (k : Int) + 27 := by omega
          rw [this]; exact D')
  rw [rangeU_len] at hlb DM
  subst hbs
  have DM1 := DM.new [HU.lst (bs.map bxU)]
  have q1 : (M ++ [HU.lst (bs.map bxU)])[M.length]? = some (.lst (bs.map bxU)) := by simp
  have xE : Ex d L (M ++ [HU.lst (bs.map bxU)]) := xM.trans (Ex.new d _ _)
  generalize M.length = a at e q1
  generalize M ++ [HU.lst (bs.map bxU)] = M1 at e q1 DM1 xE
  obtain ⟨w, M2, e2, g2⟩ := wide_ok hl M1
  rw [hP] at e2
  have e3 : (fLst (fCons (fOwn 1 m_l_wide (fCons (fVar 3) fNil)) fNil)) [x0, x1, some (.ref d), some P, x4, x5, x6] M1 = some (.ref M2.length, M2 ++ [.lst [bxU w]]) := by
    rw [fLst_eq, fCons_eq, own1 rfl e2]
    simp only [Option.bind_some, fNil_eq, Option.map_some]
    rw [if_pos (small_of (by show 1 ≤ 16777216; decide))]
  have g3 : Gw M1 (M2 ++ [HU.lst [bxU w]]) := g2.trans (Gw.new _ _)
  have q2 := g3.get q1
  have q3 : (M2 ++ [HU.lst [bxU w]])[M2.length]? = some (.lst [bxU w]) := by simp
  have DM3 := DM1.gw g3
  generalize M2 ++ [HU.lst [bxU w]] = M3 at e3 g3 q2 q3 DM3
  have e4 : semAdd (.ref a) (.ref M2.length) M3 = some (.ref M3.length, M3 ++ [.lst ((bs ++ [w]).map bxU)]) := by
    unfold semAdd
    simp only [lstAt_lst q2, lstAt_lst q3, Option.bind_some]
    rw [if_pos (small_of (by rw [List.length_map, hlb]; show 4 + 1 ≤ 16777216; decide)), List.map_append]
    rfl
  refine ⟨bs ++ [w], M3.length, M3 ++ [.lst ((bs ++ [w]).map bxU)], f2_ok e e3 e4, by simp, ?_, by simp [hlb], (DM3.new _).mono (by omega), (xE.trans (g3.ex d)).trans (Ex.new d _ _)⟩
  have := DM3.lt
  omega
theorem or_not2 {fa fb : FE} {δ : UE} {L L1 L2 : UH} (h : fa δ L = some (.bl true, L1)) (h2 : fb δ L1 = some (.bl true, L2)) : fOr (fNot (fTru fa)) (fNot (fTru fb)) δ L = some (false, L2) := or_no (not_tru h) (not_tru h2)
theorem own4 {f : FN} {fa fb fc fd : FE} {u w x y v : U} {δ : UE} {L L' : UH} (h : fa δ L = some (u, L)) (h2 : fb δ L = some (w, L)) (h3 : fc δ L = some (x, L)) (h4 : fd δ L = some (y, L)) (e : f [u, w, x, y] L = some (v, L')) : (fOwn 4 f (fCons fa (fCons fb (fCons fc (fCons fd fNil))))) δ L = some (v, L') := by
  rw [fOwn_eq, fCons_eq, h]
  simp only [Option.bind_some, fCons_eq, h2, h3, h4, fNil_eq, Option.map_some, List.length_cons, List.length_nil, if_true, e]
theorem p6 : powOk 10 6 = true := rfl
theorem p12 : powOk 10 12 = true := rfl
theorem ten6 (δ : UE) (L : UH) : (f2 semPow (fC (.int 10)) (fC (.int 6))) δ L = some (.int 1000000, L) := by simp [p6]
theorem ten12 (δ : UE) (L : UH) : (f2 semPow (fC (.int 10)) (fC (.int 12))) δ L = some (.int 1000000000000, L) := by simp [p12]
theorem box_turn {L : UH} {d : Nat} {B : Int} {ps : List Pt} (b : Bx) (hl : ps.length ≤ 60) (hok : ∀ p ∈ ps, PyData.strOk p.1 = true) (D : Seed L d B) (hB : B ≤ 10000) (x0 x1 x4 x6 : Option U) :
    ∃ (y6 : Option U) (L' : UH), b_law_2 [x0, x1, some (.ref d), some (.tup (ps.map ptU)), x4, some (bxU b), x6] L = some (.nx [x0, x1, some (.ref d), some (.tup (ps.map ptU)), x4, some (bxU b), y6], L') ∧ Seed L' d (B + 2) ∧ Ex d L L' := by
  generalize hP : U.tup (ps.map ptU) = P
  obtain ⟨r1, L1, e1, a1, a2, D1, y1⟩ := draw_ok D (many := 1000000) (by omega) (by omega) (by omega)
  obtain ⟨r2, L2, e2, b1, b2, D2, y2⟩ := draw_ok D1 (many := 2) (by omega) (by omega) (by omega)
  have q1 : (fOwn 2 m_l_draw (fCons (fVar 2) (fCons (f2 semPow (fC (.int 10)) (fC (.int 6))) fNil))) [x0, x1, some (.ref d), some P, x4, some (bxU b), x6] L = some (.int r1, L1) := own2 rfl (ten6 _ L) e1
  have q2 : (fOwn 2 m_l_draw (fCons (fVar 2) (fCons (fC (.int 2)) fNil))) [x0, x1, some (.ref d), some P, x4, some (bxU b), x6] L1 = some (.int r2, L2) := own2 rfl rfl e2
  have s1 := setN (i := 6) (f2_ok (s := semAdd) (w := .int (1 + r1 + 1000000000000 * r2)) (f2_ok (s := semAdd) (fa := fC (.int 1)) (w := .int (1 + r1)) rfl q1 rfl) (f2_ok (s := semMul) (w := .int (1000000000000 * r2)) (ten12 _ L1) q2 rfl) rfl)
  simp only [List.set_cons_succ, List.set_cons_zero] at s1
  generalize hfar : 1 + r1 + 1000000000000 * r2 = far at s1
  obtain ⟨L3, e3, g3⟩ := right_ok b true (far := far) hl hok (by omega) (by omega) L2
  obtain ⟨L4, e4, g4⟩ := right_ok b false (far := far) hl hok (by omega) (by omega) L3
  rw [hP] at e3 e4
  have D2' : Seed L2 d (B + 2) := D2.mono (by omega)
  refine ⟨some (.int far), L4, ?_, (D2'.gw g3).gw g4, ((y1.trans y2).trans (g3.ex d)).trans (g4.ex d)⟩
  unfold b_law_2
  rw [fSeq_nx s1]
  exact if_no (or_not2 (own4 rfl rfl rfl rfl e3) (own4 rfl rfl rfl rfl e4))
theorem in1 (cell : Int) (L : UH) (x0 x2 x3 x4 x5 x6 : Option U) : ∃ y2 y3 y4 y5 y6 L', b_law_1 [x0, some (.int cell), x2, x3, x4, x5, x6] L = some (.nx [x0, some (.int cell), y2, y3, y4, y5, y6], L') ∧ Gw L L' := by
  obtain ⟨L1, e1, D1, g1⟩ := seed_ok cell L
  have s1 : (fAsg (fOwn 1 m_l_seed (fCons (fVar 1) fNil)) (gN 2)) [x0, some (.int cell), x2, x3, x4, x5, x6] L = some (.nx [x0, some (.int cell), some (.ref L.length), x3, x4, x5, x6], L1) := setN (own1 rfl e1)
  obtain ⟨ps, K2, e2, hl, hnd, hsp, hpb, D2, y2⟩ := points_ok (most := 60) D1 (by omega) (by omega)
  have hok : ∀ p ∈ ps, PyData.strOk p.1 = true := fun p hp => spare_ok _ (hsp p hp)
  generalize hd : L.length = d at s1 D1 e2 D2 y2
  have s2 : (fAsg (fOwn 2 m_l_points (fCons (fVar 2) (fCons (fC (.int 60)) fNil))) (gN 3)) [x0, some (.int cell), some (.ref d), x3, x4, x5, x6] L1 = some (.nx [x0, some (.int cell), some (.ref d), some (.tup (ps.map ptU)), x4, x5, x6], K2) := setN (own2 rfl rfl e2)
  obtain ⟨bs, n, L3, e3, hn, hnd', hb5, D3, y3⟩ := boxes_ok hl hok hpb D2 (by omega) x0 (some (.int cell)) x4 x5 x6
  have s3 := setN (i := 4) e3
  simp only [List.set_cons_succ, List.set_cons_zero] at s3
  have hi : fSeqI (fVar 4) [x0, some (.int cell), some (.ref d), some (.tup (ps.map ptU)), some (.ref n), x5, x6] L3 = some (.ref n, L3) := by
    simp only [fSeqI_eq, fVar_eq, List.getElem?_cons_succ, List.getElem?_cons_zero, Option.join_some, Option.map_some, Option.bind_some, iSeqU_ref (seqAt_lst hn)]
  obtain ⟨δ4, L4, e4, y5, y6, hδ, D4, x4'⟩ := for_ref (us := bs.map bxU) (n := n) (body := b_law_2) (g := gN 5)
    (fun k δ' L' => ∃ y5 y6, δ' = [x0, some (.int cell), some (.ref d), some (.tup (ps.map ptU)), some (.ref n), y5, y6] ∧ (k ≤ 5 → Seed L' d (0 + 700 + 108 + 2 * k)) ∧ Ex d L3 L') hi ⟨x5, x6, rfl, fun _ => D3.mono (by omega), Ex.refl _ _⟩
    (fun k δ M ⟨_, _, _, _, x⟩ => seqAt_lst (x.get hn hnd'))
    (fun k u δ M hu ⟨y5, y6, hδ, DM, xM⟩ => by
      subst hδ
      have hk := (List.getElem?_eq_some_iff.mp hu).1
      rw [List.length_map] at hk
      rw [List.getElem?_map] at hu
      obtain ⟨b, hbb, rfl⟩ := Option.map_eq_some_iff.mp hu
      obtain ⟨z6, M', e, D', x'⟩ := box_turn b hl hok (DM (by omega)) (by omega) x0 (some (.int cell)) (some (.ref n)) y6
      refine ⟨[x0, some (.int cell), some (.ref d), some (.tup (ps.map ptU)), some (.ref n), some (bxU b), y6], M, rfl, _, M', .inl e, some (bxU b), z6, rfl, fun _ => ?_, xM.trans x'⟩
      have : (0 : Int) + 700 + 108 + 2 * ((k + 1 : Nat) : Int) = 0 + 700 + 108 + 2 * (k : Int) + 2 := by omega
      rw [this]; exact D')
  rw [hδ] at e4
  refine ⟨some (.ref d), some (.tup (ps.map ptU)), some (.ref n), y5, y6, L4, ?_, g1.ex' ((y2.trans y3).trans x4') (by omega)⟩
  unfold b_law_1
  rw [fSeq_nx s1, fSeq_nx s2, fSeq_nx s3]
  exact e4
theorem law_true (ns : List Int) (hl : ns.length ≤ 63) : ∃ L', m_law [.ref 0] [.ro (ns.map U.int)] = some (.bl true, L') := by
  let L1 : UH := [.ro (ns.map U.int)]
  have hs : seqAt L1 0 = some (ns.map U.int) := rfl
  have hcut : cutU (ns.map U.int) none (some 2) = (ns.take 2).map U.int := by
    unfold cutU
    rw [HT.sIx_none, show (some (2 : Int)) = some ((2 : Nat) : Int) from rfl, HT.sIx_nat, List.drop_zero, Nat.sub_zero, List.length_map]
    by_cases h : 2 ≤ ns.length
    · rw [Nat.min_eq_left h, ← List.map_take]
    · rw [Nat.min_eq_right (by omega), ← List.map_take, List.take_of_length_le (Nat.le_refl _), List.take_of_length_le (by omega)]
  obtain ⟨r, e1⟩ := folded_ok (L := L1 ++ [.lst ((ns.take 2).map U.int)]) (n := 0) ns (seqAt_app hs)
  let M2 : UH := L1 ++ [.lst ((ns.take 2).map U.int)] ++ [.lst [.int r]]
  have k1 : lstAt M2 1 = some ((ns.take 2).map U.int) := lstAt_lst rfl
  have k2 : lstAt M2 2 = some [.int r] := lstAt_lst rfl
  let M3 : UH := M2 ++ [.lst ((ns.take 2 ++ [r]).map U.int)]
  have hadd : semAdd (.ref 1) (.ref 2) M2 = some (.ref 3, M3) := by
    unfold semAdd
    simp only [k1, k2, Option.bind_some]
    rw [if_pos (small_of (by
      have : ((ns.take 2).map U.int).length ≤ 2 := by rw [List.length_map, List.length_take]; omega
      have : ([U.int r] : List U).length = 1 := rfl
      omega))]
    simp [M3, M2, L1]
  have h3 : seqAt M3 3 = some ((ns.take 2 ++ [r]).map U.int) := seqAt_lst rfl
  have hi : (fSeqI (f2 semAdd (fSl semSl (fVar 0) fNoPart (fPart (fC (.int 2)))) (fLst (fCons (fOwn 1 m_l_folded (fCons (fVar 0) fNil)) fNil)))) [some (.ref 0), none, none, none, none, none, none] L1 = some (.ref 3, M3) := by
    have ha : (fSl semSl (fVar 0) fNoPart (fPart (fC (.int 2)))) [some (.ref 0), none, none, none, none, none, none] L1 = some (.ref 1, L1 ++ [.lst ((ns.take 2).map U.int)]) := by
      simp [semSl, hs, hcut]
      rfl
    have hb : (fLst (fCons (fOwn 1 m_l_folded (fCons (fVar 0) fNil)) fNil)) [some (.ref 0), none, none, none, none, none, none] (L1 ++ [.lst ((ns.take 2).map U.int)]) = some (.ref 2, M2) := by
      have sm1 : ∀ x : U, small [x].length = true := fun _ => small_of (by show 1 ≤ 16777216; decide)
      have hq : (fOwn 1 m_l_folded (fCons (fVar 0) fNil)) [some (.ref 0), none, none, none, none, none, none] (L1 ++ [.lst ((ns.take 2).map U.int)]) = some (.int r, L1 ++ [.lst ((ns.take 2).map U.int)]) := by simp [-List.map_take, e1]
      rw [fLst_eq, fCons_eq, hq]
      simp only [Option.bind_some, fNil_eq, Option.map_some]
      rw [if_pos (sm1 _)]
      rfl
    rw [fSeqI_eq, f2_eq, ha, Option.bind_some, hb, Option.bind_some, hadd, Option.bind_some, iSeqU_ref h3]
    rfl
  obtain ⟨δ5, L5, e5, P5⟩ := for_ref (us := (ns.take 2 ++ [r]).map U.int) (n := 3) (body := b_law_1) (g := gN 1) (fun _ δ' L' => (∃ y1 y2 y3 y4 y5 y6, δ' = [some (.ref 0), y1, y2, y3, y4, y5, y6]) ∧ Gw M3 L') hi ⟨⟨_, _, _, _, _, _, rfl⟩, Gw.refl _⟩
    (fun k δ L ⟨_, g⟩ => g.seq h3)
    (fun k u δ M hu ⟨⟨y1, y2, y3, y4, y5, y6, hδ⟩, g⟩ => by
      subst hδ
      rw [List.getElem?_map] at hu
      obtain ⟨c, _, rfl⟩ := Option.map_eq_some_iff.mp hu
      obtain ⟨z2, z3, z4, z5, z6, M', e, gM⟩ := in1 c M (some (.ref 0)) y2 y3 y4 y5 y6
      exact ⟨_, _, rfl, _, M', .inl e, ⟨_, _, _, _, _, _, rfl⟩, g.trans gM⟩)
  obtain ⟨⟨y1, y2, y3, y4, y5, y6, hδ⟩, _⟩ := P5
  refine ⟨L5, ?_⟩
  unfold m_law fnU b_law
  simp only [List.length_cons, List.length_nil, if_true, List.map_cons, List.map_nil, List.replicate, List.cons_append, List.nil_append]
  rw [fSeq_nx e5]
  rfl
end Lw
namespace Lw
open PySem L2 MR
set_option maxHeartbeats 4000000
noncomputable def top (i : Nat) : Stmt := PySem.Challenge.pw_belowpoints_k18_so_manieth_in_boxes.main.body.getD i (.Pass ⟨0, 0, 0, 0⟩)
noncomputable abbrev s_l_draw : Stmt := top 19
theorem sc_l_draw : FnScope ["seed", "most", "found", "number"] ["seed", "most"] (defScope s_l_draw) := ⟨rfl, rfl, rfl, by decide +kernel, rfl, by decide +kernel, by decide +kernel⟩
noncomputable abbrev s_l_number : Stmt := top 20
theorem sc_l_number : FnScope ["seed", "way", "great"] ["seed", "way"] (defScope s_l_number) := ⟨rfl, rfl, rfl, by decide +kernel, rfl, by decide +kernel, by decide +kernel⟩
noncomputable abbrev s_l_near : Stmt := top 23
theorem sc_l_near : FnScope ["seed", "numbers", "found"] ["seed", "numbers"] (defScope s_l_near) := ⟨rfl, rfl, rfl, by decide +kernel, rfl, by decide +kernel, by decide +kernel⟩
noncomputable abbrev s_l_place : Stmt := top 24
theorem sc_l_place : FnScope ["seed", "points", "xs", "ys"] ["seed", "points"] (defScope s_l_place) := ⟨rfl, rfl, rfl, by decide +kernel, rfl, by decide +kernel, by decide +kernel⟩
noncomputable abbrev s_l_box : Stmt := top 25
theorem sc_l_box : FnScope ["seed", "points", "one", "other", "low"] ["seed", "points"] (defScope s_l_box) := ⟨rfl, rfl, rfl, by decide +kernel, rfl, by decide +kernel, by decide +kernel⟩
noncomputable abbrev s_l_folded : Stmt := top 17
theorem sc_l_folded : FnScope ["script", "found", "cell"] ["script"] (defScope s_l_folded) := ⟨rfl, rfl, rfl, by decide +kernel, rfl, by decide +kernel, by decide +kernel⟩
noncomputable abbrev s_l_names : Stmt := top 21
theorem sc_l_names : FnScope ["seed", "many", "letters", "spare"] ["seed", "many"] (defScope s_l_names) := ⟨rfl, rfl, rfl, by decide +kernel, rfl, by decide +kernel, by decide +kernel⟩
noncomputable abbrev s_l_points : Stmt := top 22
theorem sc_l_points : FnScope ["seed", "most", "many", "way", "found", "name", "x", "y", "alike", "other"] ["seed", "most"] (defScope s_l_points) := ⟨rfl, rfl, rfl, by decide +kernel, rfl, by decide +kernel, by decide +kernel⟩
noncomputable abbrev s_l_in_order : Stmt := top 28
theorem sc_l_in_order : FnScope ["rows", "found", "row", "at"] ["rows"] (defScope s_l_in_order) := ⟨rfl, rfl, rfl, by decide +kernel, rfl, by decide +kernel, by decide +kernel⟩
noncomputable abbrev s_l_is_in : Stmt := top 26
theorem sc_l_is_in : FnScope ["box", "x", "y"] ["box", "x", "y"] (defScope s_l_is_in) := ⟨rfl, rfl, rfl, by decide +kernel, rfl, by decide +kernel, by decide +kernel⟩
noncomputable abbrev s_l_alone : Stmt := top 27
theorem sc_l_alone : FnScope ["caught"] ["caught"] (defScope s_l_alone) := ⟨rfl, rfl, rfl, by decide +kernel, rfl, by decide +kernel, by decide +kernel⟩
noncomputable abbrev s_NoPlace___init__ : Stmt := inClass (top 2) 0
theorem sc_NoPlace___init__ : FnScope ["self", "text"] ["self", "text"] (defScope s_NoPlace___init__) := ⟨rfl, rfl, rfl, by decide +kernel, rfl, by decide +kernel, by decide +kernel⟩
noncomputable abbrev s_name_at : Stmt := top 15
theorem sc_name_at : FnScope ["points", "place"] ["points", "place"] (defScope s_name_at) := ⟨rfl, rfl, rfl, by decide +kernel, rfl, by decide +kernel, by decide +kernel⟩
noncomputable abbrev s_place_of : Stmt := top 8
theorem sc_place_of : FnScope ["point"] ["point"] (defScope s_place_of) := ⟨rfl, rfl, rfl, by decide +kernel, rfl, by decide +kernel, by decide +kernel⟩
noncomputable abbrev s_is_held : Stmt := top 13
theorem sc_is_held : FnScope ["point", "box"] ["point", "box"] (defScope s_is_held) := ⟨rfl, rfl, rfl, by decide +kernel, rfl, by decide +kernel, by decide +kernel⟩
noncomputable abbrev s_points_in : Stmt := top 12
theorem sc_points_in : FnScope ["points", "box"] ["points", "box"] (defScope s_points_in) := ⟨rfl, rfl, rfl, by decide +kernel, rfl, by decide +kernel, by decide +kernel⟩
noncomputable abbrev s_nth_by_x : Stmt := top 10
theorem sc_nth_by_x : FnScope ["points", "box", "place"] ["points", "box", "place"] (defScope s_nth_by_x) := ⟨rfl, rfl, rfl, by decide +kernel, rfl, by decide +kernel, by decide +kernel⟩
noncomputable abbrev s_turned_place_of : Stmt := top 14
theorem sc_turned_place_of : FnScope ["point"] ["point"] (defScope s_turned_place_of) := ⟨rfl, rfl, rfl, by decide +kernel, rfl, by decide +kernel, by decide +kernel⟩
noncomputable abbrev s_nth_by_y : Stmt := top 11
theorem sc_nth_by_y : FnScope ["points", "box", "place"] ["points", "box", "place"] (defScope s_nth_by_y) := ⟨rfl, rfl, rfl, by decide +kernel, rfl, by decide +kernel, by decide +kernel⟩
noncomputable abbrev s_l_told : Stmt := top 30
theorem sc_l_told : FnScope ["points", "box", "place", "by_x", "found", "caught", "e"] ["points", "box", "place", "by_x"] (defScope s_l_told) := ⟨rfl, rfl, rfl, by decide +kernel, rfl, by decide +kernel, by decide +kernel⟩
noncomputable abbrev s_l_right : Stmt := top 31
theorem sc_l_right : FnScope ["points", "box", "by_x", "far", "rows", "turn", "name", "x", "y", "names", "places", "place", "due"] ["points", "box", "by_x", "far"] (defScope s_l_right) := ⟨rfl, rfl, rfl, by decide +kernel, rfl, by decide +kernel, by decide +kernel⟩
noncomputable abbrev s_l_seed : Stmt := top 18
theorem sc_l_seed : FnScope ["cell", "number"] ["cell"] (defScope s_l_seed) := ⟨rfl, rfl, rfl, by decide +kernel, rfl, by decide +kernel, by decide +kernel⟩
noncomputable abbrev s_l_wide : Stmt := top 29
theorem sc_l_wide : FnScope ["points", "xs", "ys"] ["points"] (defScope s_l_wide) := ⟨rfl, rfl, rfl, by decide +kernel, rfl, by decide +kernel, by decide +kernel⟩
noncomputable abbrev s_law : Stmt := top 32
theorem sc_law : FnScope ["script", "cell", "seed", "points", "boxes", "box", "far"] ["script"] (defScope s_law) := ⟨rfl, rfl, rfl, by decide +kernel, rfl, by decide +kernel, by decide +kernel⟩
set_option genInjectivity false
set_option genSizeOf false
set_option genSizeOfSpec false
structure Defs (K : PySem.W.Frag) (mg : Str → Option Value) where
  A_BelowError : Addr
  A_NoAsk : Addr
  A_NoCounts : Addr
  A_NoName : Addr
  A_NoPlace : Addr
  A_NoPoints : Addr
  f_l_draw : Addr
  d_l_draw : FuncData
  F_l_draw : Fun K "_law_draw" "_law_draw" s_l_draw f_l_draw d_l_draw
  b_l_draw : Binds K d_l_draw ["seed", "most"] []
  g_l_draw : mg "_law_draw" = some (.ref f_l_draw)
  f_l_number : Addr
  d_l_number : FuncData
  F_l_number : Fun K "_law_number" "_law_number" s_l_number f_l_number d_l_number
  b_l_number : Binds K d_l_number ["seed", "way"] []
  g_l_number : mg "_law_number" = some (.ref f_l_number)
  f_l_near : Addr
  d_l_near : FuncData
  F_l_near : Fun K "_law_near" "_law_near" s_l_near f_l_near d_l_near
  b_l_near : Binds K d_l_near ["seed", "numbers"] []
  g_l_near : mg "_law_near" = some (.ref f_l_near)
  f_l_place : Addr
  d_l_place : FuncData
  F_l_place : Fun K "_law_place" "_law_place" s_l_place f_l_place d_l_place
  b_l_place : Binds K d_l_place ["seed", "points"] []
  g_l_place : mg "_law_place" = some (.ref f_l_place)
  f_l_box : Addr
  d_l_box : FuncData
  F_l_box : Fun K "_law_box" "_law_box" s_l_box f_l_box d_l_box
  b_l_box : Binds K d_l_box ["seed", "points"] []
  g_l_box : mg "_law_box" = some (.ref f_l_box)
  f_l_folded : Addr
  d_l_folded : FuncData
  F_l_folded : Fun K "_law_folded" "_law_folded" s_l_folded f_l_folded d_l_folded
  b_l_folded : Binds K d_l_folded ["script"] []
  g_l_folded : mg "_law_folded" = some (.ref f_l_folded)
  f_l_names : Addr
  d_l_names : FuncData
  F_l_names : Fun K "_law_names" "_law_names" s_l_names f_l_names d_l_names
  b_l_names : Binds K d_l_names ["seed", "many"] []
  g_l_names : mg "_law_names" = some (.ref f_l_names)
  f_l_points : Addr
  d_l_points : FuncData
  F_l_points : Fun K "_law_points" "_law_points" s_l_points f_l_points d_l_points
  b_l_points : Binds K d_l_points ["seed", "most"] []
  g_l_points : mg "_law_points" = some (.ref f_l_points)
  f_l_in_order : Addr
  d_l_in_order : FuncData
  F_l_in_order : Fun K "_law_in_order" "_law_in_order" s_l_in_order f_l_in_order d_l_in_order
  b_l_in_order : Binds K d_l_in_order ["rows"] []
  g_l_in_order : mg "_law_in_order" = some (.ref f_l_in_order)
  f_l_is_in : Addr
  d_l_is_in : FuncData
  F_l_is_in : Fun K "_law_is_in" "_law_is_in" s_l_is_in f_l_is_in d_l_is_in
  b_l_is_in : Binds K d_l_is_in ["box", "x", "y"] []
  g_l_is_in : mg "_law_is_in" = some (.ref f_l_is_in)
  f_l_alone : Addr
  d_l_alone : FuncData
  F_l_alone : Fun K "_law_alone" "_law_alone" s_l_alone f_l_alone d_l_alone
  b_l_alone : Binds K d_l_alone ["caught"] []
  g_l_alone : mg "_law_alone" = some (.ref f_l_alone)
  f_NoPlace___init__ : Addr
  d_NoPlace___init__ : FuncData
  F_NoPlace___init__ : Fun K "__init__" "NoPlace.__init__" s_NoPlace___init__ f_NoPlace___init__ d_NoPlace___init__
  b_NoPlace___init__ : Binds K d_NoPlace___init__ ["self", "text"] []
  f_name_at : Addr
  d_name_at : FuncData
  F_name_at : Fun K "name_at" "name_at" s_name_at f_name_at d_name_at
  b_name_at : Binds K d_name_at ["points", "place"] []
  g_name_at : mg "name_at" = some (.ref f_name_at)
  f_place_of : Addr
  d_place_of : FuncData
  F_place_of : Fun K "place_of" "place_of" s_place_of f_place_of d_place_of
  b_place_of : Binds K d_place_of ["point"] []
  g_place_of : mg "place_of" = some (.ref f_place_of)
  f_is_held : Addr
  d_is_held : FuncData
  F_is_held : Fun K "is_held" "is_held" s_is_held f_is_held d_is_held
  b_is_held : Binds K d_is_held ["point", "box"] []
  g_is_held : mg "is_held" = some (.ref f_is_held)
  f_points_in : Addr
  d_points_in : FuncData
  F_points_in : Fun K "points_in" "points_in" s_points_in f_points_in d_points_in
  b_points_in : Binds K d_points_in ["points", "box"] []
  g_points_in : mg "points_in" = some (.ref f_points_in)
  f_nth_by_x : Addr
  d_nth_by_x : FuncData
  F_nth_by_x : Fun K "nth_by_x" "nth_by_x" s_nth_by_x f_nth_by_x d_nth_by_x
  b_nth_by_x : Binds K d_nth_by_x ["points", "box", "place"] []
  g_nth_by_x : mg "nth_by_x" = some (.ref f_nth_by_x)
  f_turned_place_of : Addr
  d_turned_place_of : FuncData
  F_turned_place_of : Fun K "turned_place_of" "turned_place_of" s_turned_place_of f_turned_place_of d_turned_place_of
  b_turned_place_of : Binds K d_turned_place_of ["point"] []
  g_turned_place_of : mg "turned_place_of" = some (.ref f_turned_place_of)
  f_nth_by_y : Addr
  d_nth_by_y : FuncData
  F_nth_by_y : Fun K "nth_by_y" "nth_by_y" s_nth_by_y f_nth_by_y d_nth_by_y
  b_nth_by_y : Binds K d_nth_by_y ["points", "box", "place"] []
  g_nth_by_y : mg "nth_by_y" = some (.ref f_nth_by_y)
  f_l_told : Addr
  d_l_told : FuncData
  F_l_told : Fun K "_law_told" "_law_told" s_l_told f_l_told d_l_told
  b_l_told : Binds K d_l_told ["points", "box", "place", "by_x"] []
  g_l_told : mg "_law_told" = some (.ref f_l_told)
  f_l_right : Addr
  d_l_right : FuncData
  F_l_right : Fun K "_law_right" "_law_right" s_l_right f_l_right d_l_right
  b_l_right : Binds K d_l_right ["points", "box", "by_x", "far"] []
  g_l_right : mg "_law_right" = some (.ref f_l_right)
  f_l_seed : Addr
  d_l_seed : FuncData
  F_l_seed : Fun K "_law_seed" "_law_seed" s_l_seed f_l_seed d_l_seed
  b_l_seed : Binds K d_l_seed ["cell"] []
  g_l_seed : mg "_law_seed" = some (.ref f_l_seed)
  f_l_wide : Addr
  d_l_wide : FuncData
  F_l_wide : Fun K "_law_wide" "_law_wide" s_l_wide f_l_wide d_l_wide
  b_l_wide : Binds K d_l_wide ["points"] []
  g_l_wide : mg "_law_wide" = some (.ref f_l_wide)
  f_law : Addr
  d_law : FuncData
  F_law : Fun K "law" "law" s_law f_law d_law
  b_law : Binds K d_law ["script"] []
  g_law : mg "law" = some (.ref f_law)
  xn_BelowError : PySem.W.nsIn K mainGlobals "BelowError" = some (some (.ref A_BelowError))
  gc_BelowError : mg "BelowError" = some (.ref A_BelowError)
  xn_NoAsk : PySem.W.nsIn K mainGlobals "NoAsk" = some (some (.ref A_NoAsk))
  gc_NoAsk : mg "NoAsk" = some (.ref A_NoAsk)
  xn_NoCounts : PySem.W.nsIn K mainGlobals "NoCounts" = some (some (.ref A_NoCounts))
  gc_NoCounts : mg "NoCounts" = some (.ref A_NoCounts)
  xn_NoName : PySem.W.nsIn K mainGlobals "NoName" = some (some (.ref A_NoName))
  gc_NoName : mg "NoName" = some (.ref A_NoName)
  xn_NoPlace : PySem.W.nsIn K mainGlobals "NoPlace" = some (some (.ref A_NoPlace))
  gc_NoPlace : mg "NoPlace" = some (.ref A_NoPlace)
  xn_NoPoints : PySem.W.nsIn K mainGlobals "NoPoints" = some (some (.ref A_NoPoints))
  gc_NoPoints : mg "NoPoints" = some (.ref A_NoPoints)
  xm_NoPlace : MkX K A_NoPlace f_NoPlace___init__
  bi_BelowError : BInit K A_BelowError
  xt : xTab K ["NoPlace", "NoAsk", "NoPoints", "NoCounts", "NoName"] ["BelowError", "NoPlace", "NoAsk", "NoPoints", "NoCounts", "NoName", "ValueError"] = true
  xv : PySem.W.nsIn K mainGlobals "ValueError" = some none
  n_ValueError : mg "ValueError" = none
  n_enumerate : mg "enumerate" = none
  n_int : mg "int" = none
  n_isinstance : mg "isinstance" = none
  n_len : mg "len" = none
  n_list : mg "list" = none
  n_max : mg "max" = none
  n_min : mg "min" = none
  n_range : mg "range" = none
  n_sorted : mg "sorted" = none
  n_tuple : mg "tuple" = none
section
variable {P : Program} {w : World} {K : PySem.W.Frag} {mg : Str → Option Value} {base : Heap}
theorem ok_l_draw (C : Defs K mg) : FnOk P w K mg base CX0 1 C.f_l_draw C.d_l_draw ["seed", "most"] (spF K 2 m_l_draw) := by
  refine Fun.okF (N := ["seed", "most", "found", "number"]) C.F_l_draw sc_l_draw (fun cdv A outer s H E hr => ?_)
  have hu := hr.units
  refine psf_cons ?s0 ?t0
  case s0 => exact (psf_asg (pf_op op_addA sem_add (pf_ix ix_seq sem_ix (pf_v 0) pf_int (fun _ _ => rfl)) pf_int) (pgf_sub (pf_v 0) pf_int))
  refine psf_cons ?s1 ?t1
  case s1 => exact (psf_if (PWF.pt (pwf_and (ptf_cmp (op_eqU hu) sem_eq (pf_ix ix_seq sem_ix (pf_v 0) pf_int (fun _ _ => rfl)) pf_int (nomark _)) (pwf_and1 (ptf_cmp op_gt sem_gt (pf_ix ix_seq sem_ix (pf_v 0) pf_int (fun _ _ => rfl)) pf_int (nomark _))))) (psf_cons (psf_set (i := 2) (by exact sc_l_draw.nd) (pf_op op_mod sem_mod (pf_ix ix_seq sem_ix (pf_v 0) pf_int (fun _ _ => rfl)) (pf_v 1))) (psf_cons (psf_asg (pf_op op_fdivW sem_div (pf_ix ix_seq sem_ix (pf_v 0) pf_int (fun _ _ => rfl)) (pf_v 1)) (pgf_sub (pf_v 0) pf_int)) (psf_one (psf_ret (pf_v 2))))) psf_nil)
  refine psf_cons ?s2 ?t2
  case s2 => exact (psf_set (i := 3) (by exact sc_l_draw.nd) (pf_op op_mod sem_mod (pf_op op_mulA sem_mul (pf_op op_addA sem_add (pf_op op_addA sem_add (pf_ix ix_seq sem_ix (pf_v 0) pf_int (fun _ _ => rfl)) (pf_op op_mulA sem_mul pf_int (pf_ix ix_seq sem_ix (pf_v 0) pf_int (fun _ _ => rfl)))) pf_int) pf_int) pf_int))
  refine psf_cons ?s3 ?t3
  case s3 => exact (psf_set (i := 3) (by exact sc_l_draw.nd) (pf_op op_mod sem_mod (pf_op op_mulA sem_mul (pf_op op_mod sem_mod (pf_op op_mulA sem_mul (pf_v 3) (pf_v 3)) pf_int) pf_int) pf_int))
  exact (psf_one (psf_ret (pf_op op_mod sem_mod (pf_op op_fdivW sem_div (pf_v 3) pf_int) (pf_v 1))))
theorem ok_l_number (C : Defs K mg) : FnOk P w K mg base CX0 2 C.f_l_number C.d_l_number ["seed", "way"] (spF K 2 m_l_number) := by
  refine Fun.okF (N := ["seed", "way", "great"]) C.F_l_number sc_l_number (fun cdv A outer s H E hr => ?_)
  have hu := hr.units
  refine psf_cons ?s0 ?t0
  case s0 => exact (psf_if (ptf_cmp (op_eqU hu) sem_eq (pf_v 1) pf_int (nomark _)) (psf_one (psf_ret (pf_op op_sub sem_sub (pf_call (ok_l_draw C) (hr.mono (by decide)) (by rfl) C.g_l_draw C.F_l_draw.kp C.b_l_draw (paf_cons (pf_v 0) (paf_cons pf_int paf_nil))) pf_int))) psf_nil)
  refine psf_cons ?s1 ?t1
  case s1 => exact (psf_if (ptf_cmp (op_eqU hu) sem_eq (pf_v 1) pf_int (nomark _)) (psf_one (psf_ret (pf_op op_sub sem_sub (pf_call (ok_l_draw C) (hr.mono (by decide)) (by rfl) C.g_l_draw C.F_l_draw.kp C.b_l_draw (paf_cons (pf_v 0) (paf_cons pf_int paf_nil))) pf_int))) psf_nil)
  refine psf_cons ?s2 ?t2
  case s2 => exact (psf_set (i := 2) (by exact sc_l_number.nd) (pf_ix ix_seq sem_ix (pf_lst (paf_cons (pf_op op_addA sem_add (pf_op op_mulA sem_mul (pf_call (ok_l_draw C) (hr.mono (by decide)) (by rfl) C.g_l_draw C.F_l_draw.kp C.b_l_draw (paf_cons (pf_v 0) (paf_cons (pf_op op_pow sem_pow pf_int pf_int) paf_nil))) (pf_op op_pow sem_pow pf_int pf_int)) (pf_call (ok_l_draw C) (hr.mono (by decide)) (by rfl) C.g_l_draw C.F_l_draw.kp C.b_l_draw (paf_cons (pf_v 0) (paf_cons (pf_op op_pow sem_pow pf_int pf_int) paf_nil)))) (paf_cons (pf_op op_sub sem_sub (pf_op op_pow sem_pow pf_int pf_int) pf_int) paf_nil))) (pf_callTy call_int1 sem_int (by rfl) C.n_int (by decide +kernel) (paf_cons (pf_cmp (op_eqU hu) sem_eq (pf_call (ok_l_draw C) (hr.mono (by decide)) (by rfl) C.g_l_draw C.F_l_draw.kp C.b_l_draw (paf_cons (pf_v 0) (paf_cons pf_int paf_nil))) pf_int (nomark _)) paf_nil)) (fun _ _ => rfl)))
  exact (psf_one (psf_ret (pf_op op_mulA sem_mul (pf_ix ix_seq sem_ix (pf_lst (paf_cons pf_int (paf_cons (pf_neg pf_int) paf_nil))) (pf_call (ok_l_draw C) (hr.mono (by decide)) (by rfl) C.g_l_draw C.F_l_draw.kp C.b_l_draw (paf_cons (pf_v 0) (paf_cons pf_int paf_nil))) (fun _ _ => rfl)) (pf_v 2))))
theorem ok_l_near (C : Defs K mg) : FnOk P w K mg base CX0 3 C.f_l_near C.d_l_near ["seed", "numbers"] (spF K 2 m_l_near) := by
  refine Fun.okF (N := ["seed", "numbers", "found"]) C.F_l_near sc_l_near (fun cdv A outer s H E hr => ?_)
  have hu := hr.units
  refine psf_cons ?s0 ?t0
  case s0 => exact (psf_if (PWF.pt (pwf_or (ptf_cmp (op_eqU hu) sem_eq (pf_v 1) (pf_tup paf_nil) (nomark _)) (pwf_or1 (ptf_cmp (op_eqU hu) sem_eq (pf_call (ok_l_draw C) (hr.mono (by decide)) (by rfl) C.g_l_draw C.F_l_draw.kp C.b_l_draw (paf_cons (pf_v 0) (paf_cons pf_int paf_nil))) pf_int (nomark _))))) (psf_one (psf_ret (pf_call (ok_l_number C) (hr.mono (by decide)) (by rfl) C.g_l_number C.F_l_number.kp C.b_l_number (paf_cons (pf_v 0) (paf_cons (pf_call (ok_l_draw C) (hr.mono (by decide)) (by rfl) C.g_l_draw C.F_l_draw.kp C.b_l_draw (paf_cons (pf_v 0) (paf_cons pf_int paf_nil))) paf_nil))))) psf_nil)
  refine psf_cons ?s1 ?t1
  case s1 => exact (psf_if (ptf_cmp (op_eqU hu) sem_eq (pf_call (ok_l_draw C) (hr.mono (by decide)) (by rfl) C.g_l_draw C.F_l_draw.kp C.b_l_draw (paf_cons (pf_v 0) (paf_cons pf_int paf_nil))) pf_int (nomark _)) (psf_one (psf_ret (pf_ix ix_seq sem_ix (pf_lst (paf_cons (pf_op op_sub sem_sub (pf_op op_pow sem_pow pf_int pf_int) pf_int) (paf_cons (pf_op op_sub sem_sub pf_int (pf_op op_pow sem_pow pf_int pf_int)) (paf_cons (pf_op op_pow sem_pow pf_int pf_int) (paf_cons (pf_op op_sub sem_sub pf_int (pf_op op_pow sem_pow pf_int pf_int)) paf_nil))))) (pf_call (ok_l_draw C) (hr.mono (by decide)) (by rfl) C.g_l_draw C.F_l_draw.kp C.b_l_draw (paf_cons (pf_v 0) (paf_cons pf_int paf_nil))) (fun _ _ => rfl)))) psf_nil)
  refine psf_cons ?s2 ?t2
  case s2 => exact (psf_set (i := 2) (by exact sc_l_near.nd) (pf_op op_sub sem_sub (pf_op op_addA sem_add (pf_ix ix_seq sem_ix (pf_v 1) (pf_call (ok_l_draw C) (hr.mono (by decide)) (by rfl) C.g_l_draw C.F_l_draw.kp C.b_l_draw (paf_cons (pf_v 0) (paf_cons (pf_callB call_len sem_len (by rfl) C.n_len PySem.boot_len (paf_cons (pf_v 1) paf_nil)) paf_nil))) (fun _ _ => rfl)) (pf_call (ok_l_draw C) (hr.mono (by decide)) (by rfl) C.g_l_draw C.F_l_draw.kp C.b_l_draw (paf_cons (pf_v 0) (paf_cons pf_int paf_nil)))) pf_int))
  exact (psf_one (psf_ret (pf_callB (call_maxA rfl) sem_max (by rfl) C.n_max PyProof.Rows.boot_max (paf_cons (pf_op op_sub sem_sub pf_int (pf_op op_pow sem_pow pf_int pf_int)) (paf_cons (pf_callB (call_minA rfl) sem_min (by rfl) C.n_min PyProof.Rows.boot_min (paf_cons (pf_op op_sub sem_sub (pf_op op_pow sem_pow pf_int pf_int) pf_int) (paf_cons (pf_v 2) paf_nil))) paf_nil)))))
theorem ok_l_place (C : Defs K mg) : FnOk P w K mg base CX0 4 C.f_l_place C.d_l_place ["seed", "points"] (spF K 2 m_l_place) := by
  refine Fun.okF (N := ["seed", "points", "xs", "ys"]) C.F_l_place sc_l_place (fun cdv A outer s H E hr => ?_)
  have hu := hr.units
  refine psf_cons ?s0 ?t0
  case s0 => exact (psf_if (PWF.pt (pwf_and (ptf_cmp (op_neU hu) sem_ne (pf_v 1) (pf_tup paf_nil) (nomark _)) (pwf_and1 (ptf_cmp (op_eqU hu) sem_eq (pf_call (ok_l_draw C) (hr.mono (by decide)) (by rfl) C.g_l_draw C.F_l_draw.kp C.b_l_draw (paf_cons (pf_v 0) (paf_cons pf_int paf_nil))) pf_int (nomark _))))) (psf_one (psf_ret (pf_slice sl_all sem_sl (pf_ix ix_seq sem_ix (pf_v 1) (pf_call (ok_l_draw C) (hr.mono (by decide)) (by rfl) C.g_l_draw C.F_l_draw.kp C.b_l_draw (paf_cons (pf_v 0) (paf_cons (pf_callB call_len sem_len (by rfl) C.n_len PySem.boot_len (paf_cons (pf_v 1) paf_nil)) paf_nil))) (fun _ _ => rfl)) (pof_some pf_int) pof_none))) psf_nil)
  refine psf_cons ?s1 ?t1
  case s1 => exact (psf_set (i := 2) (by exact sc_l_place.nd) (pf_callTy call_tuple_of sem_tuple (by rfl) C.n_tuple (by decide +kernel) (paf_cons (pf_comp (N' := ["name", "x", "y"]) (ix := [none, none, none]) ⟨rfl, rfl, rfl, rfl, rfl, rfl⟩ rfl (pif_seq (pf_v 1)) (fun _ _ _ _ _ _ => (pgf_tup rfl (pgsf_cons (pgf_name (i := 0) (show List.Nodup (α := Str) ["name", "x", "y"] by decide +kernel)) (pgsf_cons (pgf_name (i := 1) (show List.Nodup (α := Str) ["name", "x", "y"] by decide +kernel)) (pgsf_cons (pgf_name (i := 2) (show List.Nodup (α := Str) ["name", "x", "y"] by decide +kernel)) pgsf_nil))))) (fun _ _ _ _ _ _ => (pf_v 1))) paf_nil)))
  refine psf_cons ?s2 ?t2
  case s2 => exact (psf_set (i := 3) (by exact sc_l_place.nd) (pf_callTy call_tuple_of sem_tuple (by rfl) C.n_tuple (by decide +kernel) (paf_cons (pf_comp (N' := ["name", "x", "y"]) (ix := [none, none, none]) ⟨rfl, rfl, rfl, rfl, rfl, rfl⟩ rfl (pif_seq (pf_v 1)) (fun _ _ _ _ _ _ => (pgf_tup rfl (pgsf_cons (pgf_name (i := 0) (show List.Nodup (α := Str) ["name", "x", "y"] by decide +kernel)) (pgsf_cons (pgf_name (i := 1) (show List.Nodup (α := Str) ["name", "x", "y"] by decide +kernel)) (pgsf_cons (pgf_name (i := 2) (show List.Nodup (α := Str) ["name", "x", "y"] by decide +kernel)) pgsf_nil))))) (fun _ _ _ _ _ _ => (pf_v 2))) paf_nil)))
  exact (psf_one (psf_ret (pf_tup (paf_cons (pf_call (ok_l_near C) (hr.mono (by decide)) (by rfl) C.g_l_near C.F_l_near.kp C.b_l_near (paf_cons (pf_v 0) (paf_cons (pf_v 2) paf_nil))) (paf_cons (pf_call (ok_l_near C) (hr.mono (by decide)) (by rfl) C.g_l_near C.F_l_near.kp C.b_l_near (paf_cons (pf_v 0) (paf_cons (pf_v 3) paf_nil))) paf_nil)))))
theorem ok_l_box (C : Defs K mg) : FnOk P w K mg base CX0 5 C.f_l_box C.d_l_box ["seed", "points"] (spF K 2 m_l_box) := by
  refine Fun.okF (N := ["seed", "points", "one", "other", "low"]) C.F_l_box sc_l_box (fun cdv A outer s H E hr => ?_)
  have hu := hr.units
  refine psf_cons ?s0 ?t0
  case s0 => exact (psf_set (i := 2) (by exact sc_l_box.nd) (pf_call (ok_l_place C) (hr.mono (by decide)) (by rfl) C.g_l_place C.F_l_place.kp C.b_l_place (paf_cons (pf_v 0) (paf_cons (pf_v 1) paf_nil))))
  refine psf_cons ?s1 ?t1
  case s1 => exact (psf_set (i := 3) (by exact sc_l_box.nd) (pf_call (ok_l_place C) (hr.mono (by decide)) (by rfl) C.g_l_place C.F_l_place.kp C.b_l_place (paf_cons (pf_v 0) (paf_cons (pf_v 1) paf_nil))))
  refine psf_cons ?s2 ?t2
  case s2 => exact (psf_if (ptf_cmp (op_eqU hu) sem_eq (pf_call (ok_l_draw C) (hr.mono (by decide)) (by rfl) C.g_l_draw C.F_l_draw.kp C.b_l_draw (paf_cons (pf_v 0) (paf_cons pf_int paf_nil))) pf_int (nomark _)) (psf_one (psf_ret (pf_op op_addA sem_add (pf_v 2) (pf_v 3)))) psf_nil)
  refine psf_cons ?s3 ?t3
  case s3 => exact (psf_set (i := 4) (by exact sc_l_box.nd) (pf_tup (paf_cons (pf_callB (call_minA rfl) sem_min (by rfl) C.n_min PyProof.Rows.boot_min (paf_cons (pf_ix ix_seq sem_ix (pf_v 2) pf_int (fun _ _ => rfl)) (paf_cons (pf_ix ix_seq sem_ix (pf_v 3) pf_int (fun _ _ => rfl)) paf_nil))) (paf_cons (pf_callB (call_minA rfl) sem_min (by rfl) C.n_min PyProof.Rows.boot_min (paf_cons (pf_ix ix_seq sem_ix (pf_v 2) pf_int (fun _ _ => rfl)) (paf_cons (pf_ix ix_seq sem_ix (pf_v 3) pf_int (fun _ _ => rfl)) paf_nil))) paf_nil))))
  exact (psf_one (psf_ret (pf_op op_addA sem_add (pf_v 4) (pf_tup (paf_cons (pf_callB (call_maxA rfl) sem_max (by rfl) C.n_max PyProof.Rows.boot_max (paf_cons (pf_ix ix_seq sem_ix (pf_v 2) pf_int (fun _ _ => rfl)) (paf_cons (pf_ix ix_seq sem_ix (pf_v 3) pf_int (fun _ _ => rfl)) paf_nil))) (paf_cons (pf_callB (call_maxA rfl) sem_max (by rfl) C.n_max PyProof.Rows.boot_max (paf_cons (pf_ix ix_seq sem_ix (pf_v 2) pf_int (fun _ _ => rfl)) (paf_cons (pf_ix ix_seq sem_ix (pf_v 3) pf_int (fun _ _ => rfl)) paf_nil))) paf_nil))))))
theorem ok_l_folded (C : Defs K mg) : FnOk P w K mg base CX0 1 C.f_l_folded C.d_l_folded ["script"] (spF K 1 m_l_folded) := by
  refine Fun.okF (N := ["script", "found", "cell"]) C.F_l_folded sc_l_folded (fun cdv A outer s H E hr => ?_)
  have hu := hr.units
  refine psf_cons ?s0 ?t0
  case s0 => exact (psf_set (i := 1) (by exact sc_l_folded.nd) (pf_callB call_len sem_len (by rfl) C.n_len PySem.boot_len (paf_cons (pf_v 0) paf_nil)))
  refine psf_cons ?s1 ?t1
  case s1 => exact (psf_for PassesOwn.never rfl (pif_seq (pf_v 0)) (pgf_name (i := 2) (by exact sc_l_folded.nd)) (psf_one (psf_set (i := 1) (by exact sc_l_folded.nd) (pf_op op_mod sem_mod (pf_op op_addA sem_add (pf_op op_mulA sem_mul (pf_v 1) pf_int) (pf_op op_mod sem_mod (pf_v 2) pf_int)) pf_int))))
  exact (psf_one (psf_ret (pf_v 1)))
theorem ok_l_names (C : Defs K mg) : FnOk P w K mg base CX0 2 C.f_l_names C.d_l_names ["seed", "many"] (spF K 2 m_l_names) := by
  refine Fun.okF (N := ["seed", "many", "letters", "spare"]) C.F_l_names sc_l_names (fun cdv A outer s H E hr => ?_)
  have hu := hr.units
  refine psf_cons ?s0 ?t0
  case s0 => exact (psf_set (i := 2) (by exact sc_l_names.nd) pf_str)
  refine psf_cons ?s1 ?t1
  case s1 => exact (psf_set (i := 3) (by exact sc_l_names.nd) (pf_op op_addA sem_add (pf_op op_addA sem_add (pf_comp (N' := ["sign"]) (ix := [none]) ⟨rfl, rfl, rfl, rfl, rfl, rfl⟩ rfl (pif_str (pf_v 2)) (fun _ _ _ _ _ _ => (pgf_name (i := 0) (show List.Nodup (α := Str) ["sign"] by decide +kernel))) (fun _ _ _ _ _ _ => (pf_v 0))) (pf_comp (N' := ["sign"]) (ix := [none]) ⟨rfl, rfl, rfl, rfl, rfl, rfl⟩ rfl (pif_str (pf_v 2)) (fun _ _ _ _ _ _ => (pgf_name (i := 0) (show List.Nodup (α := Str) ["sign"] by decide +kernel))) (fun _ _ _ _ _ _ => (pf_op op_addA sem_add (pf_v 0) pf_str)))) (pf_comp (N' := ["sign"]) (ix := [none]) ⟨rfl, rfl, rfl, rfl, rfl, rfl⟩ rfl (pif_str (pf_v 2)) (fun _ _ _ _ _ _ => (pgf_name (i := 0) (show List.Nodup (α := Str) ["sign"] by decide +kernel))) (fun _ _ _ _ _ _ => (pf_op op_addA sem_add pf_str (pf_v 0))))))
  refine psf_cons ?s2 ?t2
  case s2 => exact (psf_set (i := 3) (by exact sc_l_names.nd) (pf_op op_addA sem_add (pf_v 3) (pf_lst (by refine paf_cons pf_str ?_; refine paf_cons pf_str ?_; refine paf_cons pf_str ?_; refine paf_cons pf_str ?_; refine paf_cons pf_str ?_; refine paf_cons pf_str ?_; refine paf_cons pf_str ?_; refine paf_cons pf_str ?_; refine paf_cons pf_str ?_; refine paf_cons pf_str ?_; exact paf_nil))))
  refine psf_cons ?s3 ?t3
  case s3 => exact (psf_set (i := 3) (by exact sc_l_names.nd) (pf_op op_addA sem_add (pf_v 3) (pf_lst (by refine paf_cons pf_str ?_; refine paf_cons pf_str ?_; refine paf_cons pf_str ?_; refine paf_cons pf_str ?_; refine paf_cons pf_str ?_; refine paf_cons pf_str ?_; refine paf_cons pf_str ?_; exact paf_nil))))
  exact (psf_one (psf_ret (pf_comp (N' := ["k", "spare", "seed"]) (ix := [none, some 3, some 0]) ⟨rfl, rfl, rfl, rfl, rfl, rfl⟩ rfl (pif_range1 (by rfl) C.n_range (paf_cons (pf_v 1) paf_nil)) (fun _ _ _ _ _ _ => (pgf_name (i := 0) (show List.Nodup (α := Str) ["k", "spare", "seed"] by decide +kernel))) (fun _ _ _ _ _ _ => (pf_bm PySem.F.plainAttrs_list PySem.F.slot_list_pop PySem.F.type_list_pop mt_popAt sem_pop (pf_v 1) (paf_cons (pf_call (ok_l_draw C) (hr.mono (by decide)) (by rfl) C.g_l_draw C.F_l_draw.kp C.b_l_draw (paf_cons (pf_v 2) (paf_cons (pf_callB call_len sem_len (by rfl) C.n_len PySem.boot_len (paf_cons (pf_v 1) paf_nil)) paf_nil))) paf_nil))))))
theorem ok_l_points (C : Defs K mg) : FnOk P w K mg base CX0 3 C.f_l_points C.d_l_points ["seed", "most"] (spF K 2 m_l_points) := by
  refine Fun.okF (N := ["seed", "most", "many", "way", "found", "name", "x", "y", "alike", "other"]) C.F_l_points sc_l_points (fun cdv A outer s H E hr => ?_)
  have hu := hr.units
  refine psf_cons ?s0 ?t0
  case s0 => exact (psf_set (i := 2) (by exact sc_l_points.nd) (pf_ix ix_seq sem_ix (pf_lst (paf_cons (pf_call (ok_l_draw C) (hr.mono (by decide)) (by rfl) C.g_l_draw C.F_l_draw.kp C.b_l_draw (paf_cons (pf_v 0) (paf_cons pf_int paf_nil))) (paf_cons (pf_call (ok_l_draw C) (hr.mono (by decide)) (by rfl) C.g_l_draw C.F_l_draw.kp C.b_l_draw (paf_cons (pf_v 0) (paf_cons (pf_op op_addA sem_add (pf_v 1) pf_int) paf_nil))) (paf_cons (pf_v 1) paf_nil)))) (pf_call (ok_l_draw C) (hr.mono (by decide)) (by rfl) C.g_l_draw C.F_l_draw.kp C.b_l_draw (paf_cons (pf_v 0) (paf_cons pf_int paf_nil))) (fun _ _ => rfl)))
  refine psf_cons ?s1 ?t1
  case s1 => exact (psf_set (i := 3) (by exact sc_l_points.nd) (pf_call (ok_l_draw C) (hr.mono (by decide)) (by rfl) C.g_l_draw C.F_l_draw.kp C.b_l_draw (paf_cons (pf_v 0) (paf_cons pf_int paf_nil))))
  refine psf_cons ?s2 ?t2
  case s2 => exact (psf_set (i := 4) (by exact sc_l_points.nd) (pf_lst paf_nil))
  refine psf_cons ?s3 ?t3
  case s3 => exact (psf_for PassesOwn.never rfl (pif_seq (pf_call (ok_l_names C) (hr.mono (by decide)) (by rfl) C.g_l_names C.F_l_names.kp C.b_l_names (paf_cons (pf_v 0) (paf_cons (pf_v 2) paf_nil)))) (pgf_name (i := 5) (by exact sc_l_points.nd)) (psf_cons (psf_set (i := 6) (by exact sc_l_points.nd) (pf_call (ok_l_number C) (hr.mono (by decide)) (by rfl) C.g_l_number C.F_l_number.kp C.b_l_number (paf_cons (pf_v 0) (paf_cons (pf_v 3) paf_nil)))) (psf_cons (psf_set (i := 7) (by exact sc_l_points.nd) (pf_call (ok_l_number C) (hr.mono (by decide)) (by rfl) C.g_l_number C.F_l_number.kp C.b_l_number (paf_cons (pf_v 0) (paf_cons (pf_v 3) paf_nil)))) (psf_cons (psf_set (i := 8) (by exact sc_l_points.nd) (pf_call (ok_l_draw C) (hr.mono (by decide)) (by rfl) C.g_l_draw C.F_l_draw.kp C.b_l_draw (paf_cons (pf_v 0) (paf_cons pf_int paf_nil)))) (psf_cons (psf_if (PWF.pt (pwf_and (ptf_cmp (op_neU hu) sem_ne (pf_v 4) (pf_lst paf_nil) (nomark _)) (pwf_and1 (ptf_cmp op_lt sem_lt (pf_v 8) pf_int (nomark _))))) (psf_cons (psf_set (i := 9) (by exact sc_l_points.nd) (pf_ix ix_seq sem_ix (pf_v 4) (pf_call (ok_l_draw C) (hr.mono (by decide)) (by rfl) C.g_l_draw C.F_l_draw.kp C.b_l_draw (paf_cons (pf_v 0) (paf_cons (pf_callB call_len sem_len (by rfl) C.n_len PySem.boot_len (paf_cons (pf_v 4) paf_nil)) paf_nil))) (fun _ _ => rfl))) (psf_cons (psf_set (i := 6) (by exact sc_l_points.nd) (pf_ix ix_seq sem_ix (pf_v 9) pf_int (fun _ _ => rfl))) (psf_one (psf_set (i := 7) (by exact sc_l_points.nd) (pf_ix ix_seq sem_ix (pf_lst (paf_cons (pf_v 7) (paf_cons (pf_ix ix_seq sem_ix (pf_v 9) pf_int (fun _ _ => rfl)) paf_nil))) (pf_v 8) (fun _ _ => rfl)))))) psf_nil) (psf_one (psf_expr (pf_bm PySem.F.plainAttrs_list PySem.F.slot_list_append PySem.F.type_list_append mt_append sem_append (pf_v 4) (paf_cons (pf_tup (paf_cons (pf_v 5) (paf_cons (pf_v 6) (paf_cons (pf_v 7) paf_nil)))) paf_nil)))))))))
  exact (psf_one (psf_ret (pf_callTy call_tuple_of sem_tuple (by rfl) C.n_tuple (by decide +kernel) (paf_cons (pf_v 4) paf_nil))))
theorem ok_l_in_order (C : Defs K mg) : FnOk P w K mg base CX0 1 C.f_l_in_order C.d_l_in_order ["rows"] (spF K 1 m_l_in_order) := by
  refine Fun.okF (N := ["rows", "found", "row", "at"]) C.F_l_in_order sc_l_in_order (fun cdv A outer s H E hr => ?_)
  have hu := hr.units
  refine psf_cons ?s0 ?t0
  case s0 => exact (psf_set (i := 1) (by exact sc_l_in_order.nd) (pf_lst paf_nil))
  refine psf_cons ?s1 ?t1
  case s1 => exact (psf_for PassesOwn.never rfl (pif_seq (pf_v 0)) (pgf_name (i := 2) (by exact sc_l_in_order.nd)) (psf_cons (psf_set (i := 3) (by exact sc_l_in_order.nd) (pf_callB call_len sem_len (by rfl) C.n_len PySem.boot_len (paf_cons (pf_compT (N' := ["one", "row"]) (ix := [none, some 2]) ⟨rfl, rfl, rfl, rfl, rfl, rfl⟩ rfl (pif_seq (pf_v 1)) (fun _ _ _ _ _ _ => (pgf_name (i := 0) (show List.Nodup (α := Str) ["one", "row"] by decide +kernel))) (fun _ _ _ _ _ _ => (ptf_cmp (op_ltA hu) sem_ltA (pf_slice sl_all sem_sl (pf_v 0) pof_none (pof_some pf_int)) (pf_slice sl_all sem_sl (pf_v 1) pof_none (pof_some pf_int)) (nomark _))) (fun _ _ _ _ _ _ => pf_int)) paf_nil))) (psf_one (psf_expr (pf_bm PySem.F.plainAttrs_list PySem.F.slot_list_insert PySem.F.type_list_insert mt_insert sem_insert (pf_v 1) (paf_cons (pf_v 3) (paf_cons (pf_v 2) paf_nil)))))))
  exact (psf_one (psf_ret (pf_comp (N' := ["row"]) (ix := [none]) ⟨rfl, rfl, rfl, rfl, rfl, rfl⟩ rfl (pif_seq (pf_v 1)) (fun _ _ _ _ _ _ => (pgf_name (i := 0) (show List.Nodup (α := Str) ["row"] by decide +kernel))) (fun _ _ _ _ _ _ => (pf_ix ix_seq sem_ix (pf_v 0) pf_int (fun _ _ => rfl))))))
theorem ok_l_is_in (C : Defs K mg) : FnOk P w K mg base CX0 1 C.f_l_is_in C.d_l_is_in ["box", "x", "y"] (spF K 3 m_l_is_in) := by
  refine Fun.okF (N := ["box", "x", "y"]) C.F_l_is_in sc_l_is_in (fun cdv A outer s H E hr => ?_)
  have hu := hr.units
  exact (psf_one (psf_ret (pf_and (pf_cmp op_le sem_le (pf_ix ix_seq sem_ix (pf_v 0) pf_int (fun _ _ => rfl)) (pf_v 1) (nomark _)) (pf_and (pf_cmp op_le sem_le (pf_v 1) (pf_ix ix_seq sem_ix (pf_v 0) pf_int (fun _ _ => rfl)) (nomark _)) (pf_and (pf_cmp op_le sem_le (pf_ix ix_seq sem_ix (pf_v 0) pf_int (fun _ _ => rfl)) (pf_v 2) (nomark _)) (pf_one (pf_cmp op_le sem_le (pf_v 2) (pf_ix ix_seq sem_ix (pf_v 0) pf_int (fun _ _ => rfl)) (nomark _))))))))
theorem ok_l_alone (C : Defs K mg) : FnOk P w K mg base CX0 1 C.f_l_alone C.d_l_alone ["caught"] (spF K 1 m_l_alone) := by
  refine Fun.okF (N := ["caught"]) C.F_l_alone sc_l_alone (fun cdv A outer s H E hr => ?_)
  have hu := hr.units
  refine psf_cons ?s0 ?t0
  case s0 => exact (psf_if (PWF.pt (pwf_or (ptf_not (ptf_tru (pf_isx C.xt (by decide) C.xn_NoPlace (pf_v 0) (by rfl) C.n_isinstance (by rfl) C.gc_NoPlace))) (pwf_or (ptf_not (ptf_tru (pf_isx C.xt (by decide) C.xn_BelowError (pf_v 0) (by rfl) C.n_isinstance (by rfl) C.gc_BelowError))) (pwf_or1 (ptf_not (ptf_tru (pf_isxV C.xt (by decide) C.xv (pf_v 0) (by rfl) C.n_isinstance (by rfl) C.n_ValueError))))))) (psf_one (psf_ret pf_bl)) psf_nil)
  exact (psf_one (psf_ret (pf_not (pf_isxt C.xt (by decide) (.cons C.xn_NoAsk (by rfl) C.gc_NoAsk (.cons C.xn_NoCounts (by rfl) C.gc_NoCounts (.cons C.xn_NoName (by rfl) C.gc_NoName (.cons C.xn_NoPoints (by rfl) C.gc_NoPoints .nil)))) (pf_v 0) (by rfl) C.n_isinstance))))
theorem ok_NoPlace___init__ (C : Defs K mg) : FnOk P w K mg base CX0 1 C.f_NoPlace___init__ C.d_NoPlace___init__ ["self", "text"] (spF K 2 m_NoPlace___init__) := by
  refine Fun.okF (N := ["self", "text"]) C.F_NoPlace___init__ sc_NoPlace___init__ (fun cdv A outer s H E hr => ?_)
  have hu := hr.units
  exact (psf_one (psf_expr (pf_binit (AllX.of C.xt) C.bi_BelowError (by rfl) C.gc_BelowError (paf_cons (pf_v 0) (paf_cons (pf_v 1) paf_nil)))))
theorem ok_name_at (C : Defs K mg) : FnOk P w K mg base CX0 1 C.f_name_at C.d_name_at ["points", "place"] (spF K 2 m_name_at) := by
  refine Fun.okF (N := ["points", "place"]) C.F_name_at sc_name_at (fun cdv A outer s H E hr => ?_)
  have hu := hr.units
  refine psf_cons ?s0 ?t0
  case s0 => exact (psf_if (PWF.pt (pwf_or (ptf_cmp op_lt sem_lt (pf_v 1) pf_int (nomark _)) (pwf_or1 (ptf_cmp op_ge sem_ge (pf_v 1) (pf_callB call_len sem_len (by rfl) C.n_len PySem.boot_len (paf_cons (pf_v 0) paf_nil)) (nomark _))))) (psf_one psf_never) psf_nil)
  exact (psf_one (psf_ret (pf_ix ix_seq sem_ix (pf_ix ix_seq sem_ix (pf_v 0) (pf_v 1) (fun _ _ => rfl)) pf_int (fun _ _ => rfl))))
theorem okx_name_at (C : Defs K mg) : FnX P w K mg base 3 C.f_name_at C.d_name_at ["points", "place"] x_name_at := by
  refine Fun.okX (N := ["points", "place"]) C.F_name_at sc_name_at (fun cdv A outer s H E hr => ?_)
  have hu := hr.units
  exact (xss_first (xs_if (PWF.pt (pwf_or (ptf_cmp op_lt sem_lt (pf_v 1) pf_int (nomark _)) (pwf_or1 (ptf_cmp op_ge sem_ge (pf_v 1) (pf_callB call_len sem_len (by rfl) C.n_len PySem.boot_len (paf_cons (pf_v 0) paf_nil)) (nomark _))))) (xss_one (xs_raise (AllX.of C.xt) (pf_makeX C.xn_NoPlace C.xm_NoPlace (ok_NoPlace___init__ C) (hr.mono (by decide)) (by rfl) C.gc_NoPlace C.b_NoPlace___init__ (paf_cons (pf_joined (.cons pf_str (.cons (pf_fmt (pf_v 1)) (.cons pf_str .nil)))) paf_nil)))) xss_no))
theorem ok_place_of (C : Defs K mg) : FnOk P w K mg base CX0 1 C.f_place_of C.d_place_of ["point"] (spF K 1 m_place_of) := by
  refine Fun.okF (N := ["point"]) C.F_place_of sc_place_of (fun cdv A outer s H E hr => ?_)
  have hu := hr.units
  exact (psf_one (psf_ret (pf_tup (paf_cons (pf_ix ix_seq sem_ix (pf_v 0) pf_int (fun _ _ => rfl)) (paf_cons (pf_ix ix_seq sem_ix (pf_v 0) pf_int (fun _ _ => rfl)) paf_nil)))))
theorem ok_is_held (C : Defs K mg) : FnOk P w K mg base CX0 1 C.f_is_held C.d_is_held ["point", "box"] (spF K 2 m_is_held) := by
  refine Fun.okF (N := ["point", "box"]) C.F_is_held sc_is_held (fun cdv A outer s H E hr => ?_)
  have hu := hr.units
  exact (psf_one (psf_ret (pf_and (pf_chain op_le op_le sem_le sem_le (pf_ix ix_seq sem_ix (pf_v 1) pf_int (fun _ _ => rfl)) (pf_ix ix_seq sem_ix (pf_v 0) pf_int (fun _ _ => rfl)) (pf_ix ix_seq sem_ix (pf_v 1) pf_int (fun _ _ => rfl))) (pf_one (pf_chain op_le op_le sem_le sem_le (pf_ix ix_seq sem_ix (pf_v 1) pf_int (fun _ _ => rfl)) (pf_ix ix_seq sem_ix (pf_v 0) pf_int (fun _ _ => rfl)) (pf_ix ix_seq sem_ix (pf_v 1) pf_int (fun _ _ => rfl)))))))
theorem ok_points_in (C : Defs K mg) : FnOk P w K mg base CX0 2 C.f_points_in C.d_points_in ["points", "box"] (spF K 2 m_points_in) := by
  refine Fun.okF (N := ["points", "box"]) C.F_points_in sc_points_in (fun cdv A outer s H E hr => ?_)
  have hu := hr.units
  exact (psf_one (psf_ret (pf_compT (N' := ["point", "box"]) (ix := [none, some 1]) ⟨rfl, rfl, rfl, rfl, rfl, rfl⟩ rfl (pif_seq (pf_v 0)) (fun _ _ _ _ _ _ => (pgf_name (i := 0) (show List.Nodup (α := Str) ["point", "box"] by decide +kernel))) (fun _ _ _ _ _ _ => (ptf_tru (pf_call (ok_is_held C) (hr.mono (by decide)) (by rfl) C.g_is_held C.F_is_held.kp C.b_is_held (paf_cons (pf_v 0) (paf_cons (pf_v 1) paf_nil))))) (fun _ _ _ _ _ _ => (pf_v 0)))))
theorem ok_nth_by_x (C : Defs K mg) : FnOk P w K mg base CX0 4 C.f_nth_by_x C.d_nth_by_x ["points", "box", "place"] (spF K 3 m_nth_by_x) := by
  refine Fun.okF (N := ["points", "box", "place"]) C.F_nth_by_x sc_nth_by_x (fun cdv A outer s H E hr => ?_)
  have hu := hr.units
  exact (psf_one (psf_ret (pf_call (ok_name_at C) (hr.mono (by decide)) (by rfl) C.g_name_at C.F_name_at.kp C.b_name_at (paf_cons (pf_sortK (ok_place_of C) (hr.mono (by decide)) C.b_place_of (by rfl) C.n_sorted (by rfl) C.g_place_of (pf_call (ok_points_in C) (hr.mono (by decide)) (by rfl) C.g_points_in C.F_points_in.kp C.b_points_in (paf_cons (pf_v 0) (paf_cons (pf_v 1) paf_nil)))) (paf_cons (pf_v 2) paf_nil)))))
theorem okx_nth_by_x (C : Defs K mg) : FnX P w K mg base 4 C.f_nth_by_x C.d_nth_by_x ["points", "box", "place"] x_nth_by_x := by
  refine Fun.okX (N := ["points", "box", "place"]) C.F_nth_by_x sc_nth_by_x (fun cdv A outer s H E hr => ?_)
  have hu := hr.units
  exact (xss_one (xs_ret (xe_call (okx_name_at C) (hr.mono (by decide)) (by rfl) C.g_name_at C.F_name_at.kp C.b_name_at (paf_cons (pf_sortK (ok_place_of C) (hr.mono (by decide)) C.b_place_of (by rfl) C.n_sorted (by rfl) C.g_place_of (pf_call (ok_points_in C) (hr.mono (by decide)) (by rfl) C.g_points_in C.F_points_in.kp C.b_points_in (paf_cons (pf_v 0) (paf_cons (pf_v 1) paf_nil)))) (paf_cons (pf_v 2) paf_nil)))))
theorem ok_turned_place_of (C : Defs K mg) : FnOk P w K mg base CX0 1 C.f_turned_place_of C.d_turned_place_of ["point"] (spF K 1 m_turned_place_of) := by
  refine Fun.okF (N := ["point"]) C.F_turned_place_of sc_turned_place_of (fun cdv A outer s H E hr => ?_)
  have hu := hr.units
  exact (psf_one (psf_ret (pf_tup (paf_cons (pf_ix ix_seq sem_ix (pf_v 0) pf_int (fun _ _ => rfl)) (paf_cons (pf_ix ix_seq sem_ix (pf_v 0) pf_int (fun _ _ => rfl)) paf_nil)))))
theorem ok_nth_by_y (C : Defs K mg) : FnOk P w K mg base CX0 4 C.f_nth_by_y C.d_nth_by_y ["points", "box", "place"] (spF K 3 m_nth_by_y) := by
  refine Fun.okF (N := ["points", "box", "place"]) C.F_nth_by_y sc_nth_by_y (fun cdv A outer s H E hr => ?_)
  have hu := hr.units
  exact (psf_one (psf_ret (pf_call (ok_name_at C) (hr.mono (by decide)) (by rfl) C.g_name_at C.F_name_at.kp C.b_name_at (paf_cons (pf_sortK (ok_turned_place_of C) (hr.mono (by decide)) C.b_turned_place_of (by rfl) C.n_sorted (by rfl) C.g_turned_place_of (pf_call (ok_points_in C) (hr.mono (by decide)) (by rfl) C.g_points_in C.F_points_in.kp C.b_points_in (paf_cons (pf_v 0) (paf_cons (pf_v 1) paf_nil)))) (paf_cons (pf_v 2) paf_nil)))))
theorem okx_nth_by_y (C : Defs K mg) : FnX P w K mg base 4 C.f_nth_by_y C.d_nth_by_y ["points", "box", "place"] x_nth_by_y := by
  refine Fun.okX (N := ["points", "box", "place"]) C.F_nth_by_y sc_nth_by_y (fun cdv A outer s H E hr => ?_)
  have hu := hr.units
  exact (xss_one (xs_ret (xe_call (okx_name_at C) (hr.mono (by decide)) (by rfl) C.g_name_at C.F_name_at.kp C.b_name_at (paf_cons (pf_sortK (ok_turned_place_of C) (hr.mono (by decide)) C.b_turned_place_of (by rfl) C.n_sorted (by rfl) C.g_turned_place_of (pf_call (ok_points_in C) (hr.mono (by decide)) (by rfl) C.g_points_in C.F_points_in.kp C.b_points_in (paf_cons (pf_v 0) (paf_cons (pf_v 1) paf_nil)))) (paf_cons (pf_v 2) paf_nil)))))
theorem ok_l_told (C : Defs K mg) : FnOk P w K mg base CX0 5 C.f_l_told C.d_l_told ["points", "box", "place", "by_x"] (spF K 4 m_l_told) := by
  refine Fun.okF (N := ["points", "box", "place", "by_x", "found", "caught", "e"]) C.F_l_told sc_l_told (fun cdv A outer s H E hr => ?_)
  have hu := hr.units
  refine psf_cons ?s0 ?t0
  case s0 => exact (psf_set (i := 4) (by exact sc_l_told.nd) pf_non)
  refine psf_cons ?s1 ?t1
  case s1 => exact (psf_set (i := 5) (by exact sc_l_told.nd) pf_non)
  refine psf_cons ?s2 ?t2
  case s2 => exact (psf_try (i := 6) (AllM.sub C.xt (by decide) (by decide) C.xn_BelowError (by decide)) (by exact sc_l_told.nd) (psf_one (psf_if (ptf_tru (pf_v 3)) (psf_one (psf_set (i := 4) (by exact sc_l_told.nd) (pf_call (ok_nth_by_x C) (hr.mono (by decide)) (by rfl) C.g_nth_by_x C.F_nth_by_x.kp C.b_nth_by_x (paf_cons (pf_v 0) (paf_cons (pf_v 1) (paf_cons (pf_v 2) paf_nil)))))) (psf_one (psf_set (i := 4) (by exact sc_l_told.nd) (pf_call (ok_nth_by_y C) (hr.mono (by decide)) (by rfl) C.g_nth_by_y C.F_nth_by_y.kp C.b_nth_by_y (paf_cons (pf_v 0) (paf_cons (pf_v 1) (paf_cons (pf_v 2) paf_nil)))))))) (xss_one (xs_if (ptf_tru (pf_v 3)) (xss_one (xs_set (xe_call (okx_nth_by_x C) (hr.mono (by decide)) (by rfl) C.g_nth_by_x C.F_nth_by_x.kp C.b_nth_by_x (paf_cons (pf_v 0) (paf_cons (pf_v 1) (paf_cons (pf_v 2) paf_nil)))))) (xss_one (xs_set (xe_call (okx_nth_by_y C) (hr.mono (by decide)) (by rfl) C.g_nth_by_y C.F_nth_by_y.kp C.b_nth_by_y (paf_cons (pf_v 0) (paf_cons (pf_v 1) (paf_cons (pf_v 2) paf_nil)))))))) (fun _ => (psf_one (psf_set (i := 5) (by exact sc_l_told.nd) (pf_v 6)))) (by rfl) C.gc_BelowError)
  refine psf_cons ?s3 ?t3
  case s3 => exact (psf_if (ptf_cmp op_notN sem_notN (pf_v 5) pf_non (nomark _)) (psf_one (psf_ret (pf_ix ix_seq sem_ix (pf_lst (paf_cons pf_int (paf_cons (pf_tup (paf_cons pf_str paf_nil)) paf_nil))) (pf_callTy call_int1 sem_int (by rfl) C.n_int (by decide +kernel) (paf_cons (pf_call (ok_l_alone C) (hr.mono (by decide)) (by rfl) C.g_l_alone C.F_l_alone.kp C.b_l_alone (paf_cons (pf_v 5) paf_nil)) paf_nil)) (fun _ _ => rfl)))) psf_nil)
  exact (psf_one (psf_ret (pf_v 4)))
theorem ok_l_right (C : Defs K mg) : FnOk P w K mg base CX0 6 C.f_l_right C.d_l_right ["points", "box", "by_x", "far"] (spF K 4 m_l_right) := by
  refine Fun.okF (N := ["points", "box", "by_x", "far", "rows", "turn", "name", "x", "y", "names", "places", "place", "due"]) C.F_l_right sc_l_right (fun cdv A outer s H E hr => ?_)
  have hu := hr.units
  refine psf_cons ?s0 ?t0
  case s0 => exact (psf_set (i := 4) (by exact sc_l_right.nd) (pf_lst paf_nil))
  refine psf_cons ?s1 ?t1
  case s1 => exact (psf_for PassesOwn.never rfl (pif_enumA (by rfl) C.n_enumerate (paf_cons (pf_v 0) paf_nil)) (pgf_tup rfl (pgsf_cons (pgf_name (i := 5) (by exact sc_l_right.nd)) (pgsf_cons (pgf_tup rfl (pgsf_cons (pgf_name (i := 6) (by exact sc_l_right.nd)) (pgsf_cons (pgf_name (i := 7) (by exact sc_l_right.nd)) (pgsf_cons (pgf_name (i := 8) (by exact sc_l_right.nd)) pgsf_nil)))) pgsf_nil))) (psf_one (psf_if (ptf_tru (pf_call (ok_l_is_in C) (hr.mono (by decide)) (by rfl) C.g_l_is_in C.F_l_is_in.kp C.b_l_is_in (paf_cons (pf_v 1) (paf_cons (pf_v 7) (paf_cons (pf_v 8) paf_nil))))) (psf_one (psf_expr (pf_bm PySem.F.plainAttrs_list PySem.F.slot_list_append PySem.F.type_list_append mt_append sem_append (pf_v 4) (paf_cons (pf_ix ix_seq sem_ix (pf_lst (paf_cons (pf_tup (paf_cons (pf_v 8) (paf_cons (pf_v 7) (paf_cons (pf_v 5) (paf_cons (pf_v 6) paf_nil))))) (paf_cons (pf_tup (paf_cons (pf_v 7) (paf_cons (pf_v 8) (paf_cons (pf_v 5) (paf_cons (pf_v 6) paf_nil))))) paf_nil))) (pf_callTy call_int1 sem_int (by rfl) C.n_int (by decide +kernel) (paf_cons (pf_v 2) paf_nil)) (fun _ _ => rfl)) paf_nil)))) psf_nil)))
  refine psf_cons ?s2 ?t2
  case s2 => exact (psf_set (i := 9) (by exact sc_l_right.nd) (pf_call (ok_l_in_order C) (hr.mono (by decide)) (by rfl) C.g_l_in_order C.F_l_in_order.kp C.b_l_in_order (paf_cons (pf_v 4) paf_nil)))
  refine psf_cons ?s3 ?t3
  case s3 => exact (psf_set (i := 10) (by exact sc_l_right.nd) (pf_op op_addA sem_add (pf_lrng1 rfl (by rfl) C.n_list (by rfl) C.n_range (paf_cons (pf_callB (call_minA rfl) sem_min (by rfl) C.n_min PyProof.Rows.boot_min (paf_cons pf_int (paf_cons (pf_callB call_len sem_len (by rfl) C.n_len PySem.boot_len (paf_cons (pf_v 9) paf_nil)) paf_nil))) paf_nil)) (pf_lst (by refine paf_cons (pf_op op_sub sem_sub (pf_callB call_len sem_len (by rfl) C.n_len PySem.boot_len (paf_cons (pf_v 9) paf_nil)) pf_int) ?_; refine paf_cons (pf_callB call_len sem_len (by rfl) C.n_len PySem.boot_len (paf_cons (pf_v 9) paf_nil)) ?_; refine paf_cons (pf_op op_addA sem_add (pf_callB call_len sem_len (by rfl) C.n_len PySem.boot_len (paf_cons (pf_v 9) paf_nil)) (pf_v 3)) ?_; refine paf_cons (pf_neg pf_int) ?_; refine paf_cons (pf_op op_sub sem_sub (pf_neg pf_int) (pf_v 3)) ?_; exact paf_nil))))
  refine psf_cons ?s4 ?t4
  case s4 => exact (psf_expr (pf_bm PySem.F.plainAttrs_list PySem.F.slot_list_append PySem.F.type_list_append mt_append sem_append (pf_v 10) (paf_cons (pf_op op_mod sem_mod (pf_v 3) (pf_callB (call_maxA rfl) sem_max (by rfl) C.n_max PyProof.Rows.boot_max (paf_cons pf_int (paf_cons (pf_callB call_len sem_len (by rfl) C.n_len PySem.boot_len (paf_cons (pf_v 9) paf_nil)) paf_nil)))) paf_nil)))
  refine psf_cons ?s5 ?t5
  case s5 => exact (psf_for PassesOwn.never rfl (pif_seq (pf_v 10)) (pgf_name (i := 11) (by exact sc_l_right.nd)) (psf_cons (psf_set (i := 12) (by exact sc_l_right.nd) (pf_tup (paf_cons pf_str paf_nil))) (psf_cons (psf_if (ptf_chain op_le op_lt sem_le sem_lt pf_int (pf_v 11) (pf_callB call_len sem_len (by rfl) C.n_len PySem.boot_len (paf_cons (pf_v 9) paf_nil))) (psf_one (psf_set (i := 12) (by exact sc_l_right.nd) (pf_ix ix_seq sem_ix (pf_v 9) (pf_v 11) (fun _ _ => rfl)))) psf_nil) (psf_one (psf_if (ptf_cmp (op_neU hu) sem_ne (pf_call (ok_l_told C) (hr.mono (by decide)) (by rfl) C.g_l_told C.F_l_told.kp C.b_l_told (paf_cons (pf_v 0) (paf_cons (pf_v 1) (paf_cons (pf_v 11) (paf_cons (pf_v 2) paf_nil))))) (pf_v 12) (nomark _)) (psf_one (psf_ret pf_bl)) psf_nil)))))
  exact (psf_one (psf_ret pf_bl))
theorem ok_l_seed (C : Defs K mg) : FnOk P w K mg base CX0 1 C.f_l_seed C.d_l_seed ["cell"] (spF K 1 m_l_seed) := by
  refine Fun.okF (N := ["cell", "number"]) C.F_l_seed sc_l_seed (fun cdv A outer s H E hr => ?_)
  have hu := hr.units
  refine psf_cons ?s0 ?t0
  case s0 => exact (psf_set (i := 1) (by exact sc_l_seed.nd) (pf_callB (call_maxA rfl) sem_max (by rfl) C.n_max PyProof.Rows.boot_max (paf_cons (pf_v 0) (paf_cons (pf_op op_sub sem_sub pf_int (pf_v 0)) paf_nil))))
  exact (psf_one (psf_ret (pf_lst (paf_cons (pf_v 1) (paf_cons (pf_callTy call_int1 sem_int (by rfl) C.n_int (by decide +kernel) (paf_cons (pf_cmp op_ge sem_ge (pf_v 1) (pf_op op_pow sem_pow pf_int pf_int) (nomark _)) paf_nil)) (paf_cons pf_int (paf_cons (pf_op op_mod sem_mod (pf_v 0) pf_int) paf_nil)))))))
theorem ok_l_wide (C : Defs K mg) : FnOk P w K mg base CX0 1 C.f_l_wide C.d_l_wide ["points"] (spF K 1 m_l_wide) := by
  refine Fun.okF (N := ["points", "xs", "ys"]) C.F_l_wide sc_l_wide (fun cdv A outer s H E hr => ?_)
  have hu := hr.units
  refine psf_cons ?s0 ?t0
  case s0 => exact (psf_set (i := 1) (by exact sc_l_wide.nd) (pf_op op_addA sem_add (pf_comp (N' := ["name", "x", "y"]) (ix := [none, none, none]) ⟨rfl, rfl, rfl, rfl, rfl, rfl⟩ rfl (pif_seq (pf_v 0)) (fun _ _ _ _ _ _ => (pgf_tup rfl (pgsf_cons (pgf_name (i := 0) (show List.Nodup (α := Str) ["name", "x", "y"] by decide +kernel)) (pgsf_cons (pgf_name (i := 1) (show List.Nodup (α := Str) ["name", "x", "y"] by decide +kernel)) (pgsf_cons (pgf_name (i := 2) (show List.Nodup (α := Str) ["name", "x", "y"] by decide +kernel)) pgsf_nil))))) (fun _ _ _ _ _ _ => (pf_v 1))) (pf_lst (paf_cons pf_int paf_nil))))
  refine psf_cons ?s1 ?t1
  case s1 => exact (psf_set (i := 2) (by exact sc_l_wide.nd) (pf_op op_addA sem_add (pf_comp (N' := ["name", "x", "y"]) (ix := [none, none, none]) ⟨rfl, rfl, rfl, rfl, rfl, rfl⟩ rfl (pif_seq (pf_v 0)) (fun _ _ _ _ _ _ => (pgf_tup rfl (pgsf_cons (pgf_name (i := 0) (show List.Nodup (α := Str) ["name", "x", "y"] by decide +kernel)) (pgsf_cons (pgf_name (i := 1) (show List.Nodup (α := Str) ["name", "x", "y"] by decide +kernel)) (pgsf_cons (pgf_name (i := 2) (show List.Nodup (α := Str) ["name", "x", "y"] by decide +kernel)) pgsf_nil))))) (fun _ _ _ _ _ _ => (pf_v 2))) (pf_lst (paf_cons pf_int paf_nil))))
  exact (psf_one (psf_ret (pf_tup (paf_cons (pf_callB (call_minA rfl) sem_min (by rfl) C.n_min PyProof.Rows.boot_min (paf_cons (pf_v 1) paf_nil)) (paf_cons (pf_callB (call_minA rfl) sem_min (by rfl) C.n_min PyProof.Rows.boot_min (paf_cons (pf_v 2) paf_nil)) (paf_cons (pf_callB (call_maxA rfl) sem_max (by rfl) C.n_max PyProof.Rows.boot_max (paf_cons (pf_v 1) paf_nil)) (paf_cons (pf_callB (call_maxA rfl) sem_max (by rfl) C.n_max PyProof.Rows.boot_max (paf_cons (pf_v 2) paf_nil)) paf_nil)))))))
theorem ok_law (C : Defs K mg) : FnOk P w K mg base CX0 7 C.f_law C.d_law ["script"] (spF K 1 m_law) := by
  refine Fun.okF (N := ["script", "cell", "seed", "points", "boxes", "box", "far"]) C.F_law sc_law (fun cdv A outer s H E hr => ?_)
  have hu := hr.units
  refine psf_cons ?s0 ?t0
  case s0 => exact (psf_for PassesOwn.never rfl (pif_seq (pf_op op_addA sem_add (pf_slice sl_all sem_sl (pf_v 0) pof_none (pof_some pf_int)) (pf_lst (paf_cons (pf_call (ok_l_folded C) (hr.mono (by decide)) (by rfl) C.g_l_folded C.F_l_folded.kp C.b_l_folded (paf_cons (pf_v 0) paf_nil)) paf_nil)))) (pgf_name (i := 1) (by exact sc_law.nd)) (psf_cons (psf_set (i := 2) (by exact sc_law.nd) (pf_call (ok_l_seed C) (hr.mono (by decide)) (by rfl) C.g_l_seed C.F_l_seed.kp C.b_l_seed (paf_cons (pf_v 1) paf_nil))) (psf_cons (psf_set (i := 3) (by exact sc_law.nd) (pf_call (ok_l_points C) (hr.mono (by decide)) (by rfl) C.g_l_points C.F_l_points.kp C.b_l_points (paf_cons (pf_v 2) (paf_cons pf_int paf_nil)))) (psf_cons (psf_set (i := 4) (by exact sc_law.nd) (pf_op op_addA sem_add (pf_comp (N' := ["turn", "seed", "points"]) (ix := [none, some 2, some 3]) ⟨rfl, rfl, rfl, rfl, rfl, rfl⟩ rfl (pif_range1 (by rfl) C.n_range (paf_cons pf_int paf_nil)) (fun _ _ _ _ _ _ => (pgf_name (i := 0) (show List.Nodup (α := Str) ["turn", "seed", "points"] by decide +kernel))) (fun _ _ _ _ _ _ => (pf_call (ok_l_box C) (hr.mono (by decide)) (by rfl) C.g_l_box C.F_l_box.kp C.b_l_box (paf_cons (pf_v 1) (paf_cons (pf_v 2) paf_nil))))) (pf_lst (paf_cons (pf_call (ok_l_wide C) (hr.mono (by decide)) (by rfl) C.g_l_wide C.F_l_wide.kp C.b_l_wide (paf_cons (pf_v 3) paf_nil)) paf_nil)))) (psf_one (psf_for PassesOwn.never rfl (pif_seq (pf_v 4)) (pgf_name (i := 5) (by exact sc_law.nd)) (psf_cons (psf_set (i := 6) (by exact sc_law.nd) (pf_op op_addA sem_add (pf_op op_addA sem_add pf_int (pf_call (ok_l_draw C) (hr.mono (by decide)) (by rfl) C.g_l_draw C.F_l_draw.kp C.b_l_draw (paf_cons (pf_v 2) (paf_cons (pf_op op_pow sem_pow pf_int pf_int) paf_nil)))) (pf_op op_mulA sem_mul (pf_op op_pow sem_pow pf_int pf_int) (pf_call (ok_l_draw C) (hr.mono (by decide)) (by rfl) C.g_l_draw C.F_l_draw.kp C.b_l_draw (paf_cons (pf_v 2) (paf_cons pf_int paf_nil)))))) (psf_one (psf_if (PWF.pt (pwf_or (ptf_not (ptf_tru (pf_call (ok_l_right C) (hr.mono (by decide)) (by rfl) C.g_l_right C.F_l_right.kp C.b_l_right (paf_cons (pf_v 3) (paf_cons (pf_v 5) (paf_cons pf_bl (paf_cons (pf_v 6) paf_nil))))))) (pwf_or1 (ptf_not (ptf_tru (pf_call (ok_l_right C) (hr.mono (by decide)) (by rfl) C.g_l_right C.F_l_right.kp C.b_l_right (paf_cons (pf_v 3) (paf_cons (pf_v 5) (paf_cons pf_bl (paf_cons (pf_v 6) paf_nil)))))))))) (psf_one (psf_ret pf_bl)) psf_nil)))))))))
  exact (psf_one (psf_ret pf_bl))
end
theorem all_mk {l : PySem.W.OpenLaw} {w : World} {K : PySem.W.Frag} {h : Heap} {mg : Str → Option Value} {fa : Addr} (X : K.In h) (G : h.Ns mainGlobals mg) (hfa : mg "law" = some (.ref fa))
    {od0 an0 : Option Addr} {sl0 : Array (Option Value)} {oc0 kV0 dc0 pm0 cd0 ct0 : Value} {f0 : Addr} {od1 an1 : Option Addr} {sl1 : Array (Option Value)} {oc1 kV1 dc1 pm1 cd1 ct1 : Value} {f1 : Addr} {od2 an2 : Option Addr} {sl2 : Array (Option Value)} {oc2 kV2 dc2 pm2 cd2 ct2 : Value} {f2 : Addr} {od3 an3 : Option Addr} {sl3 : Array (Option Value)} {oc3 kV3 dc3 pm3 cd3 ct3 : Value} {f3 : Addr} {od4 an4 : Option Addr} {sl4 : Array (Option Value)} {oc4 kV4 dc4 pm4 cd4 ct4 : Value} {f4 : Addr} {od5 an5 : Option Addr} {sl5 : Array (Option Value)} {oc5 kV5 dc5 pm5 cd5 ct5 : Value} {f5 : Addr} {od6 an6 : Option Addr} {sl6 : Array (Option Value)} {oc6 kV6 dc6 pm6 cd6 ct6 : Value} {f6 : Addr} {od7 an7 : Option Addr} {sl7 : Array (Option Value)} {oc7 kV7 dc7 pm7 cd7 ct7 : Value} {f7 : Addr} {od8 an8 : Option Addr} {sl8 : Array (Option Value)} {oc8 kV8 dc8 pm8 cd8 ct8 : Value} {f8 : Addr} {od9 an9 : Option Addr} {sl9 : Array (Option Value)} {oc9 kV9 dc9 pm9 cd9 ct9 : Value} {f9 : Addr} {od10 an10 : Option Addr} {sl10 : Array (Option Value)} {oc10 kV10 dc10 pm10 cd10 ct10 : Value} {f10 : Addr} {od11 an11 : Option Addr} {sl11 : Array (Option Value)} {oc11 kV11 dc11 pm11 cd11 ct11 : Value} {f11 : Addr} {od12 an12 : Option Addr} {sl12 : Array (Option Value)} {oc12 kV12 dc12 pm12 cd12 ct12 : Value} {f12 : Addr} {od13 an13 : Option Addr} {sl13 : Array (Option Value)} {oc13 kV13 dc13 pm13 cd13 ct13 : Value} {f13 : Addr} {od14 an14 : Option Addr} {sl14 : Array (Option Value)} {oc14 kV14 dc14 pm14 cd14 ct14 : Value} {f14 : Addr} {od15 an15 : Option Addr} {sl15 : Array (Option Value)} {oc15 kV15 dc15 pm15 cd15 ct15 : Value} {f15 : Addr} {od16 an16 : Option Addr} {sl16 : Array (Option Value)} {oc16 kV16 dc16 pm16 cd16 ct16 : Value} {f16 : Addr} {od17 an17 : Option Addr} {sl17 : Array (Option Value)} {oc17 kV17 dc17 pm17 cd17 ct17 : Value} {f17 : Addr} {od18 an18 : Option Addr} {sl18 : Array (Option Value)} {oc18 kV18 dc18 pm18 cd18 ct18 : Value} {f18 : Addr} {od19 an19 : Option Addr} {sl19 : Array (Option Value)} {oc19 kV19 dc19 pm19 cd19 ct19 : Value} {f19 : Addr} {od20 an20 : Option Addr} {sl20 : Array (Option Value)} {oc20 kV20 dc20 pm20 cd20 ct20 : Value} {f20 : Addr} {od21 an21 : Option Addr} {sl21 : Array (Option Value)} {oc21 kV21 dc21 pm21 cd21 ct21 : Value} {f21 : Addr} {od22 an22 : Option Addr} {sl22 : Array (Option Value)} {oc22 kV22 dc22 pm22 cd22 ct22 : Value} {f22 : Addr} {od23 an23 : Option Addr} {sl23 : Array (Option Value)} {oc23 kV23 dc23 pm23 cd23 ct23 : Value} {f23 : Addr}
    {A_BelowError : Addr} (xn_BelowError : PySem.W.nsIn K mainGlobals "BelowError" = some (some (.ref A_BelowError)))
    {A_NoAsk : Addr} (xn_NoAsk : PySem.W.nsIn K mainGlobals "NoAsk" = some (some (.ref A_NoAsk)))
    {A_NoCounts : Addr} (xn_NoCounts : PySem.W.nsIn K mainGlobals "NoCounts" = some (some (.ref A_NoCounts)))
    {A_NoName : Addr} (xn_NoName : PySem.W.nsIn K mainGlobals "NoName" = some (some (.ref A_NoName)))
    {A_NoPlace : Addr} (xn_NoPlace : PySem.W.nsIn K mainGlobals "NoPlace" = some (some (.ref A_NoPlace)))
    {A_NoPoints : Addr} (xn_NoPoints : PySem.W.nsIn K mainGlobals "NoPoints" = some (some (.ref A_NoPoints)))
    (ex_NoPlace : excI K A_NoPlace = true) (kc_NoPlace : PySem.W.keepIn K (.ref A_NoPlace) = true)
    (bs_BelowError : PySem.W.specialIn K (.ref A_BelowError) "__getattribute__" = some (some (.builtin "type.__getattribute__"))) (br_BelowError : PySem.W.readsIn K A_BelowError (.type "type") = true) (bf_BelowError : bInit K A_BelowError = true)
    (xt : xTab K ["NoPlace", "NoAsk", "NoPoints", "NoCounts", "NoName"] ["BelowError", "NoPlace", "NoAsk", "NoPoints", "NoCounts", "NoName", "ValueError"] = true)
    (xv : PySem.W.nsIn K mainGlobals "ValueError" = some none)
    (a0 : PySem.W.nsIn K mainGlobals "_law_draw" = some (some (.ref f0))) (l0 : K.lookup f0 = some ⟨oc0, od0, .func (PySem.W.fnOf "_law_draw" "_law_draw" (defArgs s_l_draw) (defBody s_l_draw) (defScope s_l_draw) .none kV0 dc0 pm0 an0 cd0 ct0), sl0⟩) (c0 : PySem.W.codeIn K cd0 "_law_draw" = true) (k0 : PySem.W.keepIn K (.ref f0) = true)
    (a1 : PySem.W.nsIn K mainGlobals "_law_number" = some (some (.ref f1))) (l1 : K.lookup f1 = some ⟨oc1, od1, .func (PySem.W.fnOf "_law_number" "_law_number" (defArgs s_l_number) (defBody s_l_number) (defScope s_l_number) .none kV1 dc1 pm1 an1 cd1 ct1), sl1⟩) (c1 : PySem.W.codeIn K cd1 "_law_number" = true) (k1 : PySem.W.keepIn K (.ref f1) = true)
    (a2 : PySem.W.nsIn K mainGlobals "_law_near" = some (some (.ref f2))) (l2 : K.lookup f2 = some ⟨oc2, od2, .func (PySem.W.fnOf "_law_near" "_law_near" (defArgs s_l_near) (defBody s_l_near) (defScope s_l_near) .none kV2 dc2 pm2 an2 cd2 ct2), sl2⟩) (c2 : PySem.W.codeIn K cd2 "_law_near" = true) (k2 : PySem.W.keepIn K (.ref f2) = true)
    (a3 : PySem.W.nsIn K mainGlobals "_law_place" = some (some (.ref f3))) (l3 : K.lookup f3 = some ⟨oc3, od3, .func (PySem.W.fnOf "_law_place" "_law_place" (defArgs s_l_place) (defBody s_l_place) (defScope s_l_place) .none kV3 dc3 pm3 an3 cd3 ct3), sl3⟩) (c3 : PySem.W.codeIn K cd3 "_law_place" = true) (k3 : PySem.W.keepIn K (.ref f3) = true)
    (a4 : PySem.W.nsIn K mainGlobals "_law_box" = some (some (.ref f4))) (l4 : K.lookup f4 = some ⟨oc4, od4, .func (PySem.W.fnOf "_law_box" "_law_box" (defArgs s_l_box) (defBody s_l_box) (defScope s_l_box) .none kV4 dc4 pm4 an4 cd4 ct4), sl4⟩) (c4 : PySem.W.codeIn K cd4 "_law_box" = true) (k4 : PySem.W.keepIn K (.ref f4) = true)
    (a5 : PySem.W.nsIn K mainGlobals "_law_folded" = some (some (.ref f5))) (l5 : K.lookup f5 = some ⟨oc5, od5, .func (PySem.W.fnOf "_law_folded" "_law_folded" (defArgs s_l_folded) (defBody s_l_folded) (defScope s_l_folded) .none kV5 dc5 pm5 an5 cd5 ct5), sl5⟩) (c5 : PySem.W.codeIn K cd5 "_law_folded" = true) (k5 : PySem.W.keepIn K (.ref f5) = true)
    (a6 : PySem.W.nsIn K mainGlobals "_law_names" = some (some (.ref f6))) (l6 : K.lookup f6 = some ⟨oc6, od6, .func (PySem.W.fnOf "_law_names" "_law_names" (defArgs s_l_names) (defBody s_l_names) (defScope s_l_names) .none kV6 dc6 pm6 an6 cd6 ct6), sl6⟩) (c6 : PySem.W.codeIn K cd6 "_law_names" = true) (k6 : PySem.W.keepIn K (.ref f6) = true)
    (a7 : PySem.W.nsIn K mainGlobals "_law_points" = some (some (.ref f7))) (l7 : K.lookup f7 = some ⟨oc7, od7, .func (PySem.W.fnOf "_law_points" "_law_points" (defArgs s_l_points) (defBody s_l_points) (defScope s_l_points) .none kV7 dc7 pm7 an7 cd7 ct7), sl7⟩) (c7 : PySem.W.codeIn K cd7 "_law_points" = true) (k7 : PySem.W.keepIn K (.ref f7) = true)
    (a8 : PySem.W.nsIn K mainGlobals "_law_in_order" = some (some (.ref f8))) (l8 : K.lookup f8 = some ⟨oc8, od8, .func (PySem.W.fnOf "_law_in_order" "_law_in_order" (defArgs s_l_in_order) (defBody s_l_in_order) (defScope s_l_in_order) .none kV8 dc8 pm8 an8 cd8 ct8), sl8⟩) (c8 : PySem.W.codeIn K cd8 "_law_in_order" = true) (k8 : PySem.W.keepIn K (.ref f8) = true)
    (a9 : PySem.W.nsIn K mainGlobals "_law_is_in" = some (some (.ref f9))) (l9 : K.lookup f9 = some ⟨oc9, od9, .func (PySem.W.fnOf "_law_is_in" "_law_is_in" (defArgs s_l_is_in) (defBody s_l_is_in) (defScope s_l_is_in) .none kV9 dc9 pm9 an9 cd9 ct9), sl9⟩) (c9 : PySem.W.codeIn K cd9 "_law_is_in" = true) (k9 : PySem.W.keepIn K (.ref f9) = true)
    (a10 : PySem.W.nsIn K mainGlobals "_law_alone" = some (some (.ref f10))) (l10 : K.lookup f10 = some ⟨oc10, od10, .func (PySem.W.fnOf "_law_alone" "_law_alone" (defArgs s_l_alone) (defBody s_l_alone) (defScope s_l_alone) .none kV10 dc10 pm10 an10 cd10 ct10), sl10⟩) (c10 : PySem.W.codeIn K cd10 "_law_alone" = true) (k10 : PySem.W.keepIn K (.ref f10) = true)
    (a11 : PySem.W.findIn K (.ref A_NoPlace) "__init__" = some (some (.ref f11))) (i11 : PySem.W.isFn K (.ref f11) = true) (l11 : K.lookup f11 = some ⟨oc11, od11, .func (PySem.W.fnOf "__init__" "NoPlace.__init__" (defArgs s_NoPlace___init__) (defBody s_NoPlace___init__) (defScope s_NoPlace___init__) .none kV11 dc11 pm11 an11 cd11 ct11), sl11⟩) (c11 : PySem.W.codeIn K cd11 "NoPlace.__init__" = true) (k11 : PySem.W.keepIn K (.ref f11) = true)
    (a12 : PySem.W.nsIn K mainGlobals "name_at" = some (some (.ref f12))) (l12 : K.lookup f12 = some ⟨oc12, od12, .func (PySem.W.fnOf "name_at" "name_at" (defArgs s_name_at) (defBody s_name_at) (defScope s_name_at) .none kV12 dc12 pm12 an12 cd12 ct12), sl12⟩) (c12 : PySem.W.codeIn K cd12 "name_at" = true) (k12 : PySem.W.keepIn K (.ref f12) = true)
    (a13 : PySem.W.nsIn K mainGlobals "place_of" = some (some (.ref f13))) (l13 : K.lookup f13 = some ⟨oc13, od13, .func (PySem.W.fnOf "place_of" "place_of" (defArgs s_place_of) (defBody s_place_of) (defScope s_place_of) .none kV13 dc13 pm13 an13 cd13 ct13), sl13⟩) (c13 : PySem.W.codeIn K cd13 "place_of" = true) (k13 : PySem.W.keepIn K (.ref f13) = true)
    (a14 : PySem.W.nsIn K mainGlobals "is_held" = some (some (.ref f14))) (l14 : K.lookup f14 = some ⟨oc14, od14, .func (PySem.W.fnOf "is_held" "is_held" (defArgs s_is_held) (defBody s_is_held) (defScope s_is_held) .none kV14 dc14 pm14 an14 cd14 ct14), sl14⟩) (c14 : PySem.W.codeIn K cd14 "is_held" = true) (k14 : PySem.W.keepIn K (.ref f14) = true)
    (a15 : PySem.W.nsIn K mainGlobals "points_in" = some (some (.ref f15))) (l15 : K.lookup f15 = some ⟨oc15, od15, .func (PySem.W.fnOf "points_in" "points_in" (defArgs s_points_in) (defBody s_points_in) (defScope s_points_in) .none kV15 dc15 pm15 an15 cd15 ct15), sl15⟩) (c15 : PySem.W.codeIn K cd15 "points_in" = true) (k15 : PySem.W.keepIn K (.ref f15) = true)
    (a16 : PySem.W.nsIn K mainGlobals "nth_by_x" = some (some (.ref f16))) (l16 : K.lookup f16 = some ⟨oc16, od16, .func (PySem.W.fnOf "nth_by_x" "nth_by_x" (defArgs s_nth_by_x) (defBody s_nth_by_x) (defScope s_nth_by_x) .none kV16 dc16 pm16 an16 cd16 ct16), sl16⟩) (c16 : PySem.W.codeIn K cd16 "nth_by_x" = true) (k16 : PySem.W.keepIn K (.ref f16) = true)
    (a17 : PySem.W.nsIn K mainGlobals "turned_place_of" = some (some (.ref f17))) (l17 : K.lookup f17 = some ⟨oc17, od17, .func (PySem.W.fnOf "turned_place_of" "turned_place_of" (defArgs s_turned_place_of) (defBody s_turned_place_of) (defScope s_turned_place_of) .none kV17 dc17 pm17 an17 cd17 ct17), sl17⟩) (c17 : PySem.W.codeIn K cd17 "turned_place_of" = true) (k17 : PySem.W.keepIn K (.ref f17) = true)
    (a18 : PySem.W.nsIn K mainGlobals "nth_by_y" = some (some (.ref f18))) (l18 : K.lookup f18 = some ⟨oc18, od18, .func (PySem.W.fnOf "nth_by_y" "nth_by_y" (defArgs s_nth_by_y) (defBody s_nth_by_y) (defScope s_nth_by_y) .none kV18 dc18 pm18 an18 cd18 ct18), sl18⟩) (c18 : PySem.W.codeIn K cd18 "nth_by_y" = true) (k18 : PySem.W.keepIn K (.ref f18) = true)
    (a19 : PySem.W.nsIn K mainGlobals "_law_told" = some (some (.ref f19))) (l19 : K.lookup f19 = some ⟨oc19, od19, .func (PySem.W.fnOf "_law_told" "_law_told" (defArgs s_l_told) (defBody s_l_told) (defScope s_l_told) .none kV19 dc19 pm19 an19 cd19 ct19), sl19⟩) (c19 : PySem.W.codeIn K cd19 "_law_told" = true) (k19 : PySem.W.keepIn K (.ref f19) = true)
    (a20 : PySem.W.nsIn K mainGlobals "_law_right" = some (some (.ref f20))) (l20 : K.lookup f20 = some ⟨oc20, od20, .func (PySem.W.fnOf "_law_right" "_law_right" (defArgs s_l_right) (defBody s_l_right) (defScope s_l_right) .none kV20 dc20 pm20 an20 cd20 ct20), sl20⟩) (c20 : PySem.W.codeIn K cd20 "_law_right" = true) (k20 : PySem.W.keepIn K (.ref f20) = true)
    (a21 : PySem.W.nsIn K mainGlobals "_law_seed" = some (some (.ref f21))) (l21 : K.lookup f21 = some ⟨oc21, od21, .func (PySem.W.fnOf "_law_seed" "_law_seed" (defArgs s_l_seed) (defBody s_l_seed) (defScope s_l_seed) .none kV21 dc21 pm21 an21 cd21 ct21), sl21⟩) (c21 : PySem.W.codeIn K cd21 "_law_seed" = true) (k21 : PySem.W.keepIn K (.ref f21) = true)
    (a22 : PySem.W.nsIn K mainGlobals "_law_wide" = some (some (.ref f22))) (l22 : K.lookup f22 = some ⟨oc22, od22, .func (PySem.W.fnOf "_law_wide" "_law_wide" (defArgs s_l_wide) (defBody s_l_wide) (defScope s_l_wide) .none kV22 dc22 pm22 an22 cd22 ct22), sl22⟩) (c22 : PySem.W.codeIn K cd22 "_law_wide" = true) (k22 : PySem.W.keepIn K (.ref f22) = true)
    (a23 : PySem.W.nsIn K mainGlobals "law" = some (some (.ref f23))) (l23 : K.lookup f23 = some ⟨oc23, od23, .func (PySem.W.fnOf "law" "law" (defArgs s_law) (defBody s_law) (defScope s_law) .none kV23 dc23 pm23 an23 cd23 ct23), sl23⟩) (c23 : PySem.W.codeIn K cd23 "law" = true) (k23 : PySem.W.keepIn K (.ref f23) = true)
    (z_ValueError : PySem.W.nsIn K mainGlobals "ValueError" = some none)
    (z_enumerate : PySem.W.nsIn K mainGlobals "enumerate" = some none)
    (z_int : PySem.W.nsIn K mainGlobals "int" = some none)
    (z_isinstance : PySem.W.nsIn K mainGlobals "isinstance" = some none)
    (z_len : PySem.W.nsIn K mainGlobals "len" = some none)
    (z_list : PySem.W.nsIn K mainGlobals "list" = some none)
    (z_max : PySem.W.nsIn K mainGlobals "max" = some none)
    (z_min : PySem.W.nsIn K mainGlobals "min" = some none)
    (z_range : PySem.W.nsIn K mainGlobals "range" = some none)
    (z_sorted : PySem.W.nsIn K mainGlobals "sorted" = some none)
    (z_tuple : PySem.W.nsIn K mainGlobals "tuple" = some none) :
    ∃ fd : FuncData, (∀ (s : Shared) (v : Value), BindsTo s fd ⟨[v], []⟩ [("script", v)]) ∧ ∀ base : Heap, K.In base → base.Ns mainGlobals mg → FnOk l.prog w K mg base CX0 7 fa fd ["script"] (spF K 1 m_law) := by
  have e := hfa.symm.trans (PySem.W.mg_of X G a23)
  cases e
  have F0 := fun_mk (st := s_l_draw) l0 c0 k0
  have b0 := F0.binds (ps := ["seed", "most"]) fun _ _ _ _ _ _ => all2 (fun _ _ => rfl)
  have F1 := fun_mk (st := s_l_number) l1 c1 k1
  have b1 := F1.binds (ps := ["seed", "way"]) fun _ _ _ _ _ _ => all2 (fun _ _ => rfl)
  have F2 := fun_mk (st := s_l_near) l2 c2 k2
  have b2 := F2.binds (ps := ["seed", "numbers"]) fun _ _ _ _ _ _ => all2 (fun _ _ => rfl)
  have F3 := fun_mk (st := s_l_place) l3 c3 k3
  have b3 := F3.binds (ps := ["seed", "points"]) fun _ _ _ _ _ _ => all2 (fun _ _ => rfl)
  have F4 := fun_mk (st := s_l_box) l4 c4 k4
  have b4 := F4.binds (ps := ["seed", "points"]) fun _ _ _ _ _ _ => all2 (fun _ _ => rfl)
  have F5 := fun_mk (st := s_l_folded) l5 c5 k5
  have b5 := F5.binds (ps := ["script"]) fun _ _ _ _ _ _ => all1 (fun _ => rfl)
  have F6 := fun_mk (st := s_l_names) l6 c6 k6
  have b6 := F6.binds (ps := ["seed", "many"]) fun _ _ _ _ _ _ => all2 (fun _ _ => rfl)
  have F7 := fun_mk (st := s_l_points) l7 c7 k7
  have b7 := F7.binds (ps := ["seed", "most"]) fun _ _ _ _ _ _ => all2 (fun _ _ => rfl)
  have F8 := fun_mk (st := s_l_in_order) l8 c8 k8
  have b8 := F8.binds (ps := ["rows"]) fun _ _ _ _ _ _ => all1 (fun _ => rfl)
  have F9 := fun_mk (st := s_l_is_in) l9 c9 k9
  have b9 := F9.binds (ps := ["box", "x", "y"]) fun _ _ _ _ _ _ => all3 (fun _ _ _ => rfl)
  have F10 := fun_mk (st := s_l_alone) l10 c10 k10
  have b10 := F10.binds (ps := ["caught"]) fun _ _ _ _ _ _ => all1 (fun _ => rfl)
  have F11 := fun_mk (st := s_NoPlace___init__) l11 c11 k11
  have b11 := F11.binds (ps := ["self", "text"]) fun _ _ _ _ _ _ => all2 (fun _ _ => rfl)
  have F12 := fun_mk (st := s_name_at) l12 c12 k12
  have b12 := F12.binds (ps := ["points", "place"]) fun _ _ _ _ _ _ => all2 (fun _ _ => rfl)
  have F13 := fun_mk (st := s_place_of) l13 c13 k13
  have b13 := F13.binds (ps := ["point"]) fun _ _ _ _ _ _ => all1 (fun _ => rfl)
  have F14 := fun_mk (st := s_is_held) l14 c14 k14
  have b14 := F14.binds (ps := ["point", "box"]) fun _ _ _ _ _ _ => all2 (fun _ _ => rfl)
  have F15 := fun_mk (st := s_points_in) l15 c15 k15
  have b15 := F15.binds (ps := ["points", "box"]) fun _ _ _ _ _ _ => all2 (fun _ _ => rfl)
  have F16 := fun_mk (st := s_nth_by_x) l16 c16 k16
  have b16 := F16.binds (ps := ["points", "box", "place"]) fun _ _ _ _ _ _ => all3 (fun _ _ _ => rfl)
  have F17 := fun_mk (st := s_turned_place_of) l17 c17 k17
  have b17 := F17.binds (ps := ["point"]) fun _ _ _ _ _ _ => all1 (fun _ => rfl)
  have F18 := fun_mk (st := s_nth_by_y) l18 c18 k18
  have b18 := F18.binds (ps := ["points", "box", "place"]) fun _ _ _ _ _ _ => all3 (fun _ _ _ => rfl)
  have F19 := fun_mk (st := s_l_told) l19 c19 k19
  have b19 := F19.binds (ps := ["points", "box", "place", "by_x"]) fun _ _ _ _ _ _ => all4 (fun _ _ _ _ => rfl)
  have F20 := fun_mk (st := s_l_right) l20 c20 k20
  have b20 := F20.binds (ps := ["points", "box", "by_x", "far"]) fun _ _ _ _ _ _ => all4 (fun _ _ _ _ => rfl)
  have F21 := fun_mk (st := s_l_seed) l21 c21 k21
  have b21 := F21.binds (ps := ["cell"]) fun _ _ _ _ _ _ => all1 (fun _ => rfl)
  have F22 := fun_mk (st := s_l_wide) l22 c22 k22
  have b22 := F22.binds (ps := ["points"]) fun _ _ _ _ _ _ => all1 (fun _ => rfl)
  have F23 := fun_mk (st := s_law) l23 c23 k23
  have b23 := F23.binds (ps := ["script"]) fun _ _ _ _ _ _ => all1 (fun _ => rfl)
  let C : Defs K mg := { f_l_draw := _, d_l_draw := _, F_l_draw := F0, b_l_draw := b0, g_l_draw := PySem.W.mg_of X G a0, f_l_number := _, d_l_number := _, F_l_number := F1, b_l_number := b1, g_l_number := PySem.W.mg_of X G a1, f_l_near := _, d_l_near := _, F_l_near := F2, b_l_near := b2, g_l_near := PySem.W.mg_of X G a2, f_l_place := _, d_l_place := _, F_l_place := F3, b_l_place := b3, g_l_place := PySem.W.mg_of X G a3, f_l_box := _, d_l_box := _, F_l_box := F4, b_l_box := b4, g_l_box := PySem.W.mg_of X G a4, f_l_folded := _, d_l_folded := _, F_l_folded := F5, b_l_folded := b5, g_l_folded := PySem.W.mg_of X G a5, f_l_names := _, d_l_names := _, F_l_names := F6, b_l_names := b6, g_l_names := PySem.W.mg_of X G a6, f_l_points := _, d_l_points := _, F_l_points := F7, b_l_points := b7, g_l_points := PySem.W.mg_of X G a7, f_l_in_order := _, d_l_in_order := _, F_l_in_order := F8, b_l_in_order := b8, g_l_in_order := PySem.W.mg_of X G a8, f_l_is_in := _, d_l_is_in := _, F_l_is_in := F9, b_l_is_in := b9, g_l_is_in := PySem.W.mg_of X G a9, f_l_alone := _, d_l_alone := _, F_l_alone := F10, b_l_alone := b10, g_l_alone := PySem.W.mg_of X G a10, f_NoPlace___init__ := _, d_NoPlace___init__ := _, F_NoPlace___init__ := F11, b_NoPlace___init__ := b11, xm_NoPlace := ⟨ex_NoPlace, a11, i11, kc_NoPlace⟩, f_name_at := _, d_name_at := _, F_name_at := F12, b_name_at := b12, g_name_at := PySem.W.mg_of X G a12, f_place_of := _, d_place_of := _, F_place_of := F13, b_place_of := b13, g_place_of := PySem.W.mg_of X G a13, f_is_held := _, d_is_held := _, F_is_held := F14, b_is_held := b14, g_is_held := PySem.W.mg_of X G a14, f_points_in := _, d_points_in := _, F_points_in := F15, b_points_in := b15, g_points_in := PySem.W.mg_of X G a15, f_nth_by_x := _, d_nth_by_x := _, F_nth_by_x := F16, b_nth_by_x := b16, g_nth_by_x := PySem.W.mg_of X G a16, f_turned_place_of := _, d_turned_place_of := _, F_turned_place_of := F17, b_turned_place_of := b17, g_turned_place_of := PySem.W.mg_of X G a17, f_nth_by_y := _, d_nth_by_y := _, F_nth_by_y := F18, b_nth_by_y := b18, g_nth_by_y := PySem.W.mg_of X G a18, f_l_told := _, d_l_told := _, F_l_told := F19, b_l_told := b19, g_l_told := PySem.W.mg_of X G a19, f_l_right := _, d_l_right := _, F_l_right := F20, b_l_right := b20, g_l_right := PySem.W.mg_of X G a20, f_l_seed := _, d_l_seed := _, F_l_seed := F21, b_l_seed := b21, g_l_seed := PySem.W.mg_of X G a21, f_l_wide := _, d_l_wide := _, F_l_wide := F22, b_l_wide := b22, g_l_wide := PySem.W.mg_of X G a22, f_law := _, d_law := _, F_law := F23, b_law := b23, g_law := PySem.W.mg_of X G a23, A_BelowError := _, xn_BelowError := xn_BelowError, gc_BelowError := PySem.W.mg_of X G xn_BelowError, A_NoAsk := _, xn_NoAsk := xn_NoAsk, gc_NoAsk := PySem.W.mg_of X G xn_NoAsk, A_NoCounts := _, xn_NoCounts := xn_NoCounts, gc_NoCounts := PySem.W.mg_of X G xn_NoCounts, A_NoName := _, xn_NoName := xn_NoName, gc_NoName := PySem.W.mg_of X G xn_NoName, A_NoPlace := _, xn_NoPlace := xn_NoPlace, gc_NoPlace := PySem.W.mg_of X G xn_NoPlace, A_NoPoints := _, xn_NoPoints := xn_NoPoints, gc_NoPoints := PySem.W.mg_of X G xn_NoPoints, bi_BelowError := ⟨bs_BelowError, br_BelowError, bf_BelowError⟩, xt := xt, xv := xv, n_ValueError := PySem.W.mg_none_of X G z_ValueError, n_enumerate := PySem.W.mg_none_of X G z_enumerate, n_int := PySem.W.mg_none_of X G z_int, n_isinstance := PySem.W.mg_none_of X G z_isinstance, n_len := PySem.W.mg_none_of X G z_len, n_list := PySem.W.mg_none_of X G z_list, n_max := PySem.W.mg_none_of X G z_max, n_min := PySem.W.mg_none_of X G z_min, n_range := PySem.W.mg_none_of X G z_range, n_sorted := PySem.W.mg_none_of X G z_sorted, n_tuple := PySem.W.mg_none_of X G z_tuple }
  refine ⟨PySem.W.fnOf "law" "law" (defArgs s_law) (defBody s_law) (defScope s_law) .none kV23 dc23 pm23 an23 cd23 ct23, fun s v => .of_eq rfl, fun base _ _ => ?_⟩
  exact ok_law C
theorem walk {l : PySem.W.OpenLaw} {q : Program} {loose : List Str} {XP : (Str → Option Value) → Heap → Prop} {YP : World → Heap → Prop} {d : DefRec} {K : Params → PySem.W.Frag} (hn : l.most = some 63) (hdf : d.params.defaults = [])
    (hY : ∀ (w : World) (h : Heap), YP w h → (K w.params).In h)
    (F : ∀ (w : World) (mg : Str → Option Value) (fa : Addr) (h : Heap), (K w.params).In h → h.Ns mainGlobals mg → mg d.name = some (.ref fa) →
      ∃ fd : FuncData, (∀ (s : Shared) (u : Value), BindsTo s fd ⟨[u], []⟩ [("script", u)]) ∧ ∀ base : Heap, (K w.params).In base → base.Ns mainGlobals mg → FnOk l.prog w (K w.params) mg base CX0 7 fa fd ["script"] (spF (K w.params) 1 m_law)) :
    PySem.W.WalkO q loose XP YP l.row.toRowW d [] (fun f vs => PySem.call f vs) :=
  L2.walk_of (n := 63) (k := 7) (x := "script") (CX := fun _ => CX0) (sp := fun w => spF (K w.params) 1 m_law) hn (by decide) hdf ⟨rfl, by decide, by decide⟩ hY F (fun w H a ns hl ho hS => law_sp ho hS (law_true ns hl)) fun _ _ _ _ _ z => z
end Lw
open PySem PySem.W PyProof.Rows
set_option maxRecDepth 100000 in
set_option maxHeartbeats 0 in
theorem PySem.Challenge.cw_belowpoints_k18_so_manieth_in_boxes_holds : PySem.Challenge.rw_belowpoints_k18_so_manieth_in_boxes.Holds := by
  w_on; o_law; k_head; (case hw => w_witness2)
  k_fill
  refine Lw.walk (l := PySem.Challenge.rw_belowpoints_k18_so_manieth_in_boxes) rfl rfl (fun w h Y => PySem.W.kIn_of Y) ?F
  case F =>
    intro w mg fa h KX G hmg
    refine' Lw.all_mk KX G hmg ?xn_BelowError ?xn_NoAsk ?xn_NoCounts ?xn_NoName ?xn_NoPlace ?xn_NoPoints ?ex_NoPlace ?kc_NoPlace ?bs_BelowError ?br_BelowError ?bf_BelowError ?xt ?xv ?a0 ?l0 ?c0 ?k0 ?a1 ?l1 ?c1 ?k1 ?a2 ?l2 ?c2 ?k2 ?a3 ?l3 ?c3 ?k3 ?a4 ?l4 ?c4 ?k4 ?a5 ?l5 ?c5 ?k5 ?a6 ?l6 ?c6 ?k6 ?a7 ?l7 ?c7 ?k7 ?a8 ?l8 ?c8 ?k8 ?a9 ?l9 ?c9 ?k9 ?a10 ?l10 ?c10 ?k10 ?a11 ?i11 ?l11 ?c11 ?k11 ?a12 ?l12 ?c12 ?k12 ?a13 ?l13 ?c13 ?k13 ?a14 ?l14 ?c14 ?k14 ?a15 ?l15 ?c15 ?k15 ?a16 ?l16 ?c16 ?k16 ?a17 ?l17 ?c17 ?k17 ?a18 ?l18 ?c18 ?k18 ?a19 ?l19 ?c19 ?k19 ?a20 ?l20 ?c20 ?k20 ?a21 ?l21 ?c21 ?k21 ?a22 ?l22 ?c22 ?k22 ?a23 ?l23 ?c23 ?k23 ?z_ValueError ?z_enumerate ?z_int ?z_isinstance ?z_len ?z_list ?z_max ?z_min ?z_range ?z_sorted ?z_tuple
    (case xn_BelowError => k_is)
    (case xn_NoAsk => k_is)
    (case xn_NoCounts => k_is)
    (case xn_NoName => k_is)
    (case xn_NoPlace => k_is)
    (case xn_NoPoints => k_is)
    (case ex_NoPlace => kernel_rfl)
    (case kc_NoPlace => k_is)
    (case bs_BelowError => k_is)
    (case br_BelowError => k_is)
    (case bf_BelowError => kernel_rfl)
    (case xt => kernel_rfl)
    (case xv => k_is)
    (case a0 => k_is); (case l0 => k_is); (case c0 => k_is); (case k0 => k_is)
    (case a1 => k_is); (case l1 => k_is); (case c1 => k_is); (case k1 => k_is)
    (case a2 => k_is); (case l2 => k_is); (case c2 => k_is); (case k2 => k_is)
    (case a3 => k_is); (case l3 => k_is); (case c3 => k_is); (case k3 => k_is)
    (case a4 => k_is); (case l4 => k_is); (case c4 => k_is); (case k4 => k_is)
    (case a5 => k_is); (case l5 => k_is); (case c5 => k_is); (case k5 => k_is)
    (case a6 => k_is); (case l6 => k_is); (case c6 => k_is); (case k6 => k_is)
    (case a7 => k_is); (case l7 => k_is); (case c7 => k_is); (case k7 => k_is)
    (case a8 => k_is); (case l8 => k_is); (case c8 => k_is); (case k8 => k_is)
    (case a9 => k_is); (case l9 => k_is); (case c9 => k_is); (case k9 => k_is)
    (case a10 => k_is); (case l10 => k_is); (case c10 => k_is); (case k10 => k_is)
    (case a11 => k_is); (case i11 => k_is)
    (case l11 => k_is); (case c11 => k_is); (case k11 => k_is)
    (case a12 => k_is); (case l12 => k_is); (case c12 => k_is); (case k12 => k_is)
    (case a13 => k_is); (case l13 => k_is); (case c13 => k_is); (case k13 => k_is)
    (case a14 => k_is); (case l14 => k_is); (case c14 => k_is); (case k14 => k_is)
    (case a15 => k_is); (case l15 => k_is); (case c15 => k_is); (case k15 => k_is)
    (case a16 => k_is); (case l16 => k_is); (case c16 => k_is); (case k16 => k_is)
    (case a17 => k_is); (case l17 => k_is); (case c17 => k_is); (case k17 => k_is)
    (case a18 => k_is); (case l18 => k_is); (case c18 => k_is); (case k18 => k_is)
    (case a19 => k_is); (case l19 => k_is); (case c19 => k_is); (case k19 => k_is)
    (case a20 => k_is); (case l20 => k_is); (case c20 => k_is); (case k20 => k_is)
    (case a21 => k_is); (case l21 => k_is); (case c21 => k_is); (case k21 => k_is)
    (case a22 => k_is); (case l22 => k_is); (case c22 => k_is); (case k22 => k_is)
    (case a23 => k_is); (case l23 => k_is); (case c23 => k_is); (case k23 => k_is)
    (case z_ValueError => k_is)
    (case z_enumerate => k_is)
    (case z_int => k_is)
    (case z_isinstance => k_is)
    (case z_len => k_is)
    (case z_list => k_is)
    (case z_max => k_is)
    (case z_min => k_is)
    (case z_range => k_is)
    (case z_sorted => k_is)
    (case z_tuple => k_is)

import PyProof.Rows.All
import Wide.All
import OpenK.AllK
import Wide.FinOn
import Lean
import PyProof.EqAt
import PyProof.EqKinds
import PyProof.TupleCall
import KE.KTurnsDict
import KE.KPairComp
import KE.KDictList
import KE.KIntText
import KE.KTryMore
import PyProof.ExcInit
import KE.KIsNot
import PyProof.ReprStr
import PyProof.StrLawsRepr
import KE.KSortTup
import PyProof.Rows.SortShell
import PyProof.TupleOfSeq
import PySem.Challenge.RW_belowpoints_k38_whole_rows_and_counts
set_option Elab.async false
set_option linter.all false
set_option maxRecDepth 100000
namespace L2
open PySem PySem.Spec PyProof.Rows
abbrev Key := Sum Int Str
def keyIs : Key → Value → Bool
  | .inl k, v => Value.isInt k v
  | .inr x, v => Value.isStrOf x v
def keyH (w : World) : Key → Int
  | .inl k => hashInt k
  | .inr x => hashStr w x
theorem keyIs_shape : ∀ {k : Key} {v : Value}, keyIs k v = true → (∃ i t, k = Sum.inl i ∧ v = Value.int i t) ∨ (∃ x t, k = Sum.inr x ∧ v = Value.str x t)
  | .inl i, v, h => by
    obtain ⟨t, e⟩ := Value.isInt_shape (k := i) (v := v) h
    exact .inl ⟨i, t, rfl, e⟩
  | .inr x, v, h => by
    obtain ⟨t, e⟩ := Value.isStrOf_shape (x := x) (v := v) h
    exact .inr ⟨x, t, rfl, e⟩
theorem key_ll (a b : Int) : decide ((Sum.inl a : Key) = Sum.inl b) = (a == b) := by
  by_cases e : a = b
  · subst e; simp
  · have h : ¬ (Sum.inl a : Key) = Sum.inl b := fun q => e (Sum.inl.inj q)
    rw [decide_eq_false h]
    exact (beq_eq_false_iff_ne.mpr e).symm
theorem key_rr (a b : Str) : decide ((Sum.inr a : Key) = Sum.inr b) = decide (a = b) := by
  by_cases e : a = b
  · subst e; simp
  · have h : ¬ (Sum.inr a : Key) = Sum.inr b := fun q => e (Sum.inr.inj q)
    rw [decide_eq_false h, decide_eq_false e]
theorem key_lr (a : Int) (b : Str) : decide ((Sum.inl a : Key) = Sum.inr b) = false := decide_eq_false (fun q => nomatch q)
theorem key_rl (a : Str) (b : Int) : decide ((Sum.inr a : Key) = Sum.inl b) = false := decide_eq_false (fun q => nomatch q)
def mixKind (prog : Program) (w : World) : PySem.KeyKind prog w Key where
  is := keyIs
  hash := keyH w
  inj := fun v a b ha hb => by
    rcases keyIs_shape ha with ⟨i, t, rfl, rfl⟩ | ⟨x, t, rfl, rfl⟩
    · rcases keyIs_shape hb with ⟨j, u, rfl, e⟩ | ⟨y, u, rfl, e⟩
      · injection e with e1 _; rw [e1]
      · exact nomatch e
    · rcases keyIs_shape hb with ⟨j, u, rfl, e⟩ | ⟨y, u, rfl, e⟩
      · exact nomatch e
      · injection e with e1 _; rw [e1]
  byValue := fun k v h => by
    rcases keyIs_shape h with ⟨i, t, rfl, rfl⟩ | ⟨x, t, rfl, rfl⟩ <;> rfl
  pyHash := fun hv h => by
    rcases keyIs_shape hv with ⟨i, t, rfl, rfl⟩ | ⟨x, t, rfl, rfl⟩
    · exact wpAny_pyHash_int h
    · exact wpAny_pyHash_str h
  eqBool := fun hu hv h => by
    rcases keyIs_shape hu with ⟨i, t, rfl, rfl⟩ | ⟨x, t, rfl, rfl⟩
    · rcases keyIs_shape hv with ⟨j, u, rfl, rfl⟩ | ⟨y, u, rfl, rfl⟩
      · rw [key_ll] at h; exact wpAny_eqBool_int h
      · rw [key_lr] at h; exact SeqAt.EqAt.int_str i t y u _ _ _ _ h
    · rcases keyIs_shape hv with ⟨j, u, rfl, rfl⟩ | ⟨y, u, rfl, rfl⟩
      · rw [key_rl] at h; exact SeqAt.EqAt.str_int x t j u _ _ _ _ h
      · rw [key_rr] at h; exact wpAny_eqBool_str h
  «strs» := fun k x t v h => by
    rcases keyIs_shape h with ⟨i, u, rfl, e⟩ | ⟨y, u, rfl, e⟩
    · exact nomatch e
    · injection e with e1 _
      subst e1
      cases v <;> rfl
end L2
namespace L2
open PySem PySem.Spec PyProof.Rows
inductive V where
  | non | bl (b : Bool) | int (i : Int) | str (x : Str) | byt (b : Array UInt8) | flt (b : UInt64) | ref (a : Addr) | ty (n : String)
  deriving DecidableEq
def RelV : V → Value → Prop
  | .non, u => u = Value.none
  | .bl b, u => u = Value.bool b
  | .int i, u => ∃ t, u = Value.int i t
  | .str x, u => ∃ t, u = Value.str x t
  | .byt b, u => ∃ t, u = Value.bytes b t
  | .flt b, u => ∃ t, u = Value.float b t
  | .ref a, u => u = Value.ref a
  | .ty n, u => u = Value.type n
abbrev Vals : List V → List Value → Prop := Paired RelV
theorem Vals.length {xs : List V} {us : List Value} (r : Vals xs us) : xs.length = us.length := Paired.length r
theorem Vals.get : ∀ {xs : List V} {us : List Value} {i : Nat} {x : V}, Vals xs us → xs[i]? = some x → ∃ u, us[i]? = some u ∧ RelV x u
  | _, _, _, _, .nil, e => by simp at e
  | _, _, 0, _, .cons r _, e => by simp at e; subst e; exact ⟨_, rfl, r⟩
  | _, _, i + 1, x, .cons _ t, e => by
    obtain ⟨u, h1, h2⟩ := Vals.get (i := i) (x := x) t (by simpa using e)
    exact ⟨u, by simpa using h1, h2⟩
theorem Vals.set {x : V} {u : Value} (r : RelV x u) : ∀ {xs : List V} {us : List Value} (i : Nat), Vals xs us → Vals (xs.set i x) (us.set i u)
  | _, _, _, .nil => .nil
  | _, _, 0, .cons _ t => .cons r t
  | _, _, i + 1, .cons q t => .cons q (Vals.set r i t)
theorem Vals.append : ∀ {xs ys : List V} {us ws : List Value}, Vals xs us → Vals ys ws → Vals (xs ++ ys) (us ++ ws)
  | _, _, _, _, .nil, s => s
  | _, _, _, _, .cons r t, s => .cons r (Vals.append t s)
theorem Vals.take : ∀ {xs : List V} {us : List Value} (n : Nat), Vals xs us → Vals (xs.take n) (us.take n)
  | _, _, 0, _ => .nil
  | _, _, _ + 1, .nil => .nil
  | _, _, n + 1, .cons r t => .cons r (Vals.take n t)
theorem Vals.drop : ∀ {xs : List V} {us : List Value} (n : Nat), Vals xs us → Vals (xs.drop n) (us.drop n)
  | _, _, 0, r => r
  | _, _, _ + 1, .nil => .nil
  | _, _, n + 1, .cons _ t => Vals.drop n t
def RelO : Option V → Option Value → Prop
  | some v, some u => RelV v u
  | none, none => True
  | _, _ => False
def KV {κ : Type} : List (κ × V) → List (κ × Value) → Prop := Paired fun (p : κ × V) (q : κ × Value) => p.1 = q.1 ∧ RelV p.2 q.2
def kV : Key → V
  | .inl i => .int i
  | .inr x => .str x
inductive HO where
  | lst (xs : List V)
  | tup (xs : List V)
  | dK (kvs : List (Key × V)) | dT (kvs : List (List Key × V))
  | set (S : Int → Bool) (n : Nat)
  | ins (C dx : Addr) (fs : List (Str × V))
  | own (x : Addr)
  | xd (fs : List (Str × V))
  | met (f x : Addr)
  | rng (lo hi : Int)
  | frz (o : Obj) (u : HO)
  | tbl (ps : Array Value)
  | ext (φ : Heap → Prop)
abbrev Hp := Addr → Option HO
def upd (H : Hp) (a : Addr) (o : HO) : Hp := fun b => if b = a then some o else H b
theorem upd_same {H : Hp} {a : Addr} {o : HO} : upd H a o a = some o := by unfold upd; rw [if_pos rfl]
theorem upd_ne {H : Hp} {a b : Addr} {o : HO} (h : b ≠ a) : upd H a o b = H b := by unfold upd; rw [if_neg h]
theorem ne_of {H : Hp} {a b : Addr} {o u : HO} (h : H a = some o) (h' : H b = some u) (d : o ≠ u) : a ≠ b := by
  intro e; subst e; rw [h] at h'; exact d (Option.some.inj h')
theorem ne_of_none {H : Hp} {a b : Addr} {o : HO} (h : H a = some o) (h' : H b = none) : a ≠ b := by
  intro e; subst e; rw [h] at h'; cases h'
section
variable (P : Program) (w : World)
def ObjOk (H : Hp) (h : Heap) (a : Addr) : HO → Prop
  | .lst xs => xs.length ≤ sizeLine ∧ ∃ (its : List Value) (n : Nat), Vals xs its ∧ h.get? a = some { cls := .type "list", data := .seq its.toArray n }
  | .tup xs => xs.length ≤ sizeLine ∧ ∃ its : List Value, Vals xs its ∧ IsTup h a its.toArray
  | .dK kvs => kvs.length ≤ sizeLine ∧ (a == sysModules) = false ∧ ∃ vs, KV kvs vs ∧ h.DictOf (mixKind P w) a vs
  | .dT kvs => kvs.length ≤ sizeLine ∧ (a == sysModules) = false ∧ ∃ xs : List (List Key × Addr × Value),
      Paired (fun (p : List Key × V) (q : List Key × Addr × Value) => p.1 = q.1 ∧ H q.2.1 = some (.tup (p.1.map kV)) ∧ RelV p.2 q.2.2) kvs xs ∧
      ∃ o es ep, h.get? a = some o ∧ o.ExactDict ∧ o.data = .dict es ep ∧ es.toList = xs.map (entryOfKey (tupleKind (mixKind P w))) ∧ (xs.map (·.1)).Nodup
  | .set S n => h.SetOf (intKind P w) a S n
  | .ins C dx fs => H dx = some (.own a) ∧ fs.length ≤ 1000 ∧ dx ≠ a ∧ h.get? a = some (PySem.W.instObj C dx) ∧
      ∃ mA, h.Ns1 dx mA ∧ (∀ f, RelO (fs.lookup f) (mA f)) ∧ PySem.Within mA (fs.map (·.1))
  | .own _ => ∃ o, h.get? a = some o
  | .xd fs => ∃ mA, h.Ns1 a mA ∧ ∀ f, RelO (fs.lookup f) (mA f)
  | .rng lo hi => ∃ t u v, h.get? a = some { cls := .type "range", data := .fields #[.int lo t, .int hi u, .int 1 v] }
  | .frz o u => h.get? a = some o ∧ ObjOk H h a u
  | .tbl ps => h.get? a = some { cls := .none, data := .fields ps }
  | .met f x => h.get? a = some (PySem.W.methodObj (.ref f) (.ref x))
  | .ext φ => φ h ∧ (∃ o, h.get? a = some o) ∧ ∀ h1 h2 : Heap, φ h1 → (∀ o, h1.get? a = some o → h2.get? a = some o) → φ h2
def HOk (H : Hp) (h : Heap) : Prop := ∀ a o, H a = some o → ObjOk P w H h a o
end
section
variable {P : Program} {w : World} {H H' : Hp} {h h' : Heap} {a : Addr} {o : HO}
theorem ObjOk.lt (x : ObjOk P w H h a o) : a < h.objs.size := by
  cases o with
  | lst xs => obtain ⟨_, _, _, _, e⟩ := x; exact Heap.lt_size e
  | tup xs => obtain ⟨_, _, _, p⟩ := x; exact p.lt
  | dK kvs => obtain ⟨_, _, _, _, o, _, _, e, _⟩ := x; exact Heap.lt_size e
  | dT kvs => obtain ⟨_, _, _, _, o, _, _, e, _⟩ := x; exact Heap.lt_size e
  | set S n => obtain ⟨o, _, _, _, e, _⟩ := x; exact Heap.lt_size e
  | ins C dx fs => obtain ⟨_, _, _, e, _⟩ := x; exact Heap.lt_size e
  | own y => obtain ⟨_, e⟩ := x; exact Heap.lt_size e
  | xd fs => obtain ⟨_, ⟨_, _, _, e, _⟩, _⟩ := x; exact Heap.lt_size e
  | rng lo hi => obtain ⟨_, _, _, e⟩ := x; exact Heap.lt_size e
  | frz ob u => obtain ⟨e, _⟩ := x; exact Heap.lt_size e
  | tbl ps => exact Heap.lt_size (show h.get? a = some _ from x)
  | met f y => exact Heap.lt_size (show h.get? a = some _ from x)
  | ext φ => obtain ⟨_, ⟨_, e⟩, _⟩ := x; exact Heap.lt_size e
theorem Paired.mapP {α β : Type} {F G : α → β → Prop} : ∀ {l₁ : List α} {l₂ : List β}, Paired F l₁ l₂ → (∀ a b, F a b → G a b) → Paired G l₁ l₂
  | _, _, .nil, _ => .nil
  | _, _, .cons r t, f => .cons (f _ _ r) (Paired.mapP t f)
theorem ObjOk.stay (x : ObjOk P w H h a o) (k : ∀ b u, (b = a ∨ H b = some (.own a)) → h.get? b = some u → h'.get? b = some u)
    (ho : ∀ b, H b = some (.own a) → H' b = some (.own a)) (ht : ∀ b xs, H b = some (.tup xs) → H' b = some (.tup xs)) : ObjOk P w H' h' a o := by
  induction o with
  | lst xs => obtain ⟨z, its, n, r, e⟩ := x; exact ⟨z, its, n, r, k _ _ (.inl rfl) e⟩
  | tup xs => obtain ⟨z, its, r, ob, e, c⟩ := x; exact ⟨z, its, r, ob, k _ _ (.inl rfl) e, c⟩
  | dK kvs => obtain ⟨z, y, vs, r, ob, es, ep, e, c⟩ := x; exact ⟨z, y, vs, r, ob, es, ep, k _ _ (.inl rfl) e, c⟩
  | dT kvs =>
    obtain ⟨z, y, xs, r, ob, es, ep, e, c⟩ := x
    exact ⟨z, y, xs, Paired.mapP r fun p q z => ⟨z.1, ht _ _ z.2.1, z.2.2⟩, ob, es, ep, k _ _ (.inl rfl) e, c⟩
  | set S n => obtain ⟨ob, es, ep, t, e, c⟩ := x; exact ⟨ob, es, ep, t, k _ _ (.inl rfl) e, c⟩
  | ins C dx fs =>
    obtain ⟨d, z, ne, e, mA, ⟨od, es, ep, e2, c⟩, r⟩ := x
    exact ⟨ho _ d, z, ne, k _ _ (.inl rfl) e, mA, ⟨od, es, ep, k _ _ (.inr d) e2, c⟩, r⟩
  | own y => obtain ⟨ob, e⟩ := x; exact ⟨ob, k _ _ (.inl rfl) e⟩
  | xd fs => obtain ⟨mA, ⟨od, es, ep, e, c⟩, r⟩ := x; exact ⟨mA, ⟨od, es, ep, k _ _ (.inl rfl) e, c⟩, r⟩
  | rng lo hi => obtain ⟨t, u, v, e⟩ := x; exact ⟨t, u, v, k _ _ (.inl rfl) e⟩
  | frz ob u ih => obtain ⟨e, q⟩ := x; exact ⟨k _ _ (.inl rfl) e, ih q⟩
  | tbl ps =>
    have e : h.get? a = some { cls := .none, data := .fields ps } := x
    show h'.get? a = some { cls := .none, data := .fields ps }
    exact k a _ (.inl rfl) e
  | met f y =>
    have e : h.get? a = some (PySem.W.methodObj (.ref f) (.ref y)) := x
    show h'.get? a = some (PySem.W.methodObj (.ref f) (.ref y))
    exact k a _ (.inl rfl) e
  | ext φ => obtain ⟨p, ⟨o, e⟩, st⟩ := x; exact ⟨st _ _ p fun o q => k _ _ (.inl rfl) q, ⟨o, k _ _ (.inl rfl) e⟩, st⟩
theorem HOk.lt (x : HOk P w H h) (e : H a = some o) : a < h.objs.size := (x a o e).lt
theorem HOk.fresh (x : HOk P w H h) (e : h.objs.size ≤ a) : H a = none := by
  cases q : H a with
  | none => rfl
  | some u => exact absurd (Nat.lt_of_lt_of_le (x.lt q) e) (Nat.lt_irrefl _)
theorem HOk.kept (x : HOk P w H h) (k : ∀ b u, h.get? b = some u → h'.get? b = some u) : HOk P w H h' := fun a o e =>
  (x a o e).stay (fun b u _ q => k b u q) (fun _ q => q) fun _ _ q => q
theorem HOk.laid (x : HOk P w H h) (k : ∀ b u, h.get? b = some u → h'.get? b = some u) (hp : h.objs.size ≤ a) (new : ObjOk P w (upd H a o) h' a o) : HOk P w (upd H a o) h' := fun b u e => by
  have hn := x.fresh hp
  by_cases hb : b = a
  · subst hb; rw [upd_same] at e; cases e; exact new
  · rw [upd_ne hb] at e
    exact (x b u e).stay (fun c v _ q => k c v q) (fun c q => by rw [upd_ne (ne_of_none q hn)]; exact q) fun c xs q => by rw [upd_ne (ne_of_none q hn)]; exact q
end
def Rd (H : Hp) (a : Addr) (u : HO) : Prop := H a = some u ∨ ∃ o, H a = some (.frz o u)
theorem Rd.of {H : Hp} {a : Addr} {u : HO} (h : H a = some u) : Rd H a u := .inl h
theorem Rd.ok {P : Program} {w : World} {H : Hp} {h : Heap} {a : Addr} {u : HO} (r : Rd H a u) (x : HOk P w H h) : ObjOk P w H h a u := by
  rcases r with r | ⟨o, r⟩
  · exact x a u r
  · obtain ⟨_, q⟩ := x a _ r
    exact q
def Mut : Option HO → Prop
  | some (.lst _) => True
  | some (.dK _) => True
  | some (.dT _) => True
  | some (.set _ _) => True
  | some (.ins _ _ _) => True
  | some (.ext _) => True
  | _ => False
section
variable {P : Program} {w : World} {H : Hp} {h h' : Heap} {x e : Addr} {o' : HO}
theorem HOk.write (ok : HOk P w H h) (mu : Mut (H x)) (he : e = x ∨ H e = some (.own x)) (k : ∀ b u, b ≠ e → h.get? b = some u → h'.get? b = some u) (heo : ∃ u, h'.get? e = some u)
    (new : ObjOk P w (upd H x o') h' x o') : HOk P w (upd H x o') h' := fun b u q => by
  have nown : ∀ c y, H c = some (.own y) → c ≠ x := fun c y r z => by subst z; rw [r] at mu; exact mu
  have ntup : ∀ c xs, H c = some (.tup xs) → c ≠ x := fun c xs r z => by subst z; rw [r] at mu; exact mu
  by_cases hb : b = x
  · subst hb; rw [upd_same] at q; cases q; exact new
  · rw [upd_ne hb] at q
    by_cases hbe : b = e
    · have q' : H b = some (.own x) := by
        rcases he with z | z
        · exact absurd (hbe.trans z) hb
        · rw [hbe]; exact z
      rw [q] at q'; cases q'
      obtain ⟨v, hv⟩ := heo
      exact ⟨v, by rw [hbe]; exact hv⟩
    · refine (ok b u q).stay (fun c v hc r => k c v ?_ r) (fun c r => by rw [upd_ne (nown c b r)]; exact r) fun c xs r => by rw [upd_ne (ntup c xs r)]; exact r
      rcases hc with rfl | hc
      · exact hbe
      · rintro rfl
        rcases he with z | z
        · exact nown c b hc z
        · rw [hc] at z; cases z; exact hb rfl
end
structure Un (fs ex : List Addr) (H H' : Hp) (h h' : Heap) : Prop where
  keep : ∀ b o, h.get? b = some o → H b = none → b ∉ fs → b ∉ ex → h'.get? b = some o
  slot : ∀ b o, h.get? b = some o → H b = none → b ∈ fs → b ∉ ex → ∃ sl, h'.get? b = some { o with slots := sl }
  free : ∀ b o, h.get? b = some o → H b = none → b ∉ ex → H' b = none
  there : ∀ b o, h.get? b = some o → b ∉ ex → ∃ o', h'.get? b = some o'
  tups : ∀ b xs, H b = some (.tup xs) → H' b = some (.tup xs)
  frzs : ∀ b o u, H b = some (.frz o u) → H' b = some (.frz o u)
  tbls : ∀ b ps, H b = some (.tbl ps) → ∃ more, H' b = some (.tbl (ps ++ more))
section
variable {fs fs' ex ex' : List Addr} {H H1 H2 : Hp} {h h1 h2 h' : Heap} {a x e : Addr} {o : HO}
theorem Un.any (u : Un fs ex H H1 h h1) {b : Addr} {ob : Obj} (q : h.get? b = some ob) (n : H b = none) (hx : b ∉ ex) : ∃ sl, h1.get? b = some { ob with slots := sl } := by
  by_cases hb : b ∈ fs
  · exact u.slot b ob q n hb hx
  · exact ⟨ob.slots, u.keep b ob q n hb hx⟩
theorem Un.trans (a : Un fs ex H H1 h h1) (b : Un fs ex H1 H2 h1 h2) : Un fs ex H H2 h h2 where
  keep := fun c ob q n hc hx => b.keep c ob (a.keep c ob q n hc hx) (a.free c ob q n hx) hc hx
  slot := fun c ob q n hc hx => by
    obtain ⟨sl, e1⟩ := a.slot c ob q n hc hx
    obtain ⟨sl', e2⟩ := b.slot c _ e1 (a.free c ob q n hx) hc hx
    exact ⟨sl', e2⟩
  free := fun c ob q n hx => by
    obtain ⟨o', e1⟩ := a.there c ob q hx
    exact b.free c o' e1 (a.free c ob q n hx) hx
  there := fun c ob q hx => by
    obtain ⟨o', e1⟩ := a.there c ob q hx
    exact b.there c o' e1 hx
  tups := fun c xs q => b.tups c xs (a.tups c xs q)
  frzs := fun c ob xs q => b.frzs c ob xs (a.frzs c ob xs q)
  tbls := fun c ps q => by
    obtain ⟨m1, e1⟩ := a.tbls c ps q
    obtain ⟨m2, e2⟩ := b.tbls c _ e1
    exact ⟨m1 ++ m2, by rw [e2, Array.append_assoc]⟩
theorem Un.kept (k : ∀ b u, h.get? b = some u → h'.get? b = some u) : Un fs ex H H h h' :=
  ⟨fun b ob q _ _ _ => k b ob q, fun b ob q _ _ _ => ⟨ob.slots, k b ob q⟩, fun _ _ _ n _ => n, fun b ob q _ => ⟨ob, k b ob q⟩, fun _ _ q => q, fun _ _ _ q => q, fun _ ps q => ⟨#[], by rw [q]; simp⟩⟩
theorem Un.refl : Un fs ex H H h h := Un.kept fun _ _ q => q
theorem Un.laid (k : ∀ b u, h.get? b = some u → h'.get? b = some u) (hp : h.objs.size ≤ a) (hn : H a = none) : Un fs ex H (upd H a o) h h' where
  keep := fun b u q _ _ _ => k b u q
  slot := fun b u q _ _ _ => ⟨u.slots, k b u q⟩
  free := fun b u q n _ => by rw [upd_ne (Nat.ne_of_lt (Nat.lt_of_lt_of_le (Heap.lt_size q) hp))]; exact n
  there := fun b u q _ => ⟨u, k b u q⟩
  tups := fun b xs q => by rw [upd_ne (ne_of_none q hn)]; exact q
  frzs := fun b u xs q => by rw [upd_ne (ne_of_none q hn)]; exact q
  tbls := fun b ps q => ⟨#[], by rw [upd_ne (ne_of_none q hn), q]; simp⟩
theorem Un.write (mu : Mut (H x)) (he : e = x ∨ H e = some (.own x)) (k : ∀ b u, b ≠ e → h.get? b = some u → h'.get? b = some u) (heo : ∃ u, h'.get? e = some u) : Un fs ex H (upd H x o) h h' := by
  have hx : ∀ b, H b = none → b ≠ x := fun b n z => by subst z; rw [n] at mu; exact mu
  have hb : ∀ b, H b = none → b ≠ e := fun b n z => by
    subst z
    rcases he with r | r
    · exact hx b n r
    · rw [n] at r; cases r
  have hm : ∀ b u, H b = some u → ¬ Mut (some u) → b ≠ x := fun b u q nm z => by subst z; rw [q] at mu; exact nm mu
  refine ⟨fun b u q n _ _ => k b u (hb b n) q, fun b u q n _ _ => ⟨u.slots, k b u (hb b n) q⟩, fun b u q n _ => by rw [upd_ne (hx b n)]; exact n, fun b u q _ => ?_,
    fun b xs q => by rw [upd_ne (hm b _ q fun z => z)]; exact q, fun b u xs q => by rw [upd_ne (hm b _ q fun z => z)]; exact q, fun b ps q => ⟨#[], by rw [upd_ne (hm b _ q fun z => z), q]; simp⟩⟩
  by_cases hbe : b = e
  · subst hbe; exact heo
  · exact ⟨u, k b u hbe q⟩
theorem Un.mono (u : Un fs ex H H1 h h1) (hs : ∀ b ∈ fs, b ∈ fs') (hx : ∀ b ∈ ex, b ∈ ex') : Un fs' ex' H H1 h h1 :=
  ⟨fun b ob q n hb he => u.keep b ob q n (fun z => hb (hs b z)) fun z => he (hx b z), fun _ _ q n _ he => u.any q n fun z => he (hx _ z), fun b ob q n he => u.free b ob q n fun z => he (hx b z), fun b ob q he => u.there b ob q fun z => he (hx b z), u.tups, u.frzs, u.tbls⟩
end
def trk (h : Heap) (H : Hp) : List Addr := (List.range h.objs.size).filter fun a => (H a).isSome
def hidT (h : Heap) (H : Hp) : Heap := PySem.W.hideAll h (trk h H)
theorem hidT_size (h : Heap) (H : Hp) : (hidT h H).objs.size = h.objs.size := PySem.W.hideAll_size _ _
theorem hidT_get {h : Heap} {H : Hp} {b : Addr} {o : Obj} (e : h.get? b = some o) (n : H b = none) : (hidT h H).get? b = some o :=
  PySem.W.hideAll_get _ e fun hm => by
    have q : (H b).isSome = true := (List.mem_filter.mp hm).2
    rw [n] at q; simp at q
theorem of_hidT {h : Heap} {H : Hp} {b : Addr} {o : Obj} (e : (hidT h H).get? b = some o) : h.get? b = some o ∧ H b = none := by
  have e' : h.get? b = some o := PySem.W.of_hideAll (trk h H) e
  refine ⟨e', ?_⟩
  cases q : H b with
  | none => rfl
  | some x =>
    have hm : b ∈ trk h H := List.mem_filter.mpr ⟨List.mem_range.mpr (Heap.lt_size e'), by simp [q]⟩
    have z : (hidT h H).get? b = none := PySem.W.hideAll_none (trk h H) hm
    rw [z] at e; cases e
def allNews (g h : Heap) (L : Addr) : List (Addr × Obj) := (List.range h.objs.size).filterMap fun a => if a = L ∨ (g.get? a).isSome = true then none else (h.get? a).map fun o => (a, o)
def rest (g h : Heap) (L d : Addr) : List (Addr × Obj) := (allNews g h L).filter fun p => decide (p.1 ≠ d)
end L2
namespace L2
open PySem PySem.Spec PyProof.Rows
structure Mod (K : PySem.W.Frag) (mg : Str → Option Value) (base : Heap) : Prop where
  kin : K.In base
  glob : base.Ns mainGlobals mg
  blt : ∃ mb, base.Ns builtinsNs mb ∧ ∀ x : Str, x ≠ "__name__" → mb x = bootBuiltins x
  nolimit : base.NoLimit
structure Cx where
  prog : Program
  w : World
  K : PySem.W.Frag
  mg : Str → Option Value
  base : Heap
  A : Around
  N : List Str
  s₀ : Shared
  H₀ : Hp
  env : Env
  outer : List Env
  stack : List Env
  ex : List Addr
  fn : Str → Bool
  calm : Bool
  pn : List (Addr × Obj)
  xe : Value → Shared → Prop
def frs (l : List Env) : List Addr := l.filterMap (·.frame)
abbrev Cx.fs (X : Cx) : List Addr := frs X.outer
def Vis (sc : Scope) (x : Str) : Prop := sc.names.lookup x = some .local ∨ sc.names.lookup x = some .cell ∨ sc.names.lookup x = some .free
def Loc (sc : Scope) (x : Str) : Prop := sc.names.lookup x = some .local ∨ sc.names.lookup x = some .cell
def Look (env : Env) (h : Heap) (m : Str → Option Value) (x : Str) (u : Value) : Prop :=
  (env.kindOf x = some .local ∧ m x = some u) ∨ ((env.kindOf x = some .cell ∨ env.kindOf x = some .free) ∧ ∃ c, env.cells.lookup x = some c ∧ h.IsCell c (some u))
structure Cx.Ok (X : Cx) : Prop where
  mod : Mod X.K X.mg X.base
  kind : X.env.scope.kind = .function
  glob : X.env.globals = mainGlobals
  blt : X.env.builtins = builtinsNs
  above : X.s₀.heap.objs.size ≤ X.env.locals
  inj : ∀ x y c, X.env.cells.lookup x = some c → X.env.cells.lookup y = some c → x = y
  has : ∀ x, (X.env.kindOf x = some .cell ∨ X.env.kindOf x = some .free) → ∃ c, X.env.cells.lookup x = some c
  cab : ∀ x c, X.fn x = true → X.env.cells.lookup x = some c → X.s₀.heap.objs.size ≤ c
  hd : X.calm = true → X.A.handled = none
  frames : X.A.frames = some X.stack
  stk : X.stack = X.outer ∨ (X.stack = X.env :: X.outer ∧ X.env.frame = some X.env.locals)
  exf : ∀ b ∈ X.ex, b ≠ X.env.locals ∧ ∀ x c, X.env.cells.lookup x = some c → c ≠ b
  bs : ∀ b o, X.base.get? b = some o → X.s₀.heap.get? b = some o ∧ X.H₀ b = none
  bsz : X.base.objs.size ≤ X.s₀.heap.objs.size
  noex : ∀ b o, X.base.get? b = some o → b ∉ X.ex
  exfs : ∀ b ∈ X.ex, b ∉ X.fs
  funs : X.s₀.heap.FunFrames X.base X.outer
  frf : ∀ b ∈ X.fs, X.H₀ b = none
structure Inv (X : Cx) (pins : List (Addr × Obj)) (σ : List (Option V)) (H : Hp) (s : Shared) : Prop where
  ok : X.Ok
  os : s.os = X.s₀.os
  bare : AllBare s.gens
  base : Un X.fs X.ex X.H₀ H X.s₀.heap s.heap
  loc : ∃ m, s.heap.Ns X.env.locals m ∧ ∀ (i : Nat) (x : Str) (v : V), X.N[i]? = some x → σ[i]? = some (some v) → Vis X.env.scope x → ∃ u, RelV v u ∧ Look X.env s.heap m x u
  cell : ∀ x c, X.env.cells.lookup x = some c → ∃ v, s.heap.IsCell c v
  free : H X.env.locals = none
  freeC : ∀ x c, X.env.cells.lookup x = some c → H c = none
  pin : ∀ p ∈ X.pn ++ pins, s.heap.get? p.1 = some p.2 ∧ H p.1 = none ∧ p.1 ≠ X.env.locals ∧ p.1 ∉ X.fs ∧ ∀ v, p.2.data ≠ .cell v
  hok : HOk X.prog X.w H s.heap
  len : σ.length = X.N.length
section
variable {X : Cx} {pins : List (Addr × Obj)} {σ : List (Option V)} {H H' : Hp} {s : Shared} {h' : Heap}
theorem Cx.Ok.nofr (ok : X.Ok) {b : Addr} {o : Obj} (e : X.base.get? b = some o) : b ∉ X.fs := fun hb => by
  have := (ok.funs.mem hb).1
  rw [e] at this; cases this
theorem Inv.bs (I : Inv X pins σ H s) : ∀ b o, X.base.get? b = some o → s.heap.get? b = some o ∧ H b = none := fun b o e =>
  ⟨I.base.keep b o (I.ok.bs b o e).1 (I.ok.bs b o e).2 (I.ok.nofr e) (I.ok.noex b o e), I.base.free b o (I.ok.bs b o e).1 (I.ok.bs b o e).2 (I.ok.noex b o e)⟩
theorem Inv.bk (I : Inv X pins σ H s) : ∀ b o, X.base.get? b = some o → s.heap.get? b = some o := fun b o e => (I.bs b o e).1
theorem Inv.mod (I : Inv X pins σ H s) : Mod X.K X.mg X.base := I.ok.mod
theorem Inv.kIn (I : Inv X pins σ H s) : X.K.In s.heap := I.ok.mod.kin.keeps I.bk
theorem Inv.nolimit (I : Inv X pins σ H s) : s.heap.NoLimit := I.ok.mod.nolimit.keeps I.bk
theorem Inv.fr (I : Inv X pins σ H s) : ∃ m, Fr X.base X.env.locals s.heap m :=
  let ⟨m, hn, _⟩ := I.loc
  ⟨m, hn, I.bk, Nat.le_trans I.ok.bsz I.ok.above⟩
theorem Inv.lt (I : Inv X pins σ H s) : X.env.locals < s.heap.objs.size := let ⟨_, hn, _⟩ := I.loc; hn.lt
theorem Inv.sz (I : Inv X pins σ H s) : X.s₀.heap.objs.size ≤ s.heap.objs.size := Nat.le_trans I.ok.above (Nat.le_of_lt I.lt)
theorem Inv.nofs (I : Inv X pins σ H s) {a : Addr} (h : s.heap.objs.size ≤ a) : a ∉ X.fs := fun hb => by
  obtain ⟨_, o, ho, _⟩ := I.ok.funs.mem hb
  exact absurd (Nat.lt_of_lt_of_le (Heap.lt_size ho) (Nat.le_trans I.sz h)) (Nat.lt_irrefl _)
theorem Inv.cne (I : Inv X pins σ H s) : ∀ x c, X.env.cells.lookup x = some c → c ≠ X.env.locals := fun x c e z => by
  obtain ⟨v, o, ho, hd⟩ := I.cell x c e
  obtain ⟨m, ⟨o', es, ep, ho', hd', _⟩, _⟩ := I.loc
  rw [z, ho'] at ho; cases ho; rw [hd'] at hd; cases hd
theorem Inv.funs (I : Inv X pins σ H s) : s.heap.FunFrames X.base X.outer := by
  have all : ∀ (l : List Env), (∀ b ∈ frs l, b ∈ X.fs) → X.s₀.heap.FunFrames X.base l → s.heap.FunFrames X.base l := by
    intro l
    induction l with
    | nil => intro _ _; trivial
    | cons env r ih =>
      intro hs hl
      obtain ⟨hk, ⟨L, o, hf, hn, ho, hd⟩, hr⟩ := hl
      have hL : L ∈ X.fs := hs L (by unfold frs; rw [List.filterMap_cons, hf]; exact List.mem_cons_self)
      obtain ⟨sl, e⟩ := I.base.slot L o ho (I.ok.frf L hL) hL fun z => I.ok.exfs L z hL
      exact ⟨hk, ⟨L, _, hf, hn, e, hd⟩, ih (fun b hb => hs b (by unfold frs; rw [List.filterMap_cons, hf]; exact List.mem_cons_of_mem _ hb)) hr⟩
  exact all X.outer (fun _ hb => hb) I.ok.funs
theorem Inv.stack (I : Inv X pins σ H s) : s.heap.FunFrames X.base X.stack := by
  rcases I.ok.stk with e | ⟨e, hf⟩
  · rw [e]; exact I.funs
  · rw [e]
    obtain ⟨m, hn, _⟩ := I.loc
    refine .cons (by rw [I.ok.kind]; decide) hf hn ?_ I.funs
    exact Heap.get?_none_of_le (Nat.le_trans I.ok.bsz I.ok.above)
theorem Inv.stkSub (I : Inv X pins σ H s) : ∀ b ∈ frs X.stack, b ∈ X.env.locals :: X.fs := fun b hb => by
  rcases I.ok.stk with e | ⟨e, hf⟩
  · rw [e] at hb; exact List.mem_cons_of_mem _ hb
  · rw [e] at hb
    unfold frs at hb
    rw [List.filterMap_cons, hf] at hb
    exact hb
theorem Inv.stkFree (I : Inv X pins σ H s) : ∀ b ∈ frs X.stack, H b = none := fun b hb => by
  rcases List.mem_cons.mp (I.stkSub b hb) with e | hb
  · rw [e]; exact I.free
  · obtain ⟨_, o, ho, _⟩ := I.ok.funs.mem hb
    exact I.base.free b o ho (I.ok.frf b hb) fun z => I.ok.exfs b z hb
theorem Inv.step {g' : Array GenState} {t' : Nat} {d' : Drawn} {ch : List Addr} (I : Inv X pins σ H s)
    (hch : ∀ b ∈ ch, (b ∈ X.ex ∨ X.s₀.heap.objs.size ≤ b) ∧ b ≠ X.env.locals ∧ (∀ x c, X.env.cells.lookup x = some c → c ≠ b) ∧ ∀ p ∈ X.pn ++ pins, p.1 ≠ b)
    (keep : ∀ b o, b ≠ X.env.locals → b ∉ X.fs → b ∉ ch → s.heap.get? b = some o → H b = none → h'.get? b = some o)
    (slot : ∀ b o, b ≠ X.env.locals → b ∈ X.fs → b ∉ ch → s.heap.get? b = some o → H b = none → ∃ sl, h'.get? b = some { o with slots := sl }) (free : ∀ b o, b ∉ ch → s.heap.get? b = some o → H b = none → H' b = none)
    (there : ∀ b o, b ∉ ch → s.heap.get? b = some o → ∃ o', h'.get? b = some o')
    (tups : ∀ b xs, H b = some (.tup xs) → H' b = some (.tup xs)) (frzs : ∀ b o u, H b = some (.frz o u) → H' b = some (.frz o u)) (tbls : ∀ b ps, H b = some (.tbl ps) → ∃ more, H' b = some (.tbl (ps ++ more)))
    (ns : ∀ m, s.heap.Ns X.env.locals m → h'.Ns X.env.locals m) (hok : HOk X.prog X.w H' h') (hg : AllBare g') :
    Inv X pins σ H' { s with heap := h', gens := g', drawn := d', toks := t' } := by
  have neL : ∀ b o, X.s₀.heap.get? b = some o → b ≠ X.env.locals := fun b o e => Nat.ne_of_lt (Nat.lt_of_lt_of_le (Heap.lt_size e) I.ok.above)
  have neC : ∀ b o, X.s₀.heap.get? b = some o → b ∉ X.ex → b ∉ ch := fun b o e hx hb => by
    rcases (hch b hb).1 with z | z
    · exact hx z
    · exact absurd (Nat.lt_of_lt_of_le (Heap.lt_size e) z) (Nat.lt_irrefl _)
  have cellK : ∀ x c, X.env.cells.lookup x = some c → ∀ v, s.heap.IsCell c v → h'.IsCell c v := fun x c e v ⟨o, ho, hd⟩ => by
    have nch : c ∉ ch := fun z => (hch c z).2.2.1 x c e rfl
    by_cases hc : c ∈ X.fs
    · obtain ⟨sl, q⟩ := slot c o (I.cne x c e) hc nch ho (I.freeC x c e)
      exact ⟨_, q, hd⟩
    · exact ⟨o, keep c o (I.cne x c e) hc nch ho (I.freeC x c e), hd⟩
  refine ⟨I.ok, I.os, hg, ⟨fun b o e n hb hx => ?_, fun b o e n hb hx => ?_, fun b o e n hx => ?_, fun b o e hx => ?_, fun b xs e => tups b xs (I.base.tups b xs e), fun b o xs e => frzs b o xs (I.base.frzs b o xs e), fun b ps e => ?_⟩, ?_, fun x c e => ?_, ?_, fun x c e => ?_, fun p hp => ?_, hok, I.len⟩
  · exact keep b o (neL b o e) hb (neC b o e hx) (I.base.keep b o e n hb hx) (I.base.free b o e n hx)
  · obtain ⟨sl, e1⟩ := I.base.slot b o e n hb hx
    obtain ⟨sl', e2⟩ := slot b _ (neL b o e) hb (neC b o e hx) e1 (I.base.free b o e n hx)
    exact ⟨sl', e2⟩
  · obtain ⟨o', e1⟩ := I.base.there b o e hx
    exact free b o' (neC b o e hx) e1 (I.base.free b o e n hx)
  · obtain ⟨o', e1⟩ := I.base.there b o e hx
    exact there b o' (neC b o e hx) e1
  · obtain ⟨m1, e1⟩ := I.base.tbls b ps e
    obtain ⟨m2, e2⟩ := tbls b _ e1
    exact ⟨m1 ++ m2, by rw [e2, Array.append_assoc]⟩
  · obtain ⟨m, hn, hl⟩ := I.loc
    refine ⟨m, ns m hn, fun i x v e1 e2 e3 => ?_⟩
    obtain ⟨u, r, l⟩ := hl i x v e1 e2 e3
    refine ⟨u, r, ?_⟩
    rcases l with l | ⟨k, c, e, z⟩
    · exact .inl l
    · exact .inr ⟨k, c, e, cellK x c e _ z⟩
  · obtain ⟨v, z⟩ := I.cell x c e
    exact ⟨v, cellK x c e v z⟩
  · obtain ⟨m, ⟨o, _, _, ho, _⟩, _⟩ := I.loc
    exact free _ o (fun z => (hch _ z).2.1 rfl) ho I.free
  · obtain ⟨v, o, ho, hd⟩ := I.cell x c e
    exact free c o (fun z => (hch c z).2.2.1 x c e rfl) ho (I.freeC x c e)
  · obtain ⟨e, n, ne, nf, d⟩ := I.pin p hp
    have nch : p.1 ∉ ch := fun z => (hch p.1 z).2.2.2 p hp rfl
    exact ⟨keep p.1 p.2 ne nf nch e n, free p.1 p.2 nch e n, ne, nf, d⟩
theorem Inv.un {t' : Nat} (I : Inv X pins σ H s) (u : Un X.fs [] H H' s.heap h') (hok : HOk X.prog X.w H' h') : Inv X pins σ H' { s with heap := h', toks := t' } := by
  obtain ⟨m, ⟨o, es, ep, ho, r⟩, _⟩ := id I.loc
  obtain ⟨sl, hL⟩ := u.any ho I.free (by simp)
  exact I.step (g' := s.gens) (d' := s.drawn) (ch := []) (fun _ z => nomatch z) (fun b o _ hb _ e n => u.keep b o e n hb (by simp)) (fun b o _ hb _ e n => u.slot b o e n hb (by simp)) (fun b o _ e n => u.free b o e n (by simp)) (fun b o _ e => u.there b o e (by simp)) u.tups u.frzs u.tbls (fun m' hm => by
    obtain ⟨o', es', ep', ho', r'⟩ := hm
    rw [ho] at ho'; cases ho'
    exact ⟨_, es', ep', hL, r'⟩) hok I.bare
theorem Inv.call {g' : Array GenState} {t' : Nat} {d' : Drawn} {ch : List Addr} (I : Inv X pins σ H s) (u : Un (frs X.stack) ch H H' s.heap h') (hok : HOk X.prog X.w H' h') (hg : AllBare g')
    (hch : ∀ b ∈ ch, (b ∈ X.ex ∨ X.s₀.heap.objs.size ≤ b) ∧ b ≠ X.env.locals ∧ (∀ x c, X.env.cells.lookup x = some c → c ≠ b) ∧ ∀ p ∈ X.pn ++ pins, p.1 ≠ b) :
    Inv X pins σ H' { s with heap := h', gens := g', drawn := d', toks := t' } := by
  obtain ⟨m, ⟨o, es, ep, ho, r⟩, _⟩ := id I.loc
  obtain ⟨sl, hL⟩ := u.any ho I.free fun z => (hch _ z).2.1 rfl
  exact I.step (ch := ch) hch (fun b o hL hb hc e n => u.keep b o e n (fun z => (List.mem_cons.mp (I.stkSub b z)).elim hL hb) hc) (fun b o _ _ hc e n => u.any e n hc) (fun b o hc e n => u.free b o e n hc) (fun b o hc e => u.there b o e hc) u.tups u.frzs u.tbls (fun m' hm => by
    obtain ⟨o', es', ep', ho', r'⟩ := hm
    rw [ho] at ho'; cases ho'
    exact ⟨_, es', ep', hL, r'⟩) hok hg
theorem Inv.turned {t' : Nat} {it : Addr} (I : Inv X pins σ H s) (k : ∀ b o, b ≠ it → s.heap.get? b = some o → h'.get? b = some o) (hn : H it = none) (hL : it ≠ X.env.locals)
    (h1 : it ∈ X.ex ∨ X.s₀.heap.objs.size ≤ it) (h2 : ∀ x c, X.env.cells.lookup x = some c → c ≠ it) (h3 : ∀ p ∈ X.pn ++ pins, p.1 ≠ it) : Inv X pins σ H { s with heap := h', toks := t' } := by
  have nit : ∀ b u, H b = some u → b ≠ it := fun b u e z => by rw [z, hn] at e; cases e
  refine I.step (g' := s.gens) (d' := s.drawn) (ch := [it]) (fun b hb => ?_) (fun b o _ _ hc e _ => k b o (fun z => hc (by simp [z])) e) (fun b o _ _ hc e _ => ⟨o.slots, k b o (fun z => hc (by simp [z])) e⟩) (fun _ _ _ _ n => n)
    (fun b o hc e => ⟨o, k b o (fun z => hc (by simp [z])) e⟩) (fun _ _ e => e) (fun _ _ _ e => e) (fun b ps e => ⟨#[], by rw [e]; simp⟩) (fun m hm => ?_) (fun b u e => ?_) I.bare
  · have e : b = it := by simpa using hb
    subst e
    exact ⟨h1, hL, h2, h3⟩
  · obtain ⟨o, es, ep, ho, r⟩ := hm
    exact ⟨o, es, ep, k _ o (Ne.symm hL) ho, r⟩
  · refine (I.hok b u e).stay (fun c v hc q => k c v ?_ q) (fun _ q => q) fun _ _ q => q
    rcases hc with z | z
    · rw [z]; exact nit b u e
    · exact nit c _ z
theorem Inv.tok (I : Inv X pins σ H s) (t : Nat) : Inv X pins σ H { s with toks := t } := I.un (h' := s.heap) (t' := t) Un.refl I.hok
theorem Inv.kept {t' : Nat} (I : Inv X pins σ H s) (k : ∀ b u, s.heap.get? b = some u → h'.get? b = some u) : Inv X pins σ H { s with heap := h', toks := t' } := I.un (Un.kept k) (I.hok.kept k)
theorem Inv.laid {a : Addr} {o : HO} {t' : Nat} (I : Inv X pins σ H s) (k : ∀ b u, s.heap.get? b = some u → h'.get? b = some u) (hp : s.heap.objs.size ≤ a) (new : ObjOk X.prog X.w (upd H a o) h' a o) :
    Inv X pins σ (upd H a o) { s with heap := h', toks := t' } := I.un (Un.laid k hp (I.hok.fresh hp)) (I.hok.laid k hp new)
theorem Inv.write {x e : Addr} {o : HO} {t' : Nat} (I : Inv X pins σ H s) (mu : Mut (H x)) (he : e = x ∨ H e = some (.own x)) (k : ∀ b u, b ≠ e → s.heap.get? b = some u → h'.get? b = some u) (heo : ∃ u, h'.get? e = some u)
    (new : ObjOk X.prog X.w (upd H x o) h' x o) : Inv X pins σ (upd H x o) { s with heap := h', toks := t' } := I.un (Un.write mu he k heo) (I.hok.write mu he k heo new)
theorem Inv.pins_of {pins' : List (Addr × Obj)} (I : Inv X pins σ H s) (h : ∀ p ∈ pins', s.heap.get? p.1 = some p.2 ∧ H p.1 = none ∧ p.1 ≠ X.env.locals ∧ p.1 ∉ X.fs ∧ ∀ v, p.2.data ≠ .cell v) : Inv X pins' σ H s :=
  ⟨I.ok, I.os, I.bare, I.base, I.loc, I.cell, I.free, I.freeC, fun p hp => (List.mem_append.mp hp).elim (fun z => I.pin p (List.mem_append_left _ z)) (h p), I.hok, I.len⟩
theorem nodup_ix {N : List Str} (hN : N.Nodup) {i j : Nat} {x : Str} (a : N[i]? = some x) (b : N[j]? = some x) : i = j := by
  obtain ⟨h1, e1⟩ := List.getElem?_eq_some_iff.mp a
  obtain ⟨h2, e2⟩ := List.getElem?_eq_some_iff.mp b
  exact (List.getElem_inj hN).mp (e1.trans e2.symm)
theorem store_ok2 {M : Model} {A : Around} {E : Value → Shared → Prop} {i : Nat} {x : Str} {v : V} {u : Value} {Q : Unit → Shared → Prop} (I : Inv X pins σ H s) (hN : X.N.Nodup) (hi : X.N[i]? = some x) (hx : Loc X.env.scope x) (r : RelV v u)
    (h : ∀ s', Inv X pins (σ.set i (some v)) H s' → (∃ a, Heap.SameBut a s.heap s'.heap ∧ (a = X.env.locals ∨ X.env.cells.lookup x = some a)) → Q () s') (hf : X.fn x = true ∨ X.env.scope.names.lookup x = some .local := by first | exact .inl rfl | exact .inr rfl | assumption) : wpAny M A (storeName X.env x u) Q E s := by
  obtain ⟨m, hn, hl⟩ := id I.loc
  have hcls : (X.env.scope.kind == .class || (X.env.scope.kind == .module && X.env.locals != X.env.globals)) = false := by rw [I.ok.kind]; rfl
  have hiσ : i < σ.length := by rw [I.len]; exact (List.getElem?_eq_some_iff.mp hi).1
  have cne := I.cne
  have tracked : ∀ {a : Addr} {h' : Heap}, (∃ o, s.heap.get? a = some o ∧ H a = none) → Heap.SameBut a s.heap h' → HOk X.prog X.w H h' := fun {a h'} ha hs b ob e => by
    obtain ⟨_, _, hfree⟩ := ha
    refine (I.hok b ob e).stay (fun c w' hc q => (hs.2 c ?_).trans q) (fun _ q => q) fun _ _ q => q
    rintro rfl
    rcases hc with rfl | hc
    · rw [hfree] at e; cases e
    · rw [hfree] at hc; cases hc
  rcases hx with hk | hk
  · refine wpAny_storeName_local hk hn (fun h' hn' hs => ?_) hcls
    obtain ⟨oL, _, _, hoL, _⟩ := id hn
    refine h _ ⟨I.ok, I.os, I.bare, ⟨fun b o e n hb hx => ?_, fun b o e n hb hx => ?_, I.base.free, fun b o e hx => ?_, I.base.tups, I.base.frzs, I.base.tbls⟩, ⟨_, hn', fun j y v' e1 e2 e3 => ?_⟩, fun y c e => ?_, I.free, I.freeC, fun p hp => ?_, tracked ⟨oL, hoL, I.free⟩ hs, by simpa using I.len⟩ ⟨_, hs, .inl rfl⟩
    · exact (hs.2 b (Nat.ne_of_lt (Nat.lt_of_lt_of_le (Heap.lt_size e) I.ok.above))).trans (I.base.keep b o e n hb hx)
    · obtain ⟨sl, e1⟩ := I.base.slot b o e n hb hx
      exact ⟨sl, (hs.2 b (Nat.ne_of_lt (Nat.lt_of_lt_of_le (Heap.lt_size e) I.ok.above))).trans e1⟩
    · obtain ⟨o', e1⟩ := I.base.there b o e hx
      exact ⟨o', (hs.2 b (Nat.ne_of_lt (Nat.lt_of_lt_of_le (Heap.lt_size e) I.ok.above))).trans e1⟩
    · by_cases hj : j = i
      · subst hj
        rw [hi] at e1; cases e1
        rw [List.getElem?_set_self hiσ] at e2
        cases e2
        exact ⟨u, r, .inl ⟨hk, by simp⟩⟩
      · rw [List.getElem?_set_ne (Ne.symm hj)] at e2
        obtain ⟨u', r', q⟩ := hl j y v' e1 e2 e3
        refine ⟨u', r', ?_⟩
        rcases q with ⟨k, e⟩ | ⟨k, c, e, z⟩
        · refine .inl ⟨k, ?_⟩
          have : y ≠ x := fun e => hj (nodup_ix hN e1 (e ▸ hi))
          simp [this, e]
        · exact .inr ⟨k, c, e, z.sameBut hs (cne y c e)⟩
    · obtain ⟨w', z⟩ := I.cell y c e
      exact ⟨w', z.sameBut hs (cne y c e)⟩
    · obtain ⟨e, n, ne, nf, d⟩ := I.pin p hp
      exact ⟨(hs.2 p.1 ne).trans e, n, ne, nf, d⟩
  · have hfn : X.fn x = true := by
      rcases hf with z | z
      · exact z
      · rw [z] at hk; cases hk
    obtain ⟨c, hc⟩ := I.ok.has x (.inl hk)
    obtain ⟨w', z⟩ := I.cell x c hc
    refine wpAny_storeName_cell I.ok.kind hk hc z (fun h' hc' hs => ?_)
    obtain ⟨oc, hoc, hocd⟩ := id z
    refine h { s with heap := h' } ⟨I.ok, I.os, I.bare, ⟨fun b o e n hb hx => ?_, fun b o e n hb hx => ?_, I.base.free, fun b o e hx => ?_, I.base.tups, I.base.frzs, I.base.tbls⟩, ⟨m, hn.sameBut hs (Ne.symm (cne x c hc)), fun j y v' e1 e2 e3 => ?_⟩, fun y c' e => ?_, I.free, I.freeC, fun p hp => ?_, tracked ⟨oc, hoc, I.freeC x c hc⟩ hs, by simpa using I.len⟩ ⟨c, hs, .inr hc⟩
    · exact (hs.2 b (Nat.ne_of_lt (Nat.lt_of_lt_of_le (Heap.lt_size e) (I.ok.cab x c hfn hc)))).trans (I.base.keep b o e n hb hx)
    · obtain ⟨sl, e1⟩ := I.base.slot b o e n hb hx
      exact ⟨sl, (hs.2 b (Nat.ne_of_lt (Nat.lt_of_lt_of_le (Heap.lt_size e) (I.ok.cab x c hfn hc)))).trans e1⟩
    · obtain ⟨o', e1⟩ := I.base.there b o e hx
      exact ⟨o', (hs.2 b (Nat.ne_of_lt (Nat.lt_of_lt_of_le (Heap.lt_size e) (I.ok.cab x c hfn hc)))).trans e1⟩
    · by_cases hj : j = i
      · subst hj
        rw [hi] at e1; cases e1
        rw [List.getElem?_set_self hiσ] at e2
        cases e2
        exact ⟨u, r, .inr ⟨.inl hk, c, hc, hc'⟩⟩
      · rw [List.getElem?_set_ne (Ne.symm hj)] at e2
        obtain ⟨u', r', q⟩ := hl j y v' e1 e2 e3
        refine ⟨u', r', ?_⟩
        rcases q with q | ⟨k, c', e, z'⟩
        · exact .inl q
        · refine .inr ⟨k, c', e, z'.sameBut hs ?_⟩
          rintro rfl
          exact hj (nodup_ix hN e1 (I.ok.inj _ _ _ e hc ▸ hi))
    · by_cases hcc : c' = c
      · subst hcc; exact ⟨_, hc'⟩
      · obtain ⟨w2, z2⟩ := I.cell y c' e
        exact ⟨w2, z2.sameBut hs hcc⟩
    · obtain ⟨e, n, ne, nf, d⟩ := I.pin p hp
      refine ⟨(hs.2 p.1 ?_).trans e, n, ne, nf, d⟩
      intro q
      rw [q, hoc] at e
      have q' : oc = p.2 := Option.some.inj e
      exact d w' (by rw [← q']; exact hocd)
theorem store_ok {M : Model} {A : Around} {E : Value → Shared → Prop} {i : Nat} {x : Str} {v : V} {u : Value} {Q : Unit → Shared → Prop} (I : Inv X pins σ H s) (hN : X.N.Nodup) (hi : X.N[i]? = some x) (hx : Loc X.env.scope x) (r : RelV v u)
    (h : ∀ s', Inv X pins (σ.set i (some v)) H s' → Q () s') (hf : X.fn x = true ∨ X.env.scope.names.lookup x = some .local := by first | exact .inl rfl | exact .inr rfl | assumption) : wpAny M A (storeName X.env x u) Q E s :=
  store_ok2 I hN hi hx r (fun s' I' _ => h s' I') hf
theorem Inv.call' {s' : Shared} {ch : List Addr} (I : Inv X pins σ H s) (ho : s'.os = s.os) (u : Un (frs X.stack) ch H H' s.heap s'.heap) (hok : HOk X.prog X.w H' s'.heap) (hg : AllBare s'.gens)
    (hch : ∀ b ∈ ch, (b ∈ X.ex ∨ X.s₀.heap.objs.size ≤ b) ∧ b ≠ X.env.locals ∧ (∀ x c, X.env.cells.lookup x = some c → c ≠ b) ∧ ∀ p ∈ X.pn ++ pins, p.1 ≠ b) : Inv X pins σ H' s' := by
  obtain ⟨h', g', d', t', o'⟩ := s'
  have e : o' = s.os := ho
  subst e
  exact I.call (g' := g') (t' := t') (d' := d') u hok hg hch
end
abbrev XK := Value → Option Addr → Hp → Prop
abbrev St := List (Option V)
abbrev VK := V → Hp → Prop
abbrev TE := St → Hp → VK → Prop
abbrev TT := St → Hp → (Bool → Hp → Prop) → Prop
abbrev TA := St → Hp → (List V → Hp → Prop) → Prop
structure Ends where
  nx : St → Hp → Prop
  rt : VK
  bk : St → Hp → Prop := fun _ _ => False
  ct : St → Hp → Prop := fun _ _ => False
abbrev TS := Ends → St → Hp → Prop
def EP (X : Cx) (pins : List (Addr × Obj)) (σ : St) (Q : VK) (u : Value) (s' : Shared) : Prop := ∃ v H', Inv X pins σ H' s' ∧ RelV v u ∧ Q v H'
def TP (X : Cx) (pins : List (Addr × Obj)) (σ : St) (Q : Bool → Hp → Prop) (b : Bool) (s' : Shared) : Prop := ∃ H', Inv X pins σ H' s' ∧ Q b H'
def AP (X : Cx) (pins : List (Addr × Obj)) (σ : St) (Q : List V → Hp → Prop) (us : List Value) (s' : Shared) : Prop := ∃ vs H', Inv X pins σ H' s' ∧ Vals vs us ∧ Q vs H'
def SP (X : Cx) (pins : List (Addr × Obj)) (D : Ends) (f : Flow) (s' : Shared) : Prop :=
  match f with
  | .next => ∃ σ' H', Inv X pins σ' H' s' ∧ D.nx σ' H'
  | .brk => ∃ σ' H', Inv X pins σ' H' s' ∧ D.bk σ' H'
  | .cont => ∃ σ' H', Inv X pins σ' H' s' ∧ D.ct σ' H'
  | .ret u => ∃ v σ' H', Inv X pins σ' H' s' ∧ RelV v u ∧ D.rt v H'
def PE (X : Cx) (e : Expr) (t : TE) : Prop :=
  ∀ (pins : List (Addr × Obj)) (s : Shared) (σ : St) (H : Hp) (Q : VK), Inv X pins σ H s → t σ H Q → wpAny (model X.prog X.w) X.A (eval e X.env) (EP X pins σ Q) X.xe s
def PT (X : Cx) (e : Expr) (t : TT) : Prop :=
  ∀ (pins : List (Addr × Obj)) (s : Shared) (σ : St) (H : Hp) (Q : Bool → Hp → Prop), Inv X pins σ H s → t σ H Q → wpAny (model X.prog X.w) X.A (isTrue e X.env (eval e X.env)) (TP X pins σ Q) X.xe s
def PW (X : Cx) (e : Expr) (t : TT) : Prop :=
  ∀ (whole : Sem Value) (pins : List (Addr × Obj)) (s : Shared) (σ : St) (H : Hp) (Q : Bool → Hp → Prop), Inv X pins σ H s → t σ H Q → wpAny (model X.prog X.w) X.A (isTrue e X.env whole) (TP X pins σ Q) X.xe s
theorem PW.pt {X : Cx} {e : Expr} {t : TT} (h : PW X e t) : PT X e t := h _
def PA (X : Cx) (es : List Expr) (t : TA) : Prop :=
  ∀ (pos : Pos) (pins : List (Addr × Obj)) (s : Shared) (σ : St) (H : Hp) (Q : List V → Hp → Prop), Inv X pins σ H s → t σ H Q → wpAny (model X.prog X.w) X.A (spliced (backTo pos (starEach es X.env))) (AP X pins σ Q) X.xe s
def PS (X : Cx) (st : Stmt) (t : TS) : Prop :=
  ∀ (pins : List (Addr × Obj)) (s : Shared) (σ : St) (H : Hp) (D : Ends), Inv X pins σ H s → t D σ H → wpAny (model X.prog X.w) X.A (exec st X.env) (SP X pins D) X.xe s
def PSs (X : Cx) (st : List Stmt) (t : TS) : Prop :=
  ∀ (pins : List (Addr × Obj)) (s : Shared) (σ : St) (H : Hp) (D : Ends), Inv X pins σ H s → t D σ H → wpAny (model X.prog X.w) X.A (execs st X.env) (SP X pins D) X.xe s
theorem thn {α : Type} {t : Sem α} {Q Q' : α → Shared → Prop} {M : Model} {A : Around} {E : Value → Shared → Prop} {s : Shared} (h : wpAny M A t Q E s) (hQ : ∀ a s, Q a s → Q' a s) : wpAny M A t Q' E s := wpAny_mono h hQ fun _ _ x => x
end L2
namespace L2
open PySem PySem.Spec PyProof.Rows
section
variable {X : Cx}
def tVar (i : Nat) : TE := fun σ H Q => ∃ v, σ[i]? = some (some v) ∧ Q v H
def tC (v : V) : TE := fun _ H Q => Q v H
theorem pe_var {i : Nat} {x : Str} {pos : Pos} (hN : X.N[i]? = some x) (hv : Vis X.env.scope x) (hd : (x == ("__debug__" : Str)) = false := by decide) (hcd : (x == ("__classdict__" : Str)) = false := by decide) : PE X (.Name x pos) (tVar i) := by
  intro pins s σ H Q I h
  obtain ⟨v, e, h⟩ := h
  obtain ⟨m, hn, hl⟩ := I.loc
  obtain ⟨u, r, l⟩ := hl i x v hN e hv
  have fin : EP X pins σ Q u s := ⟨v, H, I, r, h⟩
  rcases l with ⟨hk, hm⟩ | ⟨hk, c, hc, hcell⟩
  · exact wpAny_Name (wpAny_loadName_local I.ok.kind hk hn hm fin) hd
  · rcases hk with hk | hk
    · exact wpAny_Name (wpAny_loadName_cell I.ok.kind hk hc hcell fin) hd
    · exact wpAny_Name (wpAny_loadName_free I.ok.kind hk hc hcell fin hcd) hd
theorem pe_int {i j pos} : PE X (.Constant (.int i) j pos) (tC (.int i)) := fun _ _ _ H _ I h => wpAny_Constant_int ⟨.int i, H, I.tok _, ⟨_, rfl⟩, h⟩
theorem pe_bl {b j pos} : PE X (.Constant (.bool b) j pos) (tC (.bl b)) := fun _ _ _ H _ I h => Constant_bool ⟨.bl b, H, I, rfl, h⟩
def Gl (X : Cx) (x : Str) : Prop := X.env.kindOf x = some .globalImplicit
theorem ld_glob {E : Value → Shared → Prop} {pins : List (Addr × Obj)} {s : Shared} {σ : St} {H : Hp} {x : Str} {u : Value} {pos : Pos} {Q : Value → Shared → Prop} (I : Inv X pins σ H s) (hg : Gl X x) (hm : X.mg x = some u) (h : Q u s)
    (hd : (x == ("__debug__" : Str)) = false := by decide) : wpAny (model X.prog X.w) X.A (eval (.Name x pos) X.env) Q E s :=
  Calls.Name_function_global I.ok.kind hg (Calls.loadGlobal_global (by rw [I.ok.glob]; exact I.mod.glob.keeps I.bk) hm h) hd
theorem ld_blt {E : Value → Shared → Prop} {pins : List (Addr × Obj)} {s : Shared} {σ : St} {H : Hp} {x : Str} {u : Value} {pos : Pos} {Q : Value → Shared → Prop} (I : Inv X pins σ H s) (hg : Gl X x) (hm : X.mg x = none) (hv : bootBuiltins x = some u) (h : Q u s)
    (hn : x ≠ "__name__" := by decide) (hd : (x == ("__debug__" : Str)) = false := by decide) : wpAny (model X.prog X.w) X.A (eval (.Name x pos) X.env) Q E s := by
  obtain ⟨mb, h1, h2⟩ := I.mod.blt
  exact Calls.Name_function_global I.ok.kind hg (Calls.loadGlobal_builtin (by rw [I.ok.glob]; exact I.mod.glob.keeps I.bk) hm (by rw [I.ok.blt]; exact h1.keeps I.bk) ((h2 x hn).trans hv) h) hd
theorem pe_glob {x : Str} {v : V} {u : Value} {pos : Pos} (hg : Gl X x) (hm : X.mg x = some u) (r : RelV v u) (hd : (x == ("__debug__" : Str)) = false := by decide) : PE X (.Name x pos) (tC v) :=
  fun _ _ _ H _ I h => ld_glob I hg hm ⟨v, H, I, r, h⟩ hd
variable {a b : Expr} {ta tb : TE} {pos : Pos}
variable {tA tB' : TT} {rest : List Expr}
def tAnd (t u : TT) : TT := fun σ H Q => t σ H fun c H1 => if c = true then u σ H1 Q else Q false H1
def tOr (t u : TT) : TT := fun σ H Q => t σ H fun c H1 => if c = true then Q true H1 else u σ H1 Q
def tNot (t : TT) : TT := fun σ H Q => t σ H fun c H1 => Q (!c) H1
theorem pw_and1 (ha : PT X a tA) : PW X (.BoolOp .And [a] pos) tA := by
  intro wh pins s σ H Q I h
  refine isTrue_and (thn (ha pins s σ H Q I h) fun c s1 e => ?_)
  cases c with
  | true => exact isTrue_and_nil e
  | false => exact e
theorem pw_or1 (ha : PT X a tA) : PW X (.BoolOp .Or [a] pos) tA := by
  intro wh pins s σ H Q I h
  refine isTrue_or (thn (ha pins s σ H Q I h) fun c s1 e => ?_)
  cases c with
  | false => exact isTrue_or_nil e
  | true => exact e
theorem pw_and (ha : PT X a tA) (hb : PW X (.BoolOp .And (b :: rest) pos) tB') : PW X (.BoolOp .And (a :: b :: rest) pos) (tAnd tA tB') := by
  intro wh pins s σ H Q I h
  refine isTrue_and (thn (ha pins s σ H _ I h) fun c s1 ⟨H1, I1, q1⟩ => ?_)
  cases c with
  | true => exact hb wh pins s1 σ H1 Q I1 q1
  | false => exact ⟨H1, I1, q1⟩
theorem pw_or (ha : PT X a tA) (hb : PW X (.BoolOp .Or (b :: rest) pos) tB') : PW X (.BoolOp .Or (a :: b :: rest) pos) (tOr tA tB') := by
  intro wh pins s σ H Q I h
  refine isTrue_or (thn (ha pins s σ H _ I h) fun c s1 ⟨H1, I1, q1⟩ => ?_)
  cases c with
  | true => exact ⟨H1, I1, q1⟩
  | false => exact hb wh pins s1 σ H1 Q I1 q1
theorem pt_not (ha : PT X a tA) : PT X (.UnaryOp .Not a pos) (tNot tA) := by
  intro pins s σ H Q I h
  exact isTrue_not (ha pins s σ H (fun c H1 => Q (!c) H1) I h)
def tIf (t : TT) (ta tb : TE) : TE := fun σ H Q => t σ H fun c H1 => if c = true then ta σ H1 Q else tb σ H1 Q
theorem pe_ifExp {c : Expr} (hc : PT X c tA) (ha : PE X a ta) (hb : PE X b tb) : PE X (.IfExp c a b pos) (tIf tA ta tb) := by
  intro pins s σ H Q I h
  refine wpAny_IfExp (thn (hc pins s σ H _ I h) fun d s1 ⟨H1, I1, q1⟩ => ?_)
  cases d with
  | true => exact ha pins s1 σ H1 Q I1 q1
  | false => exact hb pins s1 σ H1 Q I1 q1
end
end L2
namespace L2
open PySem PySem.Spec PyProof.Rows
def SqL (K : PySem.W.Frag) (H : Hp) (a : Addr) (xs : List V) : Prop :=
  Rd H a (.lst xs) ∨
    ∃ (o : Obj) (its : Array Value) (n : Nat), K.lookup a = some o ∧ o.cls = .type "list" ∧ o.dict = none ∧ o.data = .seq its n ∧ its.size ≤ sizeLine ∧ Vals xs its.toList
def SqT (K : PySem.W.Frag) (H : Hp) (a : Addr) (xs : List V) : Prop :=
  Rd H a (.tup xs) ∨
    ∃ (o : Obj) (its : Array Value) (n : Nat), K.lookup a = some o ∧ o.cls = .type "tuple" ∧ o.data = .seq its n ∧ its.size ≤ sizeLine ∧ Vals xs its.toList
def absV : Value → Option V
  | .none => some .non
  | .bool b => some (.bl b)
  | .int i _ => some (.int i)
  | .str x _ => some (.str x)
  | .bytes b _ => some (.byt b)
  | .float b _ => some (.flt b)
  | .ref a => some (.ref a)
  | .type n => some (.ty n)
  | _ => none
theorem RelV.abs {x : V} {u : Value} (r : RelV x u) : absV u = some x := by
  cases x with
  | non => cases r; rfl
  | bl _ => cases r; rfl
  | int _ => obtain ⟨t, rfl⟩ := r; rfl
  | str _ => obtain ⟨t, rfl⟩ := r; rfl
  | byt _ => obtain ⟨t, rfl⟩ := r; rfl
  | flt _ => obtain ⟨t, rfl⟩ := r; rfl
  | ref _ => cases r; rfl
  | ty _ => cases r; rfl
theorem RelV.inj {x y : V} {u : Value} (r : RelV x u) (q : RelV y u) : x = y := Option.some.inj (r.abs.symm.trans q.abs)
theorem Vals.inj : ∀ {xs ys : List V} {us : List Value}, Vals xs us → Vals ys us → xs = ys
  | _, _, _, .nil, .nil => rfl
  | _, _, _, .cons r t, .cons r' t' => by rw [r.inj r', Vals.inj t t']
section
variable {X : Cx} {pins : List (Addr × Obj)} {σ : St} {H : Hp} {s : Shared} {a : Addr} {xs ys : List V}
theorem SqL.of {K : PySem.W.Frag} (h : H a = some (.lst xs)) : SqL K H a xs := .inl (.inl h)
theorem SqT.of {K : PySem.W.Frag} (h : H a = some (.tup xs)) : SqT K H a xs := .inl (.inl h)
theorem Inv.list (I : Inv X pins σ H s) (h : SqL X.K H a xs) : ∃ its : List Value, Vals xs its ∧ PlainL s.heap a its.toArray ∧ xs.length ≤ sizeLine := by
  rcases h with h | ⟨o, its, n, hk, hc, hd, hs, hz, r⟩
  · obtain ⟨z, its, n, r, e⟩ := h.ok I.hok
    exact ⟨its, r, ⟨_, n, e, rfl, rfl, rfl⟩, z⟩
  · refine ⟨its.toList, r, ⟨o, n, I.kIn a o hk, hc, hd, by simpa using hs⟩, ?_⟩
    have e := r.length
    simp only [Array.length_toList] at e
    omega
theorem Inv.tuple (I : Inv X pins σ H s) (h : SqT X.K H a xs) : ∃ its : List Value, Vals xs its ∧ IsTup s.heap a its.toArray ∧ xs.length ≤ sizeLine := by
  rcases h with h | ⟨o, its, n, hk, hc, hs, hz, r⟩
  · obtain ⟨z, its, r, p⟩ := h.ok I.hok
    exact ⟨its, r, p, z⟩
  · refine ⟨its.toList, r, ⟨o, I.kIn a o hk, hc, n, by simpa using hs⟩, ?_⟩
    have e := r.length
    simp only [Array.length_toList] at e
    omega
theorem Inv.list_inj (I : Inv X pins σ H s) (h : SqL X.K H a xs) (h' : SqL X.K H a ys) : xs = ys := by
  obtain ⟨its, r, ⟨o, n, e, _, _, d⟩, _⟩ := I.list h
  obtain ⟨its', r', ⟨o', n', e', _, _, d'⟩, _⟩ := I.list h'
  rw [e] at e'; cases e'
  rw [d] at d'
  injection d' with d1 _
  have : its = its' := by simpa using congrArg Array.toList d1
  subst this
  exact r.inj r'
theorem Inv.tuple_inj (I : Inv X pins σ H s) (h : SqT X.K H a xs) (h' : SqT X.K H a ys) : xs = ys := by
  obtain ⟨its, r, ⟨o, e, _, n, d⟩, _⟩ := I.tuple h
  obtain ⟨its', r', ⟨o', e', _, n', d'⟩, _⟩ := I.tuple h'
  rw [e] at e'; cases e'
  rw [d] at d'
  injection d' with d1 _
  have : its = its' := by simpa using congrArg Array.toList d1
  subst this
  exact r.inj r'
end
abbrev Cx.wish (X : Cx) (E : Value → Shared → Prop) : Cx := { X with xe := E }
abbrev Cx.nox (X : Cx) : Cx := X.wish fun _ _ => False
theorem Cx.Ok.wish {X : Cx} (ok : X.Ok) (E : Value → Shared → Prop) : (X.wish E).Ok :=
  ⟨ok.mod, ok.kind, ok.glob, ok.blt, ok.above, ok.inj, ok.has, ok.cab, ok.hd, ok.frames, ok.stk, ok.exf, ok.bs, ok.bsz, ok.noex, ok.exfs, ok.funs, ok.frf⟩
theorem Cx.Ok.unwish {X : Cx} {E : Value → Shared → Prop} (ok : (X.wish E).Ok) : X.Ok :=
  ⟨ok.mod, ok.kind, ok.glob, ok.blt, ok.above, ok.inj, ok.has, ok.cab, ok.hd, ok.frames, ok.stk, ok.exf, ok.bs, ok.bsz, ok.noex, ok.exfs, ok.funs, ok.frf⟩
section
variable {X : Cx} {pins : List (Addr × Obj)} {σ : St} {H : Hp} {s : Shared} {E : Value → Shared → Prop}
theorem Inv.wish (I : Inv X pins σ H s) (E : Value → Shared → Prop) : Inv (X.wish E) pins σ H s := ⟨I.ok.wish E, I.os, I.bare, I.base, I.loc, I.cell, I.free, I.freeC, I.pin, I.hok, I.len⟩
theorem Inv.unwish (I : Inv (X.wish E) pins σ H s) : Inv X pins σ H s := ⟨I.ok.unwish, I.os, I.bare, I.base, I.loc, I.cell, I.free, I.freeC, I.pin, I.hok, I.len⟩
theorem SP.unwish {D : Ends} {f : Flow} {s' : Shared} (h : SP (X.wish E) pins D f s') : SP X pins D f s' := by
  cases f with
  | next => obtain ⟨σ', H', I, q⟩ := h; exact ⟨σ', H', I.unwish, q⟩
  | brk => obtain ⟨σ', H', I, q⟩ := h; exact ⟨σ', H', I.unwish, q⟩
  | cont => obtain ⟨σ', H', I, q⟩ := h; exact ⟨σ', H', I.unwish, q⟩
  | ret u => obtain ⟨v, σ', H', I, r, q⟩ := h; exact ⟨v, σ', H', I.unwish, r, q⟩
theorem PE.nox {e : Expr} {t : TE} (h : PE X.nox e t) : PE X e t := fun pins s σ H Q I hw =>
  wpAny_mono (h pins s σ H Q (I.wish _) hw) (fun _ _ ⟨v, H', I', r, q⟩ => ⟨v, H', I'.unwish, r, q⟩) fun _ _ z => False.elim z
theorem PT.nox {e : Expr} {t : TT} (h : PT X.nox e t) : PT X e t := fun pins s σ H Q I hw =>
  wpAny_mono (h pins s σ H Q (I.wish _) hw) (fun _ _ ⟨H', I', q⟩ => ⟨H', I'.unwish, q⟩) fun _ _ z => False.elim z
theorem PSs.nox {st : List Stmt} {t : TS} (h : PSs X.nox st t) : PSs X st t := fun pins s σ H D I hw =>
  wpAny_mono (h pins s σ H D (I.wish _) hw) (fun _ _ q => q.unwish) fun _ _ z => False.elim z
end
section
variable {X : Cx} {st : Stmt} {rest : List Stmt} {t u : TS} {e : Expr} {te : TE} {pos : Pos}
def tNext : TS := fun D σ H => D.nx σ H
def tSeq (t u : TS) : TS := fun D σ H => t { D with nx := u D } σ H
theorem pss_nil : PSs X [] tNext := fun _ _ σ H _ I h => wpAny_execs_nil ⟨σ, H, I, h⟩
theorem pss_cons (h1 : PS X st t) (h2 : PSs X rest u) : PSs X (st :: rest) (tSeq t u) := by
  intro pins s σ H D I h
  refine wpAny_execs_cons (thn (h1 pins s σ H { D with nx := u D } I h) fun f s1 q => ?_)
  cases f with
  | next =>
    obtain ⟨σ', H', I', q⟩ := q
    exact h2 pins s1 σ' H' D I' q
  | ret v => exact q
  | brk => exact q
  | cont => exact q
theorem pss_one (h1 : PS X st t) : PSs X [st] t := by
  intro pins s σ H D I h
  refine wpAny_execs_cons (thn (h1 pins s σ H D I h) fun f s1 q => ?_)
  cases f with
  | next => exact wpAny_execs_nil q
  | ret v => exact q
  | brk => exact q
  | cont => exact q
theorem Inv.quiet {pins : List (Addr × Obj)} {σ : St} {H : Hp} {s : Shared} (I : Inv X pins σ H s) : interactive X.env = false := by simp [interactive, I.ok.kind]
def tDrop (te : TE) : TS := fun D σ H => te σ H fun _ H1 => D.nx σ H1
theorem ps_expr (he : PE X e te) (hs : swapsWith e none pos.line X.env = pure false := by rfl) : PS X (.Expr e pos) (tDrop te) := by
  intro pins s σ H D I h
  exact wpAny_Expr_any (thn (he pins s σ H _ I h) fun v s1 ⟨x, H1, I1, r1, q1⟩ => ⟨σ, H1, I1, q1⟩) I.quiet hs
def tRet (te : TE) : TS := fun D σ H => te σ H D.rt
theorem ps_ret (he : PE X e te) : PS X (.Return (some e) pos) (tRet te) := by
  intro pins s σ H D I h
  exact wpAny_Return_some (thn (he pins s σ H _ I h) fun v s1 ⟨x, H1, I1, r1, q1⟩ => ⟨x, σ, H1, I1, r1, q1⟩)
def tIfS (c : TT) (t u : TS) : TS := fun D σ H => c σ H fun b H1 => if b = true then t D σ H1 else u D σ H1
theorem ps_if {c : Expr} {a b : List Stmt} {tc : TT} (hc : PT X c tc) (ha : PSs X a t) (hb : PSs X b u) : PS X (.If c a b pos) (tIfS tc t u) := by
  intro pins s σ H D I h
  refine wpAny_If (thn (hc pins s σ H _ I h) fun d s1 ⟨H1, I1, q1⟩ => ?_)
  cases d with
  | true => exact ha pins s1 σ H1 D I1 q1
  | false => exact hb pins s1 σ H1 D I1 q1
def tNever : TS := fun _ _ _ => False
theorem ps_never : PS X st tNever := fun _ _ _ _ _ _ h => h.elim
end
abbrev TG := V → St → Hp → (St → Hp → Prop) → Prop
abbrev TGs := List V → St → Hp → (St → Hp → Prop) → Prop
def PG (X : Cx) (target : Expr) (t : TG) : Prop :=
  ∀ (pins : List (Addr × Obj)) (s : Shared) (σ : St) (H : Hp) (v : V) (u : Value) (Q : St → Hp → Prop), Inv X pins σ H s → RelV v u → t v σ H Q →
    wpAny (model X.prog X.w) X.A (assign target X.env u) (fun _ s' => ∃ σ' H', Inv X pins σ' H' s' ∧ Q σ' H') X.xe s
def PGs (X : Cx) (ts : List Expr) (t : TGs) : Prop :=
  ∀ (pins : List (Addr × Obj)) (s : Shared) (σ : St) (H : Hp) (vs : List V) (us : List Value) (Q : St → Hp → Prop), Inv X pins σ H s → Vals vs us → t vs σ H Q →
    wpAny (model X.prog X.w) X.A (assignInOrder ((assignEach ts X.env).map (·.2)) us) (fun _ s' => ∃ σ' H', Inv X pins σ' H' s' ∧ Q σ' H') X.xe s
abbrev TSet := V → V → V → Hp → (Hp → Prop) → Prop
def PSet (X : Cx) (t : TSet) : Prop :=
  ∀ (pins : List (Addr × Obj)) (s : Shared) (σ : St) (H : Hp) (o i v : V) (ov iv u : Value) (Q : Hp → Prop), Inv X pins σ H s → RelV o ov → RelV i iv → RelV v u → t o i v H Q →
    wpAny (model X.prog X.w) X.A (setItem ov iv u) (fun _ s' => ∃ H', Inv X pins σ H' s' ∧ Q H') X.xe s
section
variable {X : Cx} {pos : Pos}
def gName (i : Nat) : TG := fun v σ H Q => Q (σ.set i (some v)) H
theorem pg_name {i : Nat} {x : Str} (hN : X.N.Nodup) (hi : X.N[i]? = some x) (hx : Loc X.env.scope x) (hf : X.fn x = true ∨ X.env.scope.names.lookup x = some .local := by first | exact .inl rfl | exact .inr rfl | assumption) : PG X (.Name x pos) (gName i) := by
  intro pins s σ H v u Q I r h
  exact wpAny_assign_Name (store_ok I hN hi hx r (fun s' I' => ⟨_, H, I', h⟩) hf)
def gNil : TGs := fun vs σ H Q => vs = [] ∧ Q σ H
def gCons (t : TG) (u : TGs) : TGs := fun vs σ H Q => ∃ v r, vs = v :: r ∧ t v σ H fun σ' H' => u r σ' H' Q
theorem pgs_nil : PGs X [] gNil := by
  intro pins s σ H vs us Q I r h
  obtain ⟨e, h⟩ := h
  subst e
  cases r
  exact assignInOrder_nil ⟨σ, H, I, h⟩
theorem pgs_cons {e : Expr} {es : List Expr} {t : TG} {u : TGs} (h1 : PG X e t) (h2 : PGs X es u)
    (hs : (assignEach (e :: es) X.env).map (·.2) = assign e X.env :: (assignEach es X.env).map (·.2) := by rfl) : PGs X (e :: es) (gCons t u) := by
  intro pins s σ H vs us Q I r h
  obtain ⟨v, vr, e1, h⟩ := h
  subst e1
  cases r with
  | cons r rr =>
    rw [hs]
    refine assignInOrder_cons (thn (h1 pins s σ H _ _ _ I r h) fun _ s1 ⟨σ1, H1, I1, q1⟩ => ?_)
    exact h2 pins s1 σ1 H1 _ _ Q I1 rr q1
def gTup (K : PySem.W.Frag) (n : Nat) (t : TGs) : TG := fun v σ H Q => ∃ a xs, v = .ref a ∧ SqT K H a xs ∧ xs.length = n ∧ t xs σ H Q
theorem pg_tup {es : List Expr} {k : Nat} {t : TGs} {n : Nat} (hc : X.calm = true) (h : PGs X es t)
    (hn : (assignEach es X.env).length = n := by rfl) (hst : (assignEach es X.env).findIdx? (·.1) = none := by rfl) : PG X (.Tuple es k pos) (gTup X.K n t) := by
  intro pins s σ H v u Q I r hw
  obtain ⟨a, xs, e1, hq, hl, hw⟩ := hw
  subst e1
  cases r
  obtain ⟨its, rv, ht, hz⟩ := I.tuple hq
  refine assign_Tuple_tuple (I.ok.hd hc) ht (by simp [hn, ← hl, rv.length]) hst fun h' hx => ?_
  have I1 : Inv X pins σ H { s with heap := h' } := I.kept (t' := s.toks) fun b o e => hx b o (Nat.ne_of_lt (Heap.lt_size e)) e
  exact h pins _ σ H xs _ Q I1 (by simpa using rv) hw
def gSub (to ti : TE) (t : TSet) : TG := fun v σ H Q => to σ H fun o H1 => ti σ H1 fun i H2 => t o i v H2 fun H3 => Q σ H3
theorem pg_sub {o i : Expr} {to ti : TE} {t : TSet} (ho : PE X o to) (hi : PE X i ti) (hs : PSet X t)
    (ha : ∀ v, assign (.Subscript o i pos) X.env v = (do
      let ov ← holding [v] (eval o X.env)
      let iv ← holding [v, ov] (eval i X.env)
      standAt pos
      holding [v, ov, iv] (setItem ov iv v)
      release [v, ov, iv] []) := by intro _; rfl) : PG X (.Subscript o i pos) (gSub to ti t) := by
  intro pins s σ H v u Q I r h
  rw [ha]
  refine wpAny_bind (wpAny_holding (thn (ho pins s σ H _ I h) fun ov s1 ⟨x, H1, I1, r1, q1⟩ => ?_))
  refine wpAny_bind (wpAny_holding (thn (hi pins s1 σ H1 _ I1 q1) fun iv s2 ⟨y, H2, I2, r2, q2⟩ => ?_))
  refine wpAny_bind (wpAny_standAt (wpAny_bind (wpAny_holding (thn (hs pins s2 σ H2 x y v ov iv u _ I2 r1 r2 r q2) fun _ s3 ⟨H3, I3, q3⟩ => ?_))))
  exact wpAny_release ⟨σ, H3, I3, q3⟩
def tAsg (te : TE) (g : TG) : TS := fun D σ H => te σ H fun x H1 => g x σ H1 D.nx
theorem ps_asg {tg e : Expr} {te : TE} {g : TG} (he : PE X e te) (hg : PG X tg g) (hs : swapsWithSole [tg] e pos.line X.env = pure false := by rfl) (hw : swappedStores [tg] e X.env = pure none := by rfl)
    (h1 : (assignEach [tg] X.env).map (·.2) = [assign tg X.env] := by rfl) : PS X (.Assign [tg] e pos) (tAsg te g) := by
  intro pins s σ H D I h
  refine wpAny_Assign_stores (thn (he pins s σ H _ I h) fun v s1 ⟨x, H1, I1, r1, q1⟩ => ?_) hs hw
  rw [h1]
  exact thn (hg pins s1 σ H1 x v _ I1 r1 q1) fun _ s2 q => q
theorem ps_set {i : Nat} {x : Str} {e : Expr} {te : TE} {pos' : Pos} (hN : X.N.Nodup) (hi : X.N[i]? = some x) (hx : Loc X.env.scope x) (he : PE X e te) (hs : swapsWith e (some (.Name x pos')) pos.line X.env = pure false := by rfl) (hf : X.fn x = true ∨ X.env.scope.names.lookup x = some .local := by first | exact .inl rfl | exact .inr rfl | assumption) :
    PS X (.Assign [.Name x pos'] e pos) (tAsg te (gName i)) := by
  intro pins s σ H D I h
  refine wpAny_Assign_Name (thn (he pins s σ H _ I h) fun v s1 ⟨y, H1, I1, r1, q1⟩ => ?_) hs
  exact store_ok I1 hN hi hx r1 (fun s2 I2 => ⟨_, H1, I2, q1⟩) hf
end
section
variable {X : Cx} {pos : Pos}
def tWhile (c : TT) (tb : TS) : TS := fun D σ H => ∃ W : Nat → St → Hp → Prop, (∃ m, W m σ H) ∧ ∀ m σ H, W m σ H →
  c σ H fun b H1 => if b = true then ∃ N : St → Hp → Prop, (∀ σ' H', N σ' H' → ∃ m', m' < m ∧ W m' σ' H') ∧ tb { D with nx := N, ct := N, bk := D.nx } σ H1 else D.nx σ H1
theorem ps_while {c : Expr} {body : List Stmt} {tc : TT} {tb : TS} (hp : PassesOwn (model X.prog X.w) X.A X.env X.xe) (hc : PT X c tc) (hb : PSs X body tb) : PS X (.While c body [] pos) (tWhile tc tb) := by
  intro pins s σ H D I h
  obtain ⟨W, ⟨m0, w0⟩, turn⟩ := h
  refine wpAny_While (codeAny_whileLoop (fun n s' => ∃ σ' H', Inv X pins σ' H' s' ∧ W n σ' H') ?_ m0 ⟨σ, H, I, w0⟩)
  rintro n s1 ⟨σ1, H1, I1, w1⟩
  refine wpAny_passesOwn hp (thn (hc pins s1 σ1 H1 _ I1 (turn n σ1 H1 w1)) fun b s2 ⟨H2, I2, q2⟩ => ?_)
  cases b with
  | true =>
    obtain ⟨N, hN, q2⟩ := q2
    rw [if_pos rfl]
    refine wpAny_passesOwn hp (thn (hb pins s2 σ1 H2 _ I2 q2) fun f s3 q3 => ?_)
    cases f with
    | next =>
      obtain ⟨σ3, H3, I3, n3⟩ := q3
      obtain ⟨m', hm, w3⟩ := hN σ3 H3 n3
      exact ⟨m', hm, σ3, H3, I3, w3⟩
    | cont =>
      obtain ⟨σ3, H3, I3, n3⟩ := q3
      obtain ⟨m', hm, w3⟩ := hN σ3 H3 n3
      exact ⟨m', hm, σ3, H3, I3, w3⟩
    | brk => exact q3
    | ret v => exact q3
  | false =>
    rw [if_neg Bool.false_ne_true]
    exact wpAny_execs_nil ⟨σ1, H2, I2, q2⟩
end
structure It where
  go : Nat → Hp → Prop
  yld : Nat → Hp → V → Hp → Prop
  stop : Nat → Hp → Prop
def FpOk (X : Cx) (pins : List (Addr × Obj)) (H : Hp) (b : Addr) : Prop :=
  H b = none ∧ b ≠ X.env.locals ∧ b ∉ X.fs ∧ (b ∈ X.ex ∨ X.s₀.heap.objs.size ≤ b) ∧ (∀ x c, X.env.cells.lookup x = some c → c ≠ b) ∧ ∀ p ∈ X.pn ++ pins, p.1 ≠ b
theorem Inv.fpOk {X : Cx} {pins : List (Addr × Obj)} {σ : St} {H H' : Hp} {s : Shared} {b : Addr} (I : Inv X pins σ H s) (hb : s.heap.objs.size ≤ b) (hn : H' b = none) : FpOk X pins H' b := by
  refine ⟨hn, Nat.ne_of_gt (Nat.lt_of_lt_of_le I.lt hb), I.nofs hb, .inr (Nat.le_trans I.sz hb), fun x c e z => ?_, fun p hp z => ?_⟩
  · obtain ⟨v, q⟩ := I.cell x c e
    exact absurd (Nat.lt_of_lt_of_le q.lt (by rw [z]; exact hb)) (Nat.lt_irrefl _)
  · exact absurd (Nat.lt_of_lt_of_le (Heap.lt_size (I.pin p hp).1) (by rw [z]; exact hb)) (Nat.lt_irrefl _)
structure Turn (P : Program) (w : World) (K : PySem.W.Frag) (tg : Expr) (J : It) (fp : List Addr) (it : Addr) (tn : Nat → Heap → Prop) : Prop where
  mem : it ∈ fp
  obj : ∀ i h, tn i h → ∀ b ∈ fp, ∃ o, h.get? b = some o ∧ ∀ v, o.data ≠ .cell v
  keep : ∀ i h h', tn i h → (∀ b ∈ fp, ∀ o, h.get? b = some o → h'.get? b = some o) → tn i h'
  item : ∀ (X : Cx), X.prog = P → X.w = w → X.K = K → X.calm = true → ∀ (i : Nat) (pins : List (Addr × Obj)) (s : Shared) (σ : St) (H : Hp) (E : Value → Shared → Prop), Inv X pins σ H s → (∀ b ∈ fp, FpOk X pins H b) → tn i s.heap → J.go i H →
    wpAny (model P w) X.A (pyNext (.ref it)) (fun r s1 => ∃ u, r = some u ∧
      wpAny (model P w) X.A (letOwnedTupleGo tg (.ref it) u) (fun _ s2 => ∃ x H', Inv X pins σ H' s2 ∧ RelV x u ∧ J.yld i H x H' ∧ tn (i + 1) s2.heap ∧ ∀ b ∈ fp, H' b = none) E s1) E s
  done : ∀ (X : Cx), X.prog = P → X.w = w → X.K = K → X.calm = true → ∀ (i : Nat) (pins : List (Addr × Obj)) (s : Shared) (σ : St) (H : Hp) (E : Value → Shared → Prop), Inv X pins σ H s → (∀ b ∈ fp, FpOk X pins H b) → tn i s.heap → J.stop i H →
    wpAny (model P w) X.A (pyNext (.ref it)) (fun r s1 => r = none ∧ Inv X pins σ H s1) E s
  self : ∀ (A : Around) (i : Nat) (s : Shared) (Q : Value → Shared → Prop) (E : Value → Shared → Prop), tn i s.heap → Q (.ref it) s → wpAny (model P w) A (pyIter (.ref it)) Q E s
abbrev TI := St → Hp → (It → Hp → Prop) → Prop
def PIE (X : Cx) (pins : List (Addr × Obj)) (σ : St) (tg : Expr) (R : It → Hp → Prop) (itv : Value) (s2 : Shared) : Prop :=
  ∃ (it : Addr) (fp : List Addr) (tn : Nat → Heap → Prop) (J : It) (H' : Hp), itv = .ref it ∧ Inv X pins σ H' s2 ∧ Turn X.prog X.w X.K tg J fp it tn ∧ tn 0 s2.heap ∧ (∀ b ∈ fp, FpOk X pins H' b) ∧ R J H'
def PI (X : Cx) (tg iter : Expr) (wi : TI) : Prop :=
  ∀ (pins : List (Addr × Obj)) (s : Shared) (σ : St) (H : Hp) (R : It → Hp → Prop), Inv X pins σ H s → wi σ H R →
    wpAny (model X.prog X.w) X.A (eval iter X.env) (fun v s1 => wpAny (model X.prog X.w) X.A (pyIter v) (PIE X pins σ tg R) X.xe s1) X.xe s
theorem go_of {M : Model} {A : Around} {E : Value → Shared → Prop} {s : Shared} {tg : Expr} {it : Addr} {u : Value} {o : Obj} {n : String} {vs : Array Value} {Q : Unit → Shared → Prop} (ho : s.heap.get? it = some o) (hc : o.cls = .type n) (hd : o.data = .fields vs)
    (hn : ["enumerate", "zip", "dict_itemiterator", "dict_reverseitemiterator", "odict_iterator", "itertools.zip_longest", "itertools.pairwise"].contains n = false) (hQ : Q () s) : wpAny M A (letOwnedTupleGo tg (.ref it) u) Q E s := by
  unfold letOwnedTupleGo
  cases tg <;> first
    | exact wpAny_pure hQ
    | (cases u <;> first
        | exact wpAny_pure hQ
        | (refine wpAny_bind (wpAny_load ho ?_)
           rw [hc, hd]
           show wpAny M A (if (["enumerate", "zip", "dict_itemiterator", "dict_reverseitemiterator", "odict_iterator", "itertools.zip_longest", "itertools.pairwise"].contains n && vs[0]? == some (rawInt _)) = true then _ else _) Q E s
           rw [if_neg (by intro h; rw [hn, Bool.false_and] at h; cases h)]
           exact wpAny_pure hQ))
def Itl (K : PySem.W.Frag) (a : Addr) : It :=
  ⟨fun i H => ∃ xs x, SqL K H a xs ∧ xs[i]? = some x, fun i H x H' => H' = H ∧ ∀ xs, SqL K H a xs → xs[i]? = some x, fun i H => ∃ xs, SqL K H a xs ∧ xs.length ≤ i⟩
def Itt (K : PySem.W.Frag) (a : Addr) : It :=
  ⟨fun i H => ∃ xs x, SqT K H a xs ∧ xs[i]? = some x, fun i H x H' => H' = H ∧ ∀ xs, SqT K H a xs → xs[i]? = some x, fun i H => ∃ xs, SqT K H a xs ∧ xs.length ≤ i⟩
def Itr (lo : Int) (n : Nat) : It := ⟨fun i _ => i < n, fun i H x H' => H' = H ∧ x = .int (lo + i), fun i _ => n ≤ i⟩
theorem turn_list {P : Program} {w : World} {K : PySem.W.Frag} {tg : Expr} (a it : Addr) : Turn P w K tg (Itl K a) [it] it (fun i h => h.IsListIter it a i) where
  mem := by simp
  obj := fun i h st b hb => by
    have e : b = it := by simpa using hb
    subst e
    obtain ⟨o, e, c, d⟩ := st
    exact ⟨o, e, fun v z => by rw [d] at z; cases z⟩
  keep := fun i h h' st k => st.at fun o e => k it (by simp) o e
  item := by
    intro X hP hw hK hc i pins s σ H E I hf st hg
    subst hP hw hK
    obtain ⟨xs, x, hq, hx⟩ := hg
    obtain ⟨its, rv, p, hz⟩ := I.list hq
    obtain ⟨u, hu, ru⟩ := rv.get hx
    obtain ⟨f0, f1, f2, f3, f4, f5⟩ := hf it (by simp)
    refine wpAny_pyNext_list_item st p.isList (x := u) (by simpa using hu) fun h' st' sb => ?_
    have I1 : Inv X pins σ H { s with heap := h' } := I.turned (t' := s.toks) (fun b o hb e => (sb.2 b hb).trans e) f0 f1 f3 f4 f5
    obtain ⟨o, e, c, d⟩ := id st'
    exact ⟨u, rfl, go_of (s := { s with heap := h' }) e c d (by decide) ⟨x, H, I1, ru, ⟨rfl, fun ys hy => by rw [I.list_inj hy hq]; exact hx⟩, st', fun b hb => (hf b hb).1⟩⟩
  done := by
    intro X hP hw hK hc i pins s σ H E I hf st hg
    subst hP hw hK
    obtain ⟨xs, hq, hx⟩ := hg
    obtain ⟨its, rv, p, hz⟩ := I.list hq
    obtain ⟨f0, f1, f2, f3, f4, f5⟩ := hf it (by simp)
    have hl := rv.length
    exact wpAny_pyNext_list_end (I.ok.hd hc) st p.isList (by simp; omega) fun h' eb => ⟨rfl, I.turned (t' := s.toks) (fun b o hb e => eb b o hb e) f0 f1 f3 f4 f5⟩
  self := fun _ _ _ _ _ st h => wpAny_pyIter_listiter st h
theorem turn_tuple {P : Program} {w : World} {K : PySem.W.Frag} {tg : Expr} (a it : Addr) : Turn P w K tg (Itt K a) [it] it (fun i h => h.IsTupleIter it a i) where
  mem := by simp
  obj := fun i h st b hb => by
    have e : b = it := by simpa using hb
    subst e
    obtain ⟨o, e, c, d⟩ := st
    exact ⟨o, e, fun v z => by rw [d] at z; cases z⟩
  keep := fun i h h' st k => st.at fun o e => k it (by simp) o e
  item := by
    intro X hP hw hK hc i pins s σ H E I hf st hg
    subst hP hw hK
    obtain ⟨xs, x, hq, hx⟩ := hg
    obtain ⟨its, rv, p, hz⟩ := I.tuple hq
    obtain ⟨u, hu, ru⟩ := rv.get hx
    obtain ⟨f0, f1, f2, f3, f4, f5⟩ := hf it (by simp)
    refine wpAny_pyNext_tuple_item st (show s.heap.IsTuple a its.toArray from p) (x := u) (by simpa using hu) fun h' st' sb => ?_
    have I1 : Inv X pins σ H { s with heap := h' } := I.turned (t' := s.toks) (fun b o hb e => (sb.2 b hb).trans e) f0 f1 f3 f4 f5
    obtain ⟨o, e, c, d⟩ := id st'
    exact ⟨u, rfl, go_of (s := { s with heap := h' }) e c d (by decide) ⟨x, H, I1, ru, ⟨rfl, fun ys hy => by rw [I.tuple_inj hy hq]; exact hx⟩, st', fun b hb => (hf b hb).1⟩⟩
  done := by
    intro X hP hw hK hc i pins s σ H E I hf st hg
    subst hP hw hK
    obtain ⟨xs, hq, hx⟩ := hg
    obtain ⟨its, rv, p, hz⟩ := I.tuple hq
    obtain ⟨f0, f1, f2, f3, f4, f5⟩ := hf it (by simp)
    have hl := rv.length
    exact wpAny_pyNext_tuple_end (I.ok.hd hc) st (show s.heap.IsTuple a its.toArray from p) (by simp; omega) fun h' eb => ⟨rfl, I.turned (t' := s.toks) (fun b o hb e => eb b o hb e) f0 f1 f3 f4 f5⟩
  self := fun _ _ _ _ _ st h => wpAny_pyIter_tupleiter st h
theorem turn_range {P : Program} {w : World} {K : PySem.W.Frag} {tg : Expr} (it : Addr) (lo : Int) (n : Nat) : Turn P w K tg (Itr lo n) [it] it (fun i h => IsRangeIter h it (lo + (i : Nat) * 1) ((n : Int) - (i : Nat)) 1) where
  mem := by simp
  obj := fun i h st b hb => by
    have e : b = it := by simpa using hb
    subst e
    exact ⟨_, st, fun v z => by
      have z' : Data.fields _ = Data.cell v := z
      cases z'⟩
  keep := fun i h h' st k => k it (by simp) _ st
  item := by
    intro X hP hw hK hc i pins s σ H E I hf st hg
    subst hP hw hK
    obtain ⟨f0, f1, f2, f3, f4, f5⟩ := hf it (by simp)
    have W := Walks.range (prog := X.prog) (w := X.w) (I.ok.hd hc) it lo 1 n
    refine W.item i s _ _ hg st fun v h' tk hv st' kk => ?_
    obtain ⟨t, rfl⟩ := hv
    have I1 : Inv X pins σ H { s with heap := h', toks := tk } := I.turned (fun b o hb e => kk b o (by simpa using hb) e) f0 f1 f3 f4 f5
    refine ⟨_, rfl, go_of (s := { s with heap := h', toks := tk }) (n := "range_iterator") st' rfl rfl (by decide) ⟨.int (lo + i), H, I1, ⟨t, ?_⟩, ⟨rfl, rfl⟩, st', fun b hb => (hf b hb).1⟩⟩
    rw [Int.mul_one]
  done := by
    intro X hP hw hK hc i pins s σ H E I hf st hg
    subst hP hw hK
    obtain ⟨f0, f1, f2, f3, f4, f5⟩ := hf it (by simp)
    exact wpAny_pyNext_range_end (I.ok.hd hc) st (by have : n ≤ i := hg; omega) fun h' eb => ⟨rfl, I.turned (t' := s.toks) (fun b o hb e => eb b o hb e) f0 f1 f3 f4 f5⟩
  self := fun _ _ _ _ _ st h => wpAny_pyIter_rangeiter st h
end L2
namespace L2
open PySem PySem.Spec PyProof.Rows
section
variable {X : Cx} {tg : Expr}
def iList (K : PySem.W.Frag) (tl : TE) : TI := fun σ H R => tl σ H fun x H1 => ∃ a, x = .ref a ∧ (∃ xs, SqL K H1 a xs) ∧ R (Itl K a) H1
def iTup (K : PySem.W.Frag) (tl : TE) : TI := fun σ H R => tl σ H fun x H1 => ∃ a, x = .ref a ∧ (∃ xs, SqT K H1 a xs) ∧ R (Itt K a) H1
theorem pi_list {l : Expr} {tl : TE} (hl : PE X l tl) : PI X tg l (iList X.K tl) := by
  intro pins s σ H R I h
  refine thn (hl pins s σ H _ I h) fun v s1 ⟨x, H1, I1, r1, q1⟩ => ?_
  obtain ⟨a, e, ⟨xs, hq⟩, q⟩ := q1
  subst e
  cases r1
  obtain ⟨its, rv, p, hz⟩ := I1.list hq
  refine wpAny_pyIter_list p.isList ?_
  refine ⟨s1.heap.objs.size, [s1.heap.objs.size], _, _, H1, rfl, I1.kept (t' := s1.toks) fun b o e => Heap.get?_push_of_some _ e, turn_list a _, ⟨_, Heap.get?_push_size _ rfl, rfl, rfl⟩, fun b hb => ?_, q⟩
  have e : b = s1.heap.objs.size := by simpa using hb
  subst e
  exact I1.fpOk (Nat.le_refl _) (I1.hok.fresh (Nat.le_refl _))
theorem pi_tup {l : Expr} {tl : TE} (hl : PE X l tl) : PI X tg l (iTup X.K tl) := by
  intro pins s σ H R I h
  refine thn (hl pins s σ H _ I h) fun v s1 ⟨x, H1, I1, r1, q1⟩ => ?_
  obtain ⟨a, e, ⟨xs, hq⟩, q⟩ := q1
  subst e
  cases r1
  obtain ⟨its, rv, p, hz⟩ := I1.tuple hq
  refine wpAny_pyIter_tuple (show s1.heap.IsTuple a its.toArray from p) ?_
  refine ⟨s1.heap.objs.size, [s1.heap.objs.size], _, _, H1, rfl, I1.kept (t' := s1.toks) fun b o e => Heap.get?_push_of_some _ e, turn_tuple a _, ⟨_, Heap.get?_push_size _ rfl, rfl, rfl⟩, fun b hb => ?_, q⟩
  have e : b = s1.heap.objs.size := by simpa using hb
  subst e
  exact I1.fpOk (Nat.le_refl _) (I1.hok.fresh (Nat.le_refl _))
theorem range_it {pins : List (Addr × Obj)} {σ : St} {H : Hp} {s : Shared} {R : It → Hp → Prop} {E : Value → Shared → Prop} {lo hi : Int} {t u v : Tok} {tk : Nat} (I : Inv X pins σ H s) (h1 : -(2 ^ 62) ≤ lo) (h2 : lo < 2 ^ 62) (h3 : -(2 ^ 62) ≤ hi) (h4 : hi < 2 ^ 62)
    (q : R (Itr lo (hi - lo).toNat) H) : wpAny (model X.prog X.w) X.A (pyIter (.ref s.heap.objs.size)) (PIE X pins σ tg R) E { s with heap := s.heap.push { cls := .type "range", data := .fields #[.int lo t, .int hi u, .int 1 v] }, toks := tk } := by
  refine wpAny_pyIter_range (IsRange.new ..) (small_one h1 h2 h3 h4) ?_
  have I1 : Inv X pins σ H { s with heap := s.heap.push { cls := .type "range", data := .fields #[.int lo t, .int hi u, .int 1 v] }, toks := tk } := I.kept fun b o e => Heap.get?_push_of_some _ e
  refine ⟨(s.heap.push { cls := .type "range", data := .fields #[.int lo t, .int hi u, .int 1 v] }).objs.size, [(s.heap.push { cls := .type "range", data := .fields #[.int lo t, .int hi u, .int 1 v] }).objs.size], _, _, H, rfl,
    I1.kept (t' := tk) fun b o e => Heap.get?_push_of_some _ e, turn_range _ lo (hi - lo).toNat, ?_, fun b hb => ?_, q⟩
  · have e1 : lo + ((0 : Nat) : Int) * 1 = lo := by simp
    have e2 : (((hi - lo).toNat : Nat) : Int) - ((0 : Nat) : Int) = Builtin.Range.rangeSize lo hi 1 := by rw [rangeSize_one]; split <;> omega
    show IsRangeIter _ _ (lo + ((0 : Nat) : Int) * 1) ((((hi - lo).toNat : Nat) : Int) - ((0 : Nat) : Int)) 1
    rw [e1, e2]
    exact Heap.get?_push_size _ rfl
  · have e : b = (s.heap.push { cls := .type "range", data := .fields #[.int lo t, .int hi u, .int 1 v] }).objs.size := by simpa using hb
    subst e
    exact I1.fpOk (Nat.le_refl _) (I1.hok.fresh (Nat.le_refl _))
def iRng1 (ta : TA) : TI := fun σ H R => ta σ H fun vs H1 => ∃ j : Int, vs = [.int j] ∧ -(2 ^ 62) ≤ j ∧ j < 2 ^ 62 ∧ R (Itr 0 j.toNat) H1
def iRng2 (ta : TA) : TI := fun σ H R => ta σ H fun vs H1 => ∃ i j : Int, vs = [.int i, .int j] ∧ (-(2 ^ 62) ≤ i ∧ i < 2 ^ 62 ∧ -(2 ^ 62) ≤ j ∧ j < 2 ^ 62) ∧ R (Itr i (j - i).toNat) H1
theorem pi_range1 {a : Expr} {ta : TA} {p pos : Pos} (hg : Gl X "range") (hm : X.mg "range" = none) (ha : PA X [a] ta) (hs : starEach [a] X.env = [(false, eval a X.env)] := by rfl) : PI X tg (.Call (.Name "range" p) [a] [] pos) (iRng1 ta) := by
  intro pins s σ H R I h
  refine Call_ (ld_blt I hg hm boot_range (PyProof.Rows.callWith_type1 (thn (ha pos pins s σ H _ I h) fun us s1 ⟨vs, H1, I1, r1, q1⟩ => ?_) hs rfl))
  obtain ⟨j, e, q1, q2, q⟩ := q1
  subst e
  cases r1 with
  | cons r rr =>
    cases rr
    obtain ⟨t, rfl⟩ := r
    exact call_range_1 (range_it I1 (by omega) (by omega) q1 q2 (by simpa using q))
theorem pi_range2 {a b : Expr} {ta : TA} {p pos : Pos} (hg : Gl X "range") (hm : X.mg "range" = none) (ha : PA X [a, b] ta) (hs : starEach [a, b] X.env = [(false, eval a X.env), (false, eval b X.env)] := by rfl) (hs2 : starEach [b] X.env = [(false, eval b X.env)] := by rfl) :
    PI X tg (.Call (.Name "range" p) [a, b] [] pos) (iRng2 ta) := by
  intro pins s σ H R I h
  refine Call_ (ld_blt I hg hm boot_range (PyProof.Rows.callWith_type1 (thn (ha pos pins s σ H _ I h) fun us s1 ⟨vs, H1, I1, r1, q1⟩ => ?_) (by rw [hs, hs2]) (by rw [hs2]; rfl)))
  obtain ⟨i, j, e, ⟨q1, q2, q3, q4⟩, q⟩ := q1
  subst e
  cases r1 with
  | cons r rr =>
    cases rr with
    | cons r' rr =>
      cases rr
      obtain ⟨t, rfl⟩ := r
      obtain ⟨t', rfl⟩ := r'
      exact call_range_2 (range_it I1 q1 q2 q3 q4 q)
def tFor (wi : TI) (g : TG) (tb : TS) : TS := fun D σ H => wi σ H fun J H1 => ∃ W : Nat → Nat → St → Hp → Prop, (∃ m, W 0 m σ H1) ∧ ∀ i m σ H, W i m σ H →
  (J.stop i H ∧ D.nx σ H) ∨ (J.go i H ∧ ∃ N : St → Hp → Prop, (∀ σ' H', N σ' H' → ∃ m', m' < m ∧ W (i + 1) m' σ' H') ∧ ∀ x H', J.yld i H x H' → g x σ H' fun σ2 H2 => tb { D with nx := N, ct := N, bk := D.nx } σ2 H2)
def pinsAt (fp : List Addr) (h : Heap) : List (Addr × Obj) := fp.filterMap fun b => (h.get? b).map fun o => (b, o)
theorem mem_pinsAt {fp : List Addr} {h : Heap} {b : Addr} {o : Obj} (hb : b ∈ fp) (e : h.get? b = some o) : (b, o) ∈ pinsAt fp h := List.mem_filterMap.mpr ⟨b, hb, by rw [e]; rfl⟩
theorem of_pinsAt {fp : List Addr} {h : Heap} {p : Addr × Obj} (hp : p ∈ pinsAt fp h) : p.1 ∈ fp ∧ h.get? p.1 = some p.2 := by
  obtain ⟨b, hb, e⟩ := List.mem_filterMap.mp hp
  cases q : h.get? b with
  | none => rw [q] at e; cases e
  | some o =>
    rw [q] at e
    have e' : (b, o) = p := Option.some.inj e
    subst e'
    exact ⟨hb, q⟩
theorem Inv.pinned {pins : List (Addr × Obj)} {σ : St} {H : Hp} {s : Shared} {fp : List Addr} (I : Inv X pins σ H s) (hf : ∀ b ∈ fp, FpOk X pins H b) (ho : ∀ b ∈ fp, ∃ o, s.heap.get? b = some o ∧ ∀ v, o.data ≠ .cell v) : Inv X (pins ++ pinsAt fp s.heap) σ H s :=
  I.pins_of fun p hp => (List.mem_append.mp hp).elim (fun z => I.pin p (List.mem_append_right _ z)) fun z => by
    obtain ⟨hb, e⟩ := of_pinsAt z
    obtain ⟨f0, f1, f2, _⟩ := hf p.1 hb
    obtain ⟨o, e', d⟩ := ho p.1 hb
    rw [e] at e'; cases e'
    exact ⟨e, f0, f1, f2, d⟩
theorem Inv.unpinned {pins pl : List (Addr × Obj)} {σ : St} {H : Hp} {s : Shared} (I : Inv X (pins ++ pl) σ H s) : Inv X pins σ H s := I.pins_of fun p hp => I.pin p (List.mem_append_right _ (List.mem_append_left _ hp))
theorem ps_for {iter : Expr} {body : List Stmt} {wi : TI} {g : TG} {tb : TS} {pos : Pos} (hp : PassesOwn (model X.prog X.w) X.A X.env X.xe) (hc : X.calm = true) (hi : PI X tg iter wi) (hg : PG X tg g) (hb : PSs X body tb)
    (hs : ∀ x, foldedSetIterable iter X.env x = pure x := by intro _; rfl) : PS X (.For tg iter body [] pos) (tFor wi g tb) := by
  intro pins s σ H D I h
  refine wpAny_For (thn (hi pins s σ H _ I h) fun v s1 h1 => thn h1 fun itv s2 h2 => ?_) hs
  obtain ⟨it, fp, tn, J, H2, e, I2, T, st2, f2, W, ⟨m0, w0⟩, turn⟩ := h2
  subst e
  have stat : ∀ {H' : Hp}, (∀ b ∈ fp, H' b = none) → ∀ b ∈ fp, FpOk X pins H' b := fun hn b hb => ⟨hn b hb, (f2 b hb).2⟩
  refine codeAny_forLoop_any (fun n s' => ∃ i σ' H', Inv X pins σ' H' s' ∧ tn i s'.heap ∧ (∀ b ∈ fp, H' b = none) ∧ W i n σ' H') ?_ m0 ⟨0, σ, H2, I2, st2, fun b hb => (f2 b hb).1, w0⟩
  rintro n s3 ⟨i, σ3, H3, I3, st3, fr3, w3⟩
  rcases turn i n σ3 H3 w3 with ⟨stop, qn⟩ | ⟨go, N, hN, step⟩
  · refine wpAny_passesOwn hp (thn (T.done X rfl rfl rfl hc i pins s3 σ3 H3 X.xe I3 (stat fr3) st3 stop) fun r s4 ⟨hr, I4⟩ => ?_)
    subst hr
    exact wpAny_execs_nil ⟨σ3, H3, I4, qn⟩
  · refine wpAny_passesOwn hp (thn (T.item X rfl rfl rfl hc i pins s3 σ3 H3 X.xe I3 (stat fr3) st3 go) fun r s4 ⟨u, hr, h4⟩ => ?_)
    subst hr
    refine wpAny_passesOwn hp (thn h4 fun _ s5 ⟨x, H5, I5, r5, y5, st5, fr5⟩ => ?_)
    have I5' := I5.pinned (stat fr5) (T.obj _ _ st5)
    refine wpAny_passesOwn hp (thn (hg _ s5 σ3 H5 x u _ I5' r5 (step x H5 y5)) fun _ s6 ⟨σ6, H6, I6, q6⟩ => ?_)
    refine wpAny_passesOwn hp (thn (hb _ s6 σ6 H6 _ I6 q6) fun f s7 q7 => ?_)
    have again : ∀ {σ7 : St} {H7 : Hp}, Inv X (pins ++ pinsAt fp s5.heap) σ7 H7 s7 → N σ7 H7 → ∃ m, m < n ∧ ∃ i σ' H', Inv X pins σ' H' s7 ∧ tn i s7.heap ∧ (∀ b ∈ fp, H' b = none) ∧ W i m σ' H' := fun {σ7 H7} I7 n7 => by
      obtain ⟨m', hm, w7⟩ := hN σ7 H7 n7
      refine ⟨m', hm, i + 1, σ7, H7, I7.unpinned, T.keep _ _ _ st5 fun b hb o e => (I7.pin (b, o) (List.mem_append_right _ (List.mem_append_right _ (mem_pinsAt hb e)))).1, fun b hb => ?_, w7⟩
      obtain ⟨o, e, d⟩ := T.obj _ _ st5 b hb
      exact (I7.pin (b, o) (List.mem_append_right _ (List.mem_append_right _ (mem_pinsAt hb e)))).2.1
    cases f with
    | next => obtain ⟨σ7, H7, I7, n7⟩ := q7; exact again I7 n7
    | cont => obtain ⟨σ7, H7, I7, n7⟩ := q7; exact again I7 n7
    | brk => obtain ⟨σ7, H7, I7, q7⟩ := q7; exact ⟨σ7, H7, I7.unpinned, q7⟩
    | ret v => obtain ⟨x7, σ7, H7, I7, r7, q7⟩ := q7; exact ⟨x7, σ7, H7, I7.unpinned, r7, q7⟩
end
end L2
namespace L2
open PySem PySem.Spec PyProof.Rows
abbrev R2 := V → V → Hp → VK → Prop
def OpR (X : Cx) (f : Value → Value → Sem Value) (r : R2) : Prop :=
  ∀ (pins : List (Addr × Obj)) (s : Shared) (σ : St) (H : Hp) (x y : V) (v u : Value) (Q : VK), Inv X pins σ H s → RelV x v → RelV y u → r x y H Q →
    wpAny (model X.prog X.w) X.A (f v u) (EP X pins σ Q) X.xe s
def UnR (X : Cx) (f : Value → Sem Value) (r : V → Hp → VK → Prop) : Prop :=
  ∀ (pins : List (Addr × Obj)) (s : Shared) (σ : St) (H : Hp) (x : V) (v : Value) (Q : VK), Inv X pins σ H s → RelV x v → r x H Q →
    wpAny (model X.prog X.w) X.A (f v) (EP X pins σ Q) X.xe s
def CallR (X : Cx) (f : Value) (r : List V → Hp → VK → Prop) : Prop :=
  ∀ (pins : List (Addr × Obj)) (s : Shared) (σ : St) (H : Hp) (xs : List V) (us : List Value) (Q : VK), Inv X pins σ H s → Vals xs us → r xs H Q →
    wpAny (model X.prog X.w) X.A (call f us) (EP X pins σ Q) X.xe s
def TruR (X : Cx) (r : V → Hp → (Bool → Hp → Prop) → Prop) : Prop :=
  ∀ (pins : List (Addr × Obj)) (s : Shared) (σ : St) (H : Hp) (x : V) (v : Value) (Q : Bool → Hp → Prop), Inv X pins σ H s → RelV x v → r x H Q →
    wpAny (model X.prog X.w) X.A (truthy v) (TP X pins σ Q) X.xe s
def tOp (r : R2) (ta tb : TE) : TE := fun σ H Q => ta σ H fun x H1 => tb σ H1 fun y H2 => r x y H2 Q
def tUn (r : V → Hp → VK → Prop) (ta : TE) : TE := fun σ H Q => ta σ H fun x H1 => r x H1 Q
def rI (C : Int → Int → Prop) (g : Int → Int → V) : R2 := fun x y H Q => ∃ i j, x = .int i ∧ y = .int j ∧ C i j ∧ Q (g i j) H
def rI0 (g : Int → Int → V) : R2 := fun x y H Q => ∃ i j, x = .int i ∧ y = .int j ∧ Q (g i j) H
def rU (g : Int → V) : V → Hp → VK → Prop := fun x H Q => ∃ i, x = .int i ∧ Q (g i) H
section
variable {X : Cx} {a b c : Expr} {ta tb tc : TE} {pos : Pos}
theorem binT (ha : PE X a ta) (hb : PE X b tb) {pins : List (Addr × Obj)} {s : Shared} {σ : St} {H : Hp} {R : V → V → Hp → Prop} (I : Inv X pins σ H s)
    (h : ta σ H fun x H1 => tb σ H1 fun y H2 => R x y H2) {Q : Value → Shared → Prop} {f : Value → Value → Sem Value}
    (hf : ∀ v u s2 x y H2, Inv X pins σ H2 s2 → RelV x v → RelV y u → R x y H2 → wpAny (model X.prog X.w) X.A (f v u) Q X.xe s2) :
    wpAny (model X.prog X.w) X.A (eval a X.env) (fun v s₁ => wpAny (model X.prog X.w) X.A (eval b X.env) (fun u s₂ => wpAny (model X.prog X.w) X.A (f v u) Q X.xe s₂) X.xe s₁) X.xe s := by
  refine thn (ha pins s σ H _ I h) fun v s1 ⟨x, H1, I1, r1, q1⟩ => ?_
  refine thn (hb pins s1 σ H1 _ I1 q1) fun u s2 ⟨y, H2, I2, r2, q2⟩ => ?_
  exact hf v u s2 x y H2 I2 r1 r2 q2
theorem pe_op {op : Operator} {r : R2} (ho : OpR X (binaryOp op) r) (ha : PE X a ta) (hb : PE X b tb) : PE X (.BinOp a op b pos) (tOp r ta tb) := by
  intro pins s σ H Q I h
  exact wpAny_BinOp (binT ha hb I h fun v u s2 x y H2 I2 rx ry q => ho pins s2 σ H2 x y v u Q I2 rx ry q)
theorem pe_un {op : UnaryOp} {r : V → Hp → VK → Prop} (ho : UnR X (unaryOp op) r) (ha : PE X a ta) : PE X (.UnaryOp op a pos) (tUn r ta) := by
  intro pins s σ H Q I h
  exact UnaryOp_ (thn (ha pins s σ H _ I h) fun v s1 ⟨x, H1, I1, r1, q1⟩ => ho pins s1 σ H1 x v Q I1 r1 q1)
theorem opI {f : Value → Value → Sem Value} {C : Int → Int → Prop} {g : Int → Int → Int}
    (rule : ∀ (i j : Int) (t u : Tok) (s : Shared) (Q : Value → Shared → Prop) (E : Value → Shared → Prop), C i j → Q (.int (g i j) s.toks) { s with toks := s.toks + 1 } → wpAny (model X.prog X.w) X.A (f (.int i t) (.int j u)) Q E s) :
    OpR X f (rI C fun i j => .int (g i j)) := by
  intro pins s σ H x y v u Q I rx ry h
  obtain ⟨i, j, rfl, rfl, hc, q⟩ := h
  obtain ⟨t, rfl⟩ := rx
  obtain ⟨t', rfl⟩ := ry
  exact rule i j t t' s _ _ hc ⟨.int (g i j), H, I.tok _, ⟨_, rfl⟩, q⟩
theorem opI0 {f : Value → Value → Sem Value} {g : Int → Int → Int}
    (rule : ∀ (i j : Int) (t u : Tok) (s : Shared) (Q : Value → Shared → Prop) (E : Value → Shared → Prop), Q (.int (g i j) s.toks) { s with toks := s.toks + 1 } → wpAny (model X.prog X.w) X.A (f (.int i t) (.int j u)) Q E s) :
    OpR X f (rI0 fun i j => .int (g i j)) := by
  intro pins s σ H x y v u Q I rx ry h
  obtain ⟨i, j, rfl, rfl, q⟩ := h
  obtain ⟨t, rfl⟩ := rx
  obtain ⟨t', rfl⟩ := ry
  exact rule i j t t' s _ _ ⟨.int (g i j), H, I.tok _, ⟨_, rfl⟩, q⟩
theorem opB0 {f : Value → Value → Sem Value} {g : Int → Int → Bool}
    (rule : ∀ (i j : Int) (t u : Tok) (s : Shared) (Q : Value → Shared → Prop) (E : Value → Shared → Prop), Q (.bool (g i j)) s → wpAny (model X.prog X.w) X.A (f (.int i t) (.int j u)) Q E s) :
    OpR X f (rI0 fun i j => .bl (g i j)) := by
  intro pins s σ H x y v u Q I rx ry h
  obtain ⟨i, j, rfl, rfl, q⟩ := h
  obtain ⟨t, rfl⟩ := rx
  obtain ⟨t', rfl⟩ := ry
  exact rule i j t t' s _ _ ⟨.bl (g i j), H, I, rfl, q⟩
def CPow (i j : Int) : Prop := 0 ≤ j ∧ j ≤ 1000000 ∧ i.natAbs < 2 ^ 64
def CMul (i j : Int) : Prop := (-(2 ^ 64) < i ∧ i < 2 ^ 64) ∨ (-(2 ^ 64) < j ∧ j < 2 ^ 64)
theorem CMul.ok {i j : Int} (h : CMul i j) : IntMulOk i j := by
  rcases h with ⟨h1, h2⟩ | ⟨h1, h2⟩
  · exact .of_left (intBits_le_64 h1 h2)
  · exact .of_right (intBits_le_64 h1 h2)
theorem op_add : OpR X (binaryOp .Add) (rI0 fun i j => .int (i + j)) := opI0 fun _ _ _ _ _ _ _ q => add_int q
theorem op_sub : OpR X (binaryOp .Sub) (rI0 fun i j => .int (i - j)) := opI0 fun _ _ _ _ _ _ _ q => sub_int q
theorem op_mul : OpR X (binaryOp .Mult) (rI CMul fun i j => .int (i * j)) := opI fun _ _ _ _ _ _ _ hc q => mul_int q hc.ok
theorem op_mod : OpR X (binaryOp .Mod) (rI (fun _ j => 0 < j) fun i j => .int (i % j)) := opI fun i j _ _ _ _ _ hc q => by
  have h1 : (0 : Int) < j := hc
  exact mod_int' (by omega) (by rw [Int.fmod_eq_emod_of_nonneg i (by omega)]; exact q)
theorem op_pow : OpR X (binaryOp .Pow) (rI CPow fun i j => .int (i ^ j.toNat)) := opI fun _ _ _ _ _ _ _ hc q => pow_int_small hc.1 hc.2.1 hc.2.2 q
theorem unI {f : Value → Sem Value} {g : Int → Int}
    (rule : ∀ (i : Int) (t : Tok) (s : Shared) (Q : Value → Shared → Prop) (E : Value → Shared → Prop), Q (.int (g i) s.toks) { s with toks := s.toks + 1 } → wpAny (model X.prog X.w) X.A (f (.int i t)) Q E s) :
    UnR X f (rU fun i => .int (g i)) := by
  intro pins s σ H x v Q I rx h
  obtain ⟨i, rfl, q⟩ := h
  obtain ⟨t, rfl⟩ := rx
  exact rule i t s _ _ ⟨.int (g i), H, I.tok _, ⟨_, rfl⟩, q⟩
theorem un_neg : UnR X (unaryOp .USub) (rU fun i => .int (-i)) := unI fun _ _ _ _ _ q => neg_int q
end
section
variable {X : Cx} {a b c : Expr} {ta tb tc : TE} {pos : Pos}
theorem op_lt : OpR X (compareOp .Lt) (rI0 fun i j => .bl (decide (i < j))) := opB0 fun _ _ _ _ _ _ _ q => lt_int q
theorem op_le : OpR X (compareOp .LtE) (rI0 fun i j => .bl (decide (i ≤ j))) := opB0 fun _ _ _ _ _ _ _ q => le_int q
theorem op_gt : OpR X (compareOp .Gt) (rI0 fun i j => .bl (decide (j < i))) := opB0 fun _ _ _ _ _ _ _ q => gt_int q
theorem op_ge : OpR X (compareOp .GtE) (rI0 fun i j => .bl (decide (j ≤ i))) := opB0 fun _ _ _ _ _ _ _ q => ge_int q
theorem OpR.or {f : Value → Value → Sem Value} {r r' : R2} (h : OpR X f r) (h' : OpR X f r') : OpR X f (fun x y H Q => r x y H Q ∨ r' x y H Q) := by
  intro pins s σ H x y v u Q I rx ry q
  rcases q with q | q
  · exact h pins s σ H x y v u Q I rx ry q
  · exact h' pins s σ H x y v u Q I rx ry q
theorem nomark (b : Expr) {op : CmpOp} (h : op ≠ .In := by decide) (h2 : op ≠ .NotIn := by decide) : behindInMarks op b = false := by
  have e1 : (op == CmpOp.In) = false := by cases op <;> first | rfl | exact absurd rfl h
  have e2 : (op == CmpOp.NotIn) = false := by cases op <;> first | rfl | exact absurd rfl h2
  cases b <;> simp [behindInMarks, e1, e2]
theorem pe_cmpR {op : CmpOp} {r : R2} (ho : OpR X (compareOp op) r) (ha : PE X a ta) (hb : PE X b tb) (hm : behindInMarks op b = false) : PE X (.Compare a [op] [b] pos) (tOp r ta tb) := by
  intro pins s σ H Q I h
  exact wpAny_Compare1 (binT ha hb I h fun v u s2 x y H2 I2 rx ry q => ho pins s2 σ H2 x y v u Q I2 rx ry q) hm
def tTest (t : TE) : TT := fun σ H Q => t σ H fun x H' => ∃ k, x = .bl k ∧ Q k H'
theorem pt_cmpR {op : CmpOp} {r : R2} (ho : OpR X (compareOp op) r) (ha : PE X a ta) (hb : PE X b tb) (hm : behindInMarks op b = false) : PT X (.Compare a [op] [b] pos) (tTest (tOp r ta tb)) := by
  intro pins s σ H Q I h
  refine wpAny_isTrue_Compare1 (thn (ha pins s σ H _ I h) fun v s1 ⟨x, H1, I1, r1, q1⟩ => thn (hb pins s1 σ H1 _ I1 q1) fun u s2 ⟨y, H2, I2, r2, q2⟩ =>
    thn (ho pins s2 σ H2 x y v u _ I2 r1 r2 q2) fun c s3 ⟨z, H3, I3, r3, k, e, q3⟩ => ?_) hm
  subst e
  cases r3
  exact wpAny_truthy_bool ⟨H3, I3, q3⟩
def tChain (r r' : R2) (ta tb tc : TE) : TE := fun σ H Q => ta σ H fun x H1 => tb σ H1 fun y H2 => r x y H2 fun z H3 => ∃ k, z = .bl k ∧
  (if k = true then tc σ H3 fun w' H4 => r' y w' H4 Q else Q (.bl false) H3)
theorem pt_chain {op op' : CmpOp} {r r' : R2} (ho : OpR X (compareOp op) r) (ho' : OpR X (compareOp op') r') (ha : PE X a ta) (hb : PE X b tb) (hc : PE X c tc)
    (hm : lastMarks [op, op'] [b, c] = false := by with_unfolding_all rfl) : PT X (.Compare a [op, op'] [b, c] pos) (tTest (tChain r r' ta tb tc)) := by
  intro pins s σ H Q I h
  refine isTrue_chain (thn (ha pins s σ H _ I h) fun v s1 ⟨x, H1, I1, r1, q1⟩ => test_link (thn (hb pins s1 σ H1 _ I1 q1) fun u s2 ⟨y, H2, I2, r2, q2⟩ =>
    thn (ho pins s2 σ H2 x y v u _ I2 r1 r2 q2) fun d s3 ⟨z, H3, I3, r3, k, e, q3⟩ => ?_)) hm
  subst e
  cases r3
  refine wpAny_truthy_bool ?_
  cases k with
  | false =>
    obtain ⟨k', e', q'⟩ := q3
    cases e'
    exact ite_ff ⟨H3, I3, q'⟩
  | true =>
    refine ite_tt (test_last (thn (hc pins s3 σ H3 _ I3 q3) fun w' s4 ⟨z', H4, I4, r4, q4⟩ => thn (ho' pins s4 σ H4 y z' u w' _ I4 r2 r4 q4) fun d' s5 ⟨z2, H5, I5, r5, k2, e2, q5⟩ => ?_))
    subst e2
    cases r5
    exact wpAny_truthy_bool ⟨H5, I5, q5⟩
def TruV (K : PySem.W.Frag) (x : V) (H : Hp) (k : Bool) : Prop :=
  match x with
  | .non => k = false
  | .bl b => k = b
  | .int i => k = (i != 0)
  | .str y => y.length ≤ sizeLine ∧ k = ((y.length : Int) != 0)
  | .byt y => y.size ≤ sizeLine ∧ k = ((y.size : Int) != 0)
  | .ref p => (∃ xs, SqL K H p xs ∧ k = !xs.isEmpty) ∨ (∃ xs, SqT K H p xs ∧ k = !xs.isEmpty) ∨ ∃ kvs, H p = some (.dK kvs) ∧ k = !kvs.isEmpty
  | _ => False
theorem isEmpty_kv {κ : Type} {kvs : List (κ × V)} {vs : List (κ × Value)} (r : KV kvs vs) : (!vs.isEmpty) = !kvs.isEmpty := by
  cases r <;> rfl
theorem isEmpty_of {xs : List V} {its : List Value} (r : Vals xs its) : (!its.toArray.isEmpty) = !xs.isEmpty := by
  cases r <;> simp
theorem line63 : (sizeLine : Nat) < 2 ^ 63 := by rw [sizeLine_eq]; decide
theorem tru_ok : TruR X (fun x H Q => ∃ k, TruV X.K x H k ∧ Q k H) := by
  intro pins s σ H x v Q I rx h
  obtain ⟨k, e, q⟩ := h
  have hl := line63
  have hs : sizeLine = 16777216 := sizeLine_eq
  cases x with
  | non =>
    cases rx
    have e' : k = false := e
    subst e'
    exact truthy_none ⟨H, I, q⟩
  | bl b =>
    cases rx
    have e' : k = b := e
    subst e'
    exact wpAny_truthy_bool ⟨H, I, q⟩
  | int i =>
    obtain ⟨t, rfl⟩ := rx
    have e' : k = (i != 0) := e
    subst e'
    exact PySem.P.truthy_int ⟨H, I, q⟩
  | str y =>
    obtain ⟨t, rfl⟩ := rx
    obtain ⟨hy, e'⟩ : y.length ≤ sizeLine ∧ k = ((y.length : Int) != 0) := e
    subst e'
    exact PySem.P.truthy_str (by omega) ⟨H, I.tok _, q⟩
  | byt y =>
    obtain ⟨t, rfl⟩ := rx
    obtain ⟨hy, e'⟩ : y.size ≤ sizeLine ∧ k = ((y.size : Int) != 0) := e
    subst e'
    exact PySem.W.truthy_bytes (by omega) ⟨H, I.tok _, q⟩
  | ref p =>
    cases rx
    have e' : (∃ xs, SqL X.K H p xs ∧ k = !xs.isEmpty) ∨ (∃ xs, SqT X.K H p xs ∧ k = !xs.isEmpty) ∨ ∃ kvs, H p = some (.dK kvs) ∧ k = !kvs.isEmpty := e
    rcases e' with ⟨xs, hx, e'⟩ | ⟨xs, hx, e'⟩ | ⟨kvs, hx, e'⟩
    · subst e'
      obtain ⟨its, r, pl, hz⟩ := I.list hx
      have hlen := r.length
      exact wpAny_truthy_list pl.isList (by simp only [List.size_toArray]; omega) ⟨H, I.tok _, by rw [isEmpty_of r]; exact q⟩
    · subst e'
      obtain ⟨its, r, pl, hz⟩ := I.tuple hx
      have hlen := r.length
      exact truthy_tuple pl (by simp only [List.size_toArray]; omega) ⟨H, I.tok _, by rw [isEmpty_of r]; exact q⟩
    · subst e'
      obtain ⟨hz, hS, vs, r, m⟩ : kvs.length ≤ sizeLine ∧ (p == sysModules) = false ∧ ∃ vs, KV kvs vs ∧ s.heap.DictOf (mixKind X.prog X.w) p vs := I.hok p _ hx
      have hlen : kvs.length = vs.length := Paired.length r
      exact wpAny_truthy_dict hS m (by omega) ⟨H, I.tok _, by rw [isEmpty_kv r]; exact q⟩
  | _ => exact (show False from e).elim
theorem pt_truth (ha : PE X a ta) (he : ∀ whole, isTrue a X.env whole = (do let v ← whole; standAt a.pos; holding [v] (truthy v))) :
    PT X a (fun σ H Q => ta σ H fun x H' => ∃ k, TruV X.K x H' k ∧ Q k H') := by
  intro pins s σ H Q I h
  exact isTrue_plain (thn (ha pins s σ H _ I h) fun v s1 ⟨x, H1, I1, r1, q1⟩ => tru_ok pins s1 σ H1 x v Q I1 r1 q1) (he _)
theorem op_add_str : OpR X (binaryOp .Add) (fun x y H Q => ∃ i j, x = .str i ∧ y = .str j ∧ i.length + j.length ≤ sizeLine ∧ Q (.str (i ++ j)) H) := by
  intro pins s σ H x y v u Q I rx ry h
  obtain ⟨i, j, rfl, rfl, hz, q⟩ := h
  obtain ⟨t, rfl⟩ := rx
  obtain ⟨t', rfl⟩ := ry
  exact add_str (fun t' tk => ⟨.str (i ++ j), H, I.tok _, ⟨_, rfl⟩, q⟩) hz
theorem vals1 {x : V} {us : List Value} (r : Vals [x] us) : ∃ u, us = [u] ∧ RelV x u := by
  cases r with
  | cons r1 r2 => cases r2; exact ⟨_, rfl, r1⟩
theorem vals2 {x y : V} {us : List Value} (r : Vals [x, y] us) : ∃ u w', us = [u, w'] ∧ RelV x u ∧ RelV y w' := by
  cases r with
  | cons r1 r2 =>
    cases r2 with
    | cons r3 r4 => cases r4; exact ⟨_, _, rfl, r1, r3⟩
theorem call_max2 (hc : X.calm = true) : CallR X (.builtin "max") (fun xs H Q => ∃ i j, xs = [.int i, .int j] ∧ Q (.int (if j > i then j else i)) H) := by
  intro pins s σ H xs us Q I r h
  obtain ⟨i, j, rfl, q⟩ := h
  obtain ⟨u, w', rfl, ⟨t, rfl⟩, ⟨t', rfl⟩⟩ := vals2 r
  refine max_two_ints (I.ok.hd hc) fun h' tk k => ⟨_, H, I.kept k, ?_, q⟩
  by_cases hj : j > i
  · rw [if_pos hj, if_pos hj]; exact ⟨_, rfl⟩
  · rw [if_neg hj, if_neg hj]; exact ⟨_, rfl⟩
theorem call_int1 : CallR X (.type "int") (fun xs H Q => (∃ i, xs = [.int i] ∧ Q (.int i) H) ∨ ∃ k, xs = [.bl k] ∧ Q (.int (if k then 1 else 0)) H) := by
  intro pins s σ H xs us Q I r h
  rcases h with ⟨i, rfl, q⟩ | ⟨k, rfl, q⟩
  · obtain ⟨u, rfl, t, rfl⟩ := vals1 r
    exact call_int_int ⟨.int i, H, I, ⟨_, rfl⟩, q⟩
  · obtain ⟨u, rfl, r1⟩ := vals1 r
    cases r1
    exact call_int_bool ⟨.int (if k then 1 else 0), H, I.tok _, ⟨_, rfl⟩, q⟩
def LenV (K : PySem.W.Frag) (x : V) (H : Hp) (n : Nat) : Prop :=
  match x with
  | .str y => y.length ≤ sizeLine ∧ n = y.length
  | .byt y => y.size ≤ sizeLine ∧ n = y.size
  | .ref p => (∃ xs, SqL K H p xs ∧ n = xs.length) ∨ ∃ xs, SqT K H p xs ∧ n = xs.length
  | _ => False
theorem call_len : CallR X (.builtin "len") (fun xs H Q => ∃ x n, xs = [x] ∧ LenV X.K x H n ∧ Q (.int n) H) := by
  intro pins s σ H xs us Q I r h
  obtain ⟨x, n, rfl, e, q⟩ := h
  obtain ⟨u, rfl, rx⟩ := vals1 r
  have hl := line63
  have hs : sizeLine = 16777216 := sizeLine_eq
  cases x with
  | str y =>
    obtain ⟨t, rfl⟩ := rx
    obtain ⟨hy, e'⟩ : y.length ≤ sizeLine ∧ n = y.length := e
    subst e'
    exact len_str (by omega) ⟨.int _, H, I.tok _, ⟨_, rfl⟩, q⟩
  | byt y =>
    obtain ⟨t, rfl⟩ := rx
    obtain ⟨hy, e'⟩ : y.size ≤ sizeLine ∧ n = y.size := e
    subst e'
    exact PySem.W.len_bytes (by omega) ⟨.int _, H, I.tok _, ⟨_, rfl⟩, q⟩
  | ref p =>
    cases rx
    have e' : (∃ xs, SqL X.K H p xs ∧ n = xs.length) ∨ ∃ xs, SqT X.K H p xs ∧ n = xs.length := e
    rcases e' with ⟨xs, hx, e'⟩ | ⟨xs, hx, e'⟩
    · subst e'
      obtain ⟨its, r', pl, hz⟩ := I.list hx
      have hlen := r'.length
      exact Calls.call_len_list pl.isList (by simp only [List.size_toArray]; omega) ⟨.int xs.length, H, I.tok _, ⟨_, by simp only [List.size_toArray]; rw [hlen]⟩, q⟩
    · subst e'
      obtain ⟨its, r', pl, hz⟩ := I.tuple hx
      have hlen := r'.length
      exact len_tuple pl (by simp only [List.size_toArray]; omega) ⟨.int xs.length, H, I.tok _, ⟨_, by simp only [List.size_toArray]; rw [hlen]⟩, q⟩
  | _ => exact (show False from e).elim
end
end L2
namespace L2
open PySem PySem.Spec PyProof.Rows
structure ObjM (h : Heap) (x dx C : Addr) (mA : Str → Option Value) : Prop where
  obj : h.get? x = some (PySem.W.instObj C dx)
  ns : h.Ns1 dx mA
  ne : dx ≠ x
theorem lookIn_ns {h : Heap} {dx : Addr} {mA : Str → Option Value} (n : h.Ns1 dx mA) : ∃ od, h.get? dx = some od ∧ ∀ name, PySem.W.lookIn name od = some (mA name) := by
  obtain ⟨o, es, ep, ho, hd, hk, _, hm⟩ := n
  refine ⟨o, ho, fun name => ?_⟩
  have e := hm name
  unfold nsFind findBy at e
  rw [← Array.find?_toList] at e
  unfold PySem.W.lookIn
  rw [hd]
  dsimp only
  split
  · rename_i y q
    rw [q] at e
    exact congrArg some e
  · rename_i q
    rw [q] at e
    have a : es.toList.any (·.refKey) = false := by
      rw [List.any_eq_false]
      intro y hy
      obtain ⟨z, t, hkey⟩ := hk y (Array.mem_toList_iff.mp hy)
      simp [DictEntry.refKey, hkey]
    have a' : ¬ es.toList.any (·.refKey) = true := by rw [a]; exact Bool.false_ne_true
    rw [if_neg a']
    exact congrArg some e
theorem ObjM.look {h : Heap} {x dx C : Addr} {mA : Str → Option Value} (I : ObjM h x dx C mA) : ∃ od, PySem.W.InstAt h x (PySem.W.instObj C dx) C (some od) ∧ ∀ name, PySem.W.lookIn name od = some (mA name) :=
  let ⟨od, ho, hl⟩ := lookIn_ns I.ns
  ⟨od, ⟨I.obj, rfl, rfl, ho⟩, hl⟩
section
variable {prog : Program} {w : World} {A : Around} {E : Value → Shared → Prop} {s : Shared} {K : PySem.W.Frag} {x dx C f : Addr} {mA : Str → Option Value} {name : Str} {v : Value}
end
section
variable {P : Program} {w : World} {H H' : Hp} {h h' : Heap} {a C dx : Addr} {fs fs' : List (Str × V)}
end
structure Cls (K : PySem.W.Frag) (C : Addr) : Prop where
  pg : PySem.W.plainGet K C Str.empty = true
  hd : PySem.W.hasDictIn K C = true
  po : PySem.W.plainOver K C = true
  sa : PySem.W.findIn K (.ref C) "__setattr__" = some (some (.builtin "object.__setattr__"))
theorem Cls.get {K : PySem.W.Frag} {C : Addr} (c : Cls K C) (f : Str) : PySem.W.plainGet K C f = true := c.pg
structure Con (K : PySem.W.Frag) (C : Addr) (f : Str) (v : V) (u : Value) : Prop where
  at_ : PySem.W.findIn K (.ref C) f = some (some u)
  rel : RelV v u
  get : PySem.W.specialIn K u "__get__" = some none
  cp : PySem.W.copiedNames.contains f = false
structure Meth (K : PySem.W.Frag) (C : Addr) (m : Str) (f : Addr) : Prop where
  at_ : PySem.W.findIn K (.ref C) m = some (some (.ref f))
  fn : PySem.W.isFn K (.ref f) = true
  kp : PySem.W.keepIn K (.ref f) = true
section
variable {X : Cx} {pins : List (Addr × Obj)} {σ : St} {H : Hp} {s : Shared} {a C dx : Addr} {fs : List (Str × V)} {f : Str} {v : V} {A : Around} {E : Value → Shared → Prop}
theorem Inv.made (I : Inv X pins σ H s) : Inv X pins σ (upd (upd H s.heap.objs.size (.own (s.heap.objs.size + 1))) (s.heap.objs.size + 1) (.ins C s.heap.objs.size []))
    { s with heap := (s.heap.push PySem.W.emptyDict).push (PySem.W.instObj C s.heap.objs.size) } := by
  have e1 : (s.heap.push PySem.W.emptyDict).get? s.heap.objs.size = some PySem.W.emptyDict := Heap.get?_push_size s.heap rfl
  have e2 : ((s.heap.push PySem.W.emptyDict).push (PySem.W.instObj C s.heap.objs.size)).get? (s.heap.objs.size + 1) = some (PySem.W.instObj C s.heap.objs.size) := by
    have := Heap.get?_push_size (s.heap.push PySem.W.emptyDict) (o := PySem.W.instObj C s.heap.objs.size) rfl
    rwa [Heap.size_push] at this
  have e3 : (s.heap.push PySem.W.emptyDict).Ns s.heap.objs.size (fun _ => none) := ⟨PySem.W.emptyDict, #[], _, e1, rfl, (fun e he => absurd he (by simp)), fun _ => rfl⟩
  have I1 := I.laid (a := s.heap.objs.size) (o := .own (s.heap.objs.size + 1)) (h' := s.heap.push PySem.W.emptyDict) (t' := s.toks) (fun b u q => Heap.get?_push_of_some _ q) (Nat.le_refl _) ⟨_, e1⟩
  refine I1.laid (a := s.heap.objs.size + 1) (o := .ins C s.heap.objs.size []) (t' := s.toks) (fun b u q => Heap.get?_push_of_some _ q) (Nat.le_of_eq (Heap.size_push _ _)) ?_
  have ne : s.heap.objs.size ≠ s.heap.objs.size + 1 := Nat.ne_of_lt (Nat.lt_succ_self _)
  refine ⟨by rw [upd_ne ne, upd_same], Nat.zero_le _, ne, e2, fun _ => none, (Heap.Ns1.of_empty e3).at fun o q => Heap.get?_push_of_some _ q, fun _ => True.intro, fun y hy => absurd rfl hy⟩
end
section
variable {X : Cx} {o e value : Expr} {f : Str} {pos pos' tpos : Pos} {ta tv : TE}
end
section
variable {X : Cx} {pins : List (Addr × Obj)} {σ : St} {H : Hp} {s : Shared} {A : Around} {E : Value → Shared → Prop} {Q : Value → Shared → Prop} {c : Value} {b : Bool}
inductive TyOf (K : PySem.W.Frag) (H : Hp) : V → Value → Prop where
  | non : TyOf K H .non (.type "NoneType")
  | bl (x : Bool) : TyOf K H (.bl x) (.type "bool")
  | int (i : Int) : TyOf K H (.int i) (.type "int")
  | str (x : Str) : TyOf K H (.str x) (.type "str")
  | flt (x : UInt64) : TyOf K H (.flt x) (.type "float")
  | lst {a : Addr} {xs : List V} (e : H a = some (.lst xs)) : TyOf K H (.ref a) (.type "list")
  | frz {a : Addr} {o : Obj} {xs : List V} (e : H a = some (.frz o (.lst xs))) : TyOf K H (.ref a) (.type "list")
  | tup {a : Addr} {xs : List V} (e : H a = some (.tup xs)) : TyOf K H (.ref a) (.type "tuple")
  | dK {a : Addr} {kvs : List (Key × V)} (e : H a = some (.dK kvs)) : TyOf K H (.ref a) (.type "dict")
  | dT {a : Addr} {kvs : List (List Key × V)} (e : H a = some (.dT kvs)) : TyOf K H (.ref a) (.type "dict")
  | ins {a C dx : Addr} {fs : List (Str × V)} (e : H a = some (.ins C dx fs)) (cl : Cls K C) (ha : PySem.W.findIn K (.ref C) "__class__" = some (some (.builtin "object.__class__")))
      (hn : PySem.W.specialIn K (.builtin "object.__class__") "__get__" = some (some (.builtin "getset_descriptor.__get__"))) (htk : PySem.W.takesIn K (.builtin "object.__class__") = some true)
      (hm : PySem.W.mroIn K C (.type "object") = some true) : TyOf K H (.ref a) (.ref C)
end
end L2
namespace L2
open PySem PySem.Spec PyProof.Rows
structure Room (k : Nat) (A : Around) : Prop where
  hd : A.handled = none
  dp : A.depth + 3 * k + 5 < recursionLimit
  un : A.units + 16 * k + 200 < cLine
theorem Room.mono {j k : Nat} {A : Around} (r : Room k A) (h : j ≤ k) : Room j A := ⟨r.hd, by have := r.dp; omega, by have := r.un; omega⟩
theorem Room.deeper {k : Nat} {A : Around} (r : Room (k + 1) A) (env : Env) : Room k (A.deeper env) :=
  ⟨r.hd, by have := r.dp; show A.depth + 1 + 3 * k + 5 < _; omega, by have := r.un; show A.units + 3 + 16 * k + 200 < _; omega⟩
theorem Room.in1 {k : Nat} {A : Around} (r : Room (k + 1) A) : Room k A.in1 :=
  ⟨r.hd, by have := r.dp; show A.depth + 3 * k + 5 < _; omega, by have := r.un; show A.units + 1 + 16 * k + 200 < _; omega⟩
theorem Room.depth {k : Nat} {A : Around} (r : Room k A) : A.depth < recursionLimit := by have := r.dp; omega
theorem Room.units {k : Nat} {A : Around} (r : Room k A) : A.units + 64 < cLine := by have := r.un; omega
def tNil : TA := fun _ H Q => Q [] H
def tCons (ta : TE) (tr : TA) : TA := fun σ H Q => ta σ H fun x H1 => tr σ H1 fun xs H2 => Q (x :: xs) H2
section
variable {X : Cx} {e : Expr} {es : List Expr} {te : TE} {t : TA} {pos : Pos}
theorem pa_nil : PA X [] tNil := fun _ _ _ _ H Q I h => Calls.spliced_nil ⟨[], H, I, .nil, h⟩
theorem pa_cons (ha : PE X e te) (hr : PA X es t) (hs : starEach (e :: es) X.env = (false, eval e X.env) :: starEach es X.env := by rfl) : PA X (e :: es) (tCons te t) := by
  intro pos pins s σ H Q I h
  rw [hs]
  show wpAny _ _ (spliced ((false, eval e X.env) :: backTo pos (starEach es X.env))) _ _ s
  refine Calls.spliced_cons (thn (ha pins s σ H _ I h) fun u s1 ⟨x, H1, I1, r1, q1⟩ => ?_)
  exact thn (hr pos pins s1 σ H1 _ I1 q1) fun us s2 ⟨xs, H2, I2, r2, q2⟩ => ⟨x :: xs, H2, I2, .cons r1 r2, q2⟩
def tTup (t : TA) : TE := fun σ H Q => t σ H fun xs H1 => xs.length ≤ sizeLine ∧ ∀ p, H1 p = none → Q (.ref p) (upd H1 p (.tup xs))
def tLst (t : TA) : TE := fun σ H Q => t σ H fun xs H1 => xs.length ≤ sizeLine ∧ ∀ p, H1 p = none → Q (.ref p) (upd H1 p (.lst xs))
theorem pe_tup {x1} (h : PA X es t) : PE X (.Tuple es x1 pos) (tTup t) := by
  intro pins s σ H Q I hq
  refine wpAny_Tuple_spliced (thn (h pos pins s σ H _ I hq) fun us s1 ⟨xs, H1, I1, r, z, q⟩ => ⟨by rw [← r.length]; exact z, ?_⟩)
  have hf : H1 s1.heap.objs.size = none := I1.hok.fresh (Nat.le_refl _)
  refine ⟨.ref s1.heap.objs.size, upd H1 s1.heap.objs.size (.tup xs), I1.laid (t' := s1.toks) (fun b u e => Heap.get?_push_of_some _ e) (Nat.le_refl _) ?_, rfl, q _ hf⟩
  exact ⟨z, us, r, ⟨_, Heap.get?_push_size _ rfl, rfl, _, rfl⟩⟩
theorem pe_lst (h : PA X es t) : PE X (.List es pos) (tLst t) := by
  intro pins s σ H Q I hq
  refine wpAny_List_spliced (thn (h pos pins s σ H _ I hq) fun us s1 ⟨xs, H1, I1, r, z, q⟩ => ⟨by rw [← r.length]; exact z, ?_⟩)
  have hf : H1 s1.heap.objs.size = none := I1.hok.fresh (Nat.le_refl _)
  refine ⟨.ref s1.heap.objs.size, upd H1 s1.heap.objs.size (.lst xs), I1.laid (t' := s1.toks) (fun b u e => Heap.get?_push_of_some _ e) (Nat.le_refl _) ?_, rfl, q _ hf⟩
  exact ⟨z, us, 0, r, Heap.get?_push_size _ rfl⟩
end
abbrev Sp := List V → Hp → VK → XK → Prop
abbrev CXT := List Env → Hp → Shared → XK → Value → Shared → Prop
structure Env0 (P : Program) (w : World) (K : PySem.W.Frag) (mg : Str → Option Value) (base : Heap) (A : Around) (outer : List Env) (s : Shared) (H : Hp) : Prop where
  frames : A.frames = some outer
  mod : Mod K mg base
  bs : ∀ b o, base.get? b = some o → s.heap.get? b = some o ∧ H b = none
  bsz : base.objs.size ≤ s.heap.objs.size
  funs : s.heap.FunFrames base outer
  frf : ∀ b ∈ frs outer, H b = none
  hok : HOk P w H s.heap
  bare : AllBare s.gens
def CE (outer : List Env) (P : Program) (w : World) (H : Hp) (s : Shared) (Q : VK) (u : Value) (s' : Shared) : Prop :=
  ∃ v H', s'.os = s.os ∧ AllBare s'.gens ∧ Un (frs outer) [] H H' s.heap s'.heap ∧ HOk P w H' s'.heap ∧ RelV v u ∧ Q v H'
def CR (CX : CXT) (outer : List Env) (P : Program) (w : World) (H : Hp) (s : Shared) (Q : VK) (E : XK) (r : Result) (s' : Shared) : Prop :=
  match r with
  | .ok (.ret u) => CE outer P w H s Q u s'
  | .ok _ => False
  | .error e => CX outer H s E e s'
structure FnOk (P : Program) (w : World) (K : PySem.W.Frag) (mg : Str → Option Value) (base : Heap) (CX : CXT) (k : Nat) (f : Addr) (fd : FuncData) (ps : List Str) (sp : Sp) : Prop where
  len : ∀ vs H Q E, sp vs H Q E → vs.length = ps.length
  run : ∀ (A : Around) (outer : List Env) (s : Shared) (H : Hp) (args : Args) (us : List Value) (vs : List V) (Q : VK) (E : XK), Room k A → Env0 P w K mg base A outer s H → BindsTo s fd args (ps.zip us) → Vals vs us → sp vs H Q E →
    codeAny (model P w) A (.call (.ref f) args) (CR CX outer P w H s Q E) s
theorem FnOk.mono {P : Program} {w : World} {K : PySem.W.Frag} {mg : Str → Option Value} {base : Heap} {CX : CXT} {j k : Nat} {f : Addr} {fd : FuncData} {ps : List Str} {sp : Sp} (F : FnOk P w K mg base CX j f fd ps sp) (h : j ≤ k) :
    FnOk P w K mg base CX k f fd ps sp := ⟨F.len, fun A outer s H args us vs Q E hr => F.run A outer s H args us vs Q E (hr.mono h)⟩
theorem FnOk.imp {P : Program} {w : World} {K : PySem.W.Frag} {mg : Str → Option Value} {base : Heap} {CX : CXT} {k : Nat} {f : Addr} {fd : FuncData} {ps : List Str} {sp sp' : Sp} (F : FnOk P w K mg base CX k f fd ps sp)
    (h : ∀ vs H Q E, sp' vs H Q E → sp vs H Q E) : FnOk P w K mg base CX k f fd ps sp' :=
  ⟨fun vs H Q E q => F.len vs H Q E (h _ _ _ _ q), fun A outer s H args us vs Q E hr he hb hv hs => F.run A outer s H args us vs Q E hr he hb hv (h _ _ _ _ hs)⟩
theorem Env0.in1 {P : Program} {w : World} {K : PySem.W.Frag} {mg : Str → Option Value} {base : Heap} {A : Around} {outer : List Env} {s : Shared} {H : Hp} (e : Env0 P w K mg base A outer s H) :
    Env0 P w K mg base A.in1 outer s H := ⟨e.frames, e.mod, e.bs, e.bsz, e.funs, e.frf, e.hok, e.bare⟩
section
variable {X : Cx} {pins : List (Addr × Obj)} {σ : St} {H : Hp} {s s' : Shared}
theorem Inv.env0 (I : Inv X pins σ H s) : Env0 X.prog X.w X.K X.mg X.base X.A X.stack s H :=
  ⟨I.ok.frames, I.ok.mod, I.bs, Nat.le_trans I.ok.bsz I.sz, I.stack, I.stkFree, I.hok, I.bare⟩
theorem Inv.after {Q : VK} {u : Value} (I : Inv X pins σ H s) (h : CE X.stack X.prog X.w H s Q u s') : EP X pins σ Q u s' := by
  obtain ⟨v, H', os, bare, un, hok, r, q⟩ := h
  obtain ⟨hh, g, d, t, os'⟩ := s'
  obtain rfl : os' = s.os := os
  exact ⟨v, H', I.call (h' := hh) (g' := g) (d' := d) (t' := t) (ch := []) un hok bare (fun b z => absurd z (by simp)), r, q⟩
end
def tCall (sp : Sp) (dvs : List V) (E : XK) (t : TA) : TE := fun σ H Q => t σ H fun vs H1 => sp (vs ++ dvs) H1 Q E
def Binds (K : PySem.W.Frag) (fd : FuncData) (ps : List Str) (ds : List Value) : Prop :=
  ∀ (s : Shared) (us : List Value), K.In s.heap → (us ++ ds).length = ps.length → BindsTo s fd ⟨us, []⟩ (ps.zip (us ++ ds))
theorem Binds.all {K : PySem.W.Frag} {fd : FuncData} {ps : List Str} (h : ∀ us : List Value, us.length = ps.length → bindArgs fd ⟨us, []⟩ = pure (ps.zip us)) : Binds K fd ps [] := fun s us _ hl => by
  rw [List.append_nil] at hl ⊢
  exact .of_eq (h us hl)
def Passes (CX : CXT) (X : Cx) (E : XK) : Prop := ∀ (pins : List (Addr × Obj)) (σ : St) (H : Hp) (s : Shared) (e : Value) (s' : Shared), Inv X pins σ H s → CX X.stack H s E e s' → X.xe e s'
section
variable {X : Cx} {CX : CXT} {k : Nat} {f C : Addr} {fd : FuncData} {ps : List Str} {sp : Sp} {dvs : List V} {ds : List Value} {E : XK} {x m : Str} {p pos apos : Pos} {e o : Expr} {es : List Expr} {ta : TE} {t : TA}
theorem run_fn {pins : List (Addr × Obj)} {σ : St} {H : Hp} {s : Shared} {Q : VK} {us : List Value} {vs : List V} (F : FnOk X.prog X.w X.K X.mg X.base CX k f fd ps sp) (hr : Room k X.A) (hb : Binds X.K fd ps ds) (hd : Vals dvs ds) (hx : Passes CX X E)
    (I : Inv X pins σ H s) (r : Vals vs us) (h : sp (vs ++ dvs) H Q E) : wpAny (model X.prog X.w) X.A (call (.ref f) us) (EP X pins σ Q) X.xe s := by
  have r2 : Vals (vs ++ dvs) (us ++ ds) := r.append hd
  have hl : (us ++ ds).length = ps.length := by rw [← r2.length]; exact F.len _ _ _ _ h
  refine wpAny_call (codeAny_mono (F.run X.A X.stack s H ⟨us, []⟩ (us ++ ds) (vs ++ dvs) Q E hr I.env0 (hb s us I.kIn hl) r2 h) fun r s' hq => ?_)
  cases r with
  | error e => exact hx pins σ H s e s' I hq
  | ok fl =>
    cases fl with
    | ret u => exact I.after hq
    | next => exact False.elim hq
    | brk => exact False.elim hq
    | cont => exact False.elim hq
theorem pe_call (F : FnOk X.prog X.w X.K X.mg X.base CX k f fd ps sp) (hr : Room k X.A) (hg : Gl X x) (hm : X.mg x = some (.ref f)) (hk : PySem.W.keepIn X.K (.ref f) = true) (hb : Binds X.K fd ps ds) (hd : Vals dvs ds) (hx : Passes CX X E)
    (ha : PA X (e :: es) t) (hdb : (x == ("__debug__" : Str)) = false := by decide) (he : starEach (e :: es) X.env = (false, eval e X.env) :: starEach es X.env := by rfl) (hpl : (backTo pos (starEach es X.env)).any (·.1) = false := by rfl) :
    PE X (.Call (.Name x p) (e :: es) [] pos) (tCall sp dvs E t) := by
  intro pins s σ H Q I h
  refine wpAny_Call_Name_kw (ld_glob I hg hm ?_ hdb)
  refine PySem.W.callWith_K (h₀ := X.base) I.ok.mod.kin hk (thn (ha pos pins s σ H _ I h) fun us s1 ⟨vs, H1, I1, r, q⟩ => ⟨I1.kIn, ?_⟩) he hpl
  exact run_fn F hr hb hd hx I1 r q
structure Mk (K : PySem.W.Frag) (C f : Addr) : Prop where
  makes : PySem.W.makesIn K C = true
  init : PySem.W.findIn K (.ref C) "__init__" = some (some (.ref f))
  fn : PySem.W.isFn K (.ref f) = true
  kp : PySem.W.keepIn K (.ref C) = true
end
def PK (X : Cx) (kws : List Keyword) (t : TA) : Prop :=
  ∀ (pos : Pos) (pins : List (Addr × Obj)) (s : Shared) (σ : St) (H : Hp) (Q : List V → Hp → Prop), Inv X pins σ H s → t σ H Q → wpAny (model X.prog X.w) X.A (evalAll ((backToKw pos (keywordEach kws X.env)).map (·.2))) (AP X pins σ Q) X.xe s
section
variable {X : Cx} {CX : CXT} {k : Nat} {f C : Addr} {fd : FuncData} {ps ks : List Str} {sp : Sp} {E : XK} {x m : Str} {p pos apos kpos : Pos} {e o : Expr} {es : List Expr} {kws : List Keyword} {te ta : TE} {t tk : TA} {nm : Option Str}
structure KBinds (K : PySem.W.Frag) (fd : FuncData) (ps ks : List Str) (g : List Value → List Value → List Value) (gV : List V → List V → List V) : Prop where
  to : ∀ (s : Shared) (us ws : List Value), K.In s.heap → (g us ws).length = ps.length → BindsTo s fd ⟨us, ks.zip ws⟩ (ps.zip (g us ws))
  rel : ∀ {vs : List V} {us : List Value} {zs : List V} {ws : List Value}, Vals vs us → Vals zs ws → Vals (gV vs zs) (g us ws)
variable {g : List Value → List Value → List Value} {gV : List V → List V → List V}
end
structure FnScope (N P : List Str) (sc : Scope) : Prop where
  kind : sc.kind = .function
  co : sc.isCoroutine = false
  gen : sc.isGenerator = false
  nd : N.Nodup
  pre : N.take P.length = P
  par : ∀ x ∈ P, sc.names.lookup x = some .local ∨ sc.names.lookup x = some .cell
  nofree : ∀ y ∈ sc.names, y.2 ≠ .free
theorem bindL_out {kindOf : Str → Option NameKind} {x : Str} : ∀ {binds : List (Str × Value)} {m : Str → Option Value}, (∀ v, (x, v) ∉ binds) → bindL kindOf binds m x = m x
  | [], _, _ => rfl
  | (n, v) :: r, m, h => by
    unfold bindL
    rw [bindL_out fun w hw => h w (List.mem_cons_of_mem _ hw)]
    split
    · have : x ≠ n := by rintro rfl; exact h v List.mem_cons_self
      simp [this]
    · rfl
theorem bindC_out {kindOf : Str → Option NameKind} {x : Str} : ∀ {binds : List (Str × Value)} {m : Str → Option Value}, (∀ v, (x, v) ∉ binds) → bindC kindOf binds m x = m x
  | [], _, _ => rfl
  | (n, v) :: r, m, h => by
    unfold bindC
    rw [bindC_out fun w hw => h w (List.mem_cons_of_mem _ hw)]
    split
    · rfl
    · have : x ≠ n := by rintro rfl; exact h v List.mem_cons_self
      simp [this]
theorem bindL_get {kindOf : Str → Option NameKind} {x : Str} {v : Value} : ∀ {P : List Str} {vs : List Value} {i : Nat} {m : Str → Option Value}, P.Nodup → P[i]? = some x → vs[i]? = some v → kindOf x = some .local →
    bindL kindOf (P.zip vs) m x = some v
  | [], _, _, _, _, h, _, _ => by simp at h
  | _ :: _, [], _, _, _, _, h, _ => by simp at h
  | p :: P, w :: vs, 0, m, nd, h1, h2, hk => by
    simp at h1 h2; subst h1; subst h2
    show bindL kindOf ((p, w) :: P.zip vs) m p = _
    unfold bindL
    rw [bindL_out fun v hv => (List.nodup_cons.mp nd).1 (List.of_mem_zip hv).1, if_pos hk]
    simp
  | p :: P, w :: vs, i + 1, m, nd, h1, h2, hk => by
    show bindL kindOf ((p, w) :: P.zip vs) m x = _
    unfold bindL
    exact bindL_get (i := i) (List.nodup_cons.mp nd).2 (by simpa using h1) (by simpa using h2) hk
theorem bindC_get {kindOf : Str → Option NameKind} {x : Str} {v : Value} : ∀ {P : List Str} {vs : List Value} {i : Nat} {m : Str → Option Value}, P.Nodup → P[i]? = some x → vs[i]? = some v → kindOf x ≠ some .local →
    bindC kindOf (P.zip vs) m x = some v
  | [], _, _, _, _, h, _, _ => by simp at h
  | _ :: _, [], _, _, _, _, h, _ => by simp at h
  | p :: P, w :: vs, 0, m, nd, h1, h2, hk => by
    simp at h1 h2; subst h1; subst h2
    show bindC kindOf ((p, w) :: P.zip vs) m p = _
    unfold bindC
    rw [bindC_out fun v hv => (List.nodup_cons.mp nd).1 (List.of_mem_zip hv).1, if_neg hk]
    simp
  | p :: P, w :: vs, i + 1, m, nd, h1, h2, hk => by
    show bindC kindOf ((p, w) :: P.zip vs) m x = _
    unfold bindC
    exact bindC_get (i := i) (List.nodup_cons.mp nd).2 (by simpa using h1) (by simpa using h2) hk
def start (N : List Str) (vs : List V) : St := vs.map some ++ List.replicate (N.length - vs.length) none
def cxOf (CX : CXT) (P : Program) (w : World) (K : PySem.W.Frag) (mg : Str → Option Value) (base : Heap) (N : List Str) (qual : Str) (scope : Scope) (f : Addr) (cd : Value) (A : Around) (outer : List Env) (s : Shared) (H : Hp) (E : XK) : Cx where
  prog := P
  w := w
  K := K
  mg := mg
  base := base
  A := A.deeper (envOfC qual scope s.heap.objs.size f cd)
  N := N
  s₀ := s
  H₀ := H
  env := envOfC qual scope s.heap.objs.size f cd
  outer := outer
  stack := envOfC qual scope s.heap.objs.size f cd :: outer
  ex := []
  calm := true
  fn := fun _ => true
  pn := []
  xe := fun e s' => wpAny (model P w) (A.deeper (envOfC qual scope s.heap.objs.size f cd)) (leaving (envOfC qual scope s.heap.objs.size f cd) e) (fun _ s'' => CX outer H s E e s'') (fun e' s'' => CX outer H s E e' s'') s'
theorem cell_has {sc : Scope} {n : Nat} {x : Str} (h : sc.names.lookup x = some .cell) : ∃ c, (cellsFrom n sc.names []).lookup x = some c := by
  have q := PySem.W.cellsFrom_some sc.names n [] (.inl h)
  exact Option.isSome_iff_exists.mp q
theorem inv_start {CX : CXT} {P : Program} {w : World} {K : PySem.W.Frag} {mg : Str → Option Value} {base : Heap} {N ps : List Str} {qual : Str} {scope : Scope} {f : Addr} {cd : Value} {A : Around} {outer : List Env} {s s1 : Shared} {H : Hp} {E : XK} {us : List Value} {vs : List V}
    (S : FnScope N ps scope) (hd : A.handled = none) (e0 : Env0 P w K mg base A outer s H) (hl : vs.length = ps.length) (r : Vals vs us)
    (x : InCallC s s.heap.objs.size (bindL (envOfC qual scope s.heap.objs.size f cd).kindOf (ps.zip us) fun _ => none) (cellsFrom (s.heap.objs.size + 1) scope.names []) (bindC (envOfC qual scope s.heap.objs.size f cd).kindOf (ps.zip us) fun _ => none) s1) :
    Inv (cxOf CX P w K mg base N qual scope f cd A outer s H E) [] (start N vs) H s1 := by
  have hpl : ps.length ≤ N.length := by have := congrArg List.length S.pre; rw [List.length_take] at this; omega
  obtain ⟨h1, tk, rfl, hk⟩ := x.done
  have noA : ∀ b : Addr, b ∉ (cxOf CX P w K mg base N qual scope f cd A outer s H E).ex := fun b z => absurd (show b ∈ ([] : List Addr) from z) (by simp)
  refine ⟨⟨e0.mod, S.kind, rfl, rfl, Nat.le_refl _, fun y z c h1 h2 => ?_, fun y hy => ?_, fun y c _ h => ?_, fun _ => hd, Around.frames_deeper e0.frames, .inr ⟨rfl, rfl⟩, fun b z => absurd z (noA b), e0.bs, e0.bsz, fun b _ _ => noA b, fun b z => absurd z (noA b), e0.funs, e0.frf⟩,
    rfl, e0.bare, Un.kept hk, ⟨_, x.toInCall.ns, fun i y v h1 h2 h3 => ?_⟩, fun y c h => ⟨_, x.cell y c h⟩, e0.hok.fresh (Nat.le_refl _), fun y c h => ?_, fun p hp => absurd (show p ∈ ([] : List (Addr × Obj)) from hp) (by simp), e0.hok.kept hk, ?_⟩
  · exact name_of_addr x.apart (PySem.mem_of_lookup h1) (PySem.mem_of_lookup h2)
  · have hy : scope.names.lookup y = some .cell ∨ scope.names.lookup y = some .free := hy
    rcases hy with hy | hy
    · exact cell_has hy
    · exact absurd rfl (S.nofree _ (PySem.mem_of_lookup hy))
  · exact Nat.le_of_lt (x.above y c (PySem.mem_of_lookup h))
  · have hi : i < vs.length := by
      unfold start at h2
      by_cases hi : i < vs.length
      · exact hi
      · rw [List.getElem?_append_right (by simpa using hi)] at h2
        rw [List.getElem?_replicate] at h2
        split at h2 <;> cases h2
    have ha : vs[i]? = some v := by
      unfold start at h2
      rw [List.getElem?_append_left (by simpa using hi), List.getElem?_map] at h2
      cases e : vs[i]? with
      | none => rw [e] at h2; cases h2
      | some a => rw [e] at h2; cases h2; rfl
    obtain ⟨u, hu, rv⟩ := r.get ha
    have hp : ps[i]? = some y := by
      rw [← S.pre, List.getElem?_take_of_lt (by omega)]; exact h1
    have ndP : ps.Nodup := by rw [← S.pre]; exact S.nd.sublist (List.take_sublist _ _)
    refine ⟨u, rv, ?_⟩
    rcases S.par y (List.mem_of_getElem? hp) with k | k
    · exact .inl ⟨k, bindL_get ndP hp hu k⟩
    · obtain ⟨c, e⟩ := cell_has (n := s.heap.objs.size + 1) k
      refine .inr ⟨.inl k, c, e, ?_⟩
      have q := x.cell y c e
      rw [bindC_get ndP hp hu (by show scope.names.lookup y ≠ _; rw [k]; decide)] at q
      exact q
  · exact e0.hok.fresh (Nat.le_of_lt (x.above y c (PySem.mem_of_lookup h)))
  · unfold start
    show _ = N.length
    rw [List.length_append, List.length_map, List.length_replicate]
    omega
theorem fn_of {CX : CXT} {P : Program} {w : World} {K : PySem.W.Frag} {mg : Str → Option Value} {base : Heap} {k : Nat} {f : Addr} {name qual : Str} {params : Arguments} {body : List Stmt} {scope : Scope} {dV kV doc pm cdv ct oc : Value} {an od : Option Addr}
    {osl : Array (Option Value)} {N ps : List Str} {sp : Sp} (lk : K.lookup f = some ⟨oc, od, .func (PySem.W.fnOf name qual params body scope dV kV doc pm an cdv ct), osl⟩) (hcd : PySem.W.codeIn K cdv qual = true) (S : FnScope N ps scope)
    (len : ∀ vs H Q E, sp vs H Q E → vs.length = ps.length)
    (hbody : ∀ (A : Around) (outer : List Env) (s : Shared) (H : Hp) (vs : List V) (Q : VK) (E : XK), Room k (A.deeper (envOfC qual scope s.heap.objs.size f cdv)) → sp vs H Q E →
      ∃ t, PSs (cxOf CX P w K mg base N qual scope f cdv A outer s H E) body t ∧ t { nx := fun _ H' => Q .non H', rt := Q } (start N vs) H) :
    FnOk P w K mg base CX (k + 1) f (PySem.W.fnOf name qual params body scope dV kV doc pm an cdv ct) ps sp := by
  refine ⟨len, fun A outer s H args us vs Q E hr e0 hb r hsp => ?_⟩
  have hl := len _ _ _ _ hsp
  have KX : K.In s.heap := e0.mod.kin.keeps fun b o e => (e0.bs b o e).1
  have lim : s.heap.NoLimit := e0.mod.nolimit.keeps fun b o e => (e0.bs b o e).1
  have hkind : ∀ y ∈ ps.zip us, scope.names.lookup y.1 = some .local ∨ (scope.names.lookup y.1 = some .cell ∧ ((cellsFrom (s.heap.objs.size + 1) scope.names []).lookup y.1).isSome = true) := fun ⟨n, v⟩ hy => by
    rcases S.par n (List.of_mem_zip hy).1 with q | q
    · exact .inl q
    · exact .inr ⟨q, PySem.W.cellsFrom_some _ _ _ (.inl q)⟩
  refine codeAny_call_function hr.depth (KX _ _ lk) rfl S.co S.gen rfl (PySem.W.codeRec_of KX hcd) (hb _ _ _ _ ?_)
  refine wpAny_newFunctionEnv_cells S.kind hkind fun env he s1 x => ?_
  subst he
  refine ⟨lim.keeps x.toInCall.keep, codeAny_func ?_⟩
  obtain ⟨t, ht, hq⟩ := hbody A outer s H vs Q E (hr.deeper _) hsp
  have I : Inv (cxOf CX P w K mg base N qual scope f cdv A outer s H E) [] (start N vs) H s1 := inv_start S hr.hd e0 hl r x
  refine wpAny_mono (ht [] s1 (start N vs) H _ I hq) (fun fl s' hs => ?_) fun e s' hs => hs
  have fin : ∀ {σ' : St} {H' : Hp} {v : V} {u : Value}, Inv (cxOf CX P w K mg base N qual scope f cdv A outer s H E) [] σ' H' s' → RelV v u → Q v H' → CE outer P w H s Q u s' :=
    fun {σ' H' v u} J rv q => ⟨v, H', J.os, J.bare, J.base, J.hok, rv, q⟩
  cases fl with
  | ret u =>
    obtain ⟨v, σ', H', J, rv, q⟩ := hs
    exact fin J rv q
  | next =>
    obtain ⟨σ', H', J, q⟩ := hs
    exact fin (v := V.non) (u := Value.none) J rfl q
  | brk =>
    obtain ⟨_, _, _, q⟩ := hs
    exact False.elim q
  | cont =>
    obtain ⟨_, _, _, q⟩ := hs
    exact False.elim q
end L2
namespace L2
open PySem PySem.Spec PyProof.Rows
section
variable {X : Cx} {x : Str} {p pos : Pos} {e : Expr} {es : List Expr} {t : TA} {id T : String} {r : List V → Hp → VK → Prop}
def tCB (r : List V → Hp → VK → Prop) (t : TA) : TE := fun σ H Q => t σ H fun vs H1 => r vs H1 Q
theorem pe_callB (hc : CallR X (.builtin id) r) (hg : Gl X x) (hm : X.mg x = none) (hv : bootBuiltins x = some (.builtin id)) (ha : PA X (e :: es) t) (hn : x ≠ "__name__" := by decide) (hdb : (x == ("__debug__" : Str)) = false := by decide)
    (he : starEach (e :: es) X.env = (false, eval e X.env) :: starEach es X.env := by rfl) (hpl : (backTo pos (starEach es X.env)).any (·.1) = false := by rfl) : PE X (.Call (.Name x p) (e :: es) [] pos) (tCB r t) := by
  intro pins s σ H Q I h
  refine wpAny_Call_Name_kw (ld_blt I hg hm hv ?_ hn hdb)
  exact PyProof.Rows.callWith_builtin1 (thn (ha pos pins s σ H _ I h) fun us s1 ⟨vs, H1, I1, r1, q1⟩ => hc pins s1 σ H1 vs us Q I1 r1 q1) he hpl
theorem pe_callTy (hc : CallR X (.type T) r) (hg : Gl X x) (hm : X.mg x = none) (hv : bootBuiltins x = some (.type T)) (ha : PA X (e :: es) t) (hn : x ≠ "__name__" := by decide) (hdb : (x == ("__debug__" : Str)) = false := by decide)
    (he : starEach (e :: es) X.env = (false, eval e X.env) :: starEach es X.env := by rfl) (hpl : (backTo pos (starEach es X.env)).any (·.1) = false := by rfl) : PE X (.Call (.Name x p) (e :: es) [] pos) (tCB r t) := by
  intro pins s σ H Q I h
  refine wpAny_Call_Name_kw (ld_blt I hg hm hv ?_ hn hdb)
  exact PyProof.Rows.callWith_type1 (thn (ha pos pins s σ H _ I h) fun us s1 ⟨vs, H1, I1, r1, q1⟩ => hc pins s1 σ H1 vs us Q I1 r1 q1) he hpl
end
end L2
namespace HT
open PySem PyProof.Rows
section
open PySem.SeqAt
open PySem.AutoSeq1 (wpAny_loadPart')
open PySem.MeetsSeq PySem.MeetsSeq2 PySem.MeetsSeq3
end
section
variable {prog : Program} {w : World} {A : Around} {E : Value → Shared → Prop} {s : Shared}
theorem cat_tup {t b : Addr} {vs ws : List Value} {Q : Value → Shared → Prop} (ht : IsTup s.heap t vs.toArray) (hb : IsTup s.heap b ws.toArray) (hv : vs ≠ [])
    (h1 : ws = [] → Q (.ref t) s) (h2 : ws ≠ [] → Q (.ref s.heap.objs.size) { s with heap := s.heap.push { cls := .type "tuple", data := .seq (vs ++ ws).toArray } })
    (hsz : vs.length + ws.length ≤ sizeLine) : wpAny (model prog w) A (binaryOp .Add (.ref t) (.ref b)) Q E s := by
  obtain ⟨⟨cls, dd, data, sl⟩, ho, hc, n, hd⟩ := id ht
  obtain ⟨⟨cls2, dd2, data2, sl2⟩, ho2, hc2, n2, hd2⟩ := id hb
  simp only at hc hd hc2 hd2
  subst hc hd hc2 hd2
  have e : vs.toArray ++ ws.toArray = (vs ++ ws).toArray := by simp
  by_cases hw : ws = []
  · exact concat_meets ⟨_, ho, rfl⟩ ⟨_, ho2, rfl⟩ noFill_tuple_add seq_tuple_add PySem.F.slot_tuple_add PySem.F.entry_tuple_add (PySem.F.args_tuple_add_2 _ _)
      (tuple_addW1 t b vs.toArray ws.toArray n n2 dd dd2 sl sl2 (by simpa using hv) (by simp [hw])) ⟨ho, ho2, h1 hw⟩
  · refine concat_meets ⟨_, ho, rfl⟩ ⟨_, ho2, rfl⟩ noFill_tuple_add seq_tuple_add PySem.F.slot_tuple_add PySem.F.entry_tuple_add (PySem.F.args_tuple_add_2 _ _)
      (tuple_addW2 t b vs.toArray ws.toArray n n2 dd dd2 sl sl2 (by simpa using hv) (by simpa using hw) (by rw [List.size_toArray, List.size_toArray]; exact hsz)) ⟨ho, ho2, ?_⟩
    rw [e]
    exact h2 hw
def sIx (n d : Nat) : Option Int → Nat
  | none => d
  | some v => if v < 0 then (v + (n : Int)).toNat else min v.toNat n
theorem sIx_none (n d : Nat) : sIx n d none = d := rfl
theorem sIx_nat (n d k : Nat) : sIx n d (some (k : Int)) = min k n := by
  show (if (k : Int) < 0 then ((k : Int) + (n : Int)).toNat else min (k : Int).toNat n) = min k n
  rw [if_neg (by omega), Int.toNat_natCast]
theorem sIx_le (n d : Nat) (hd : d ≤ n) (o : Option Int) : sIx n d o ≤ n := by
  cases o with
  | none => exact hd
  | some v =>
    show (if v < 0 then (v + (n : Int)).toNat else min v.toNat n) ≤ n
    by_cases hv : v < 0
    · rw [if_pos hv]; omega
    · rw [if_neg hv]; exact Nat.min_le_right _ _
theorem clip_eq (v : Int) (n d : Nat) : (if v < 0 then max (v + (n : Int)) 0 else min v (n : Int)) = ((sIx n d (some v) : Nat) : Int) := by
  show (if v < 0 then max (v + (n : Int)) 0 else min v (n : Int)) = (((if v < 0 then (v + (n : Int)).toNat else min v.toNat n) : Nat) : Int)
  by_cases hv : v < 0
  · simp only [if_pos hv]; omega
  · simp only [if_neg hv]; omega
theorem adjust_gen (lo hi : Option Int) (n : Nat) : Builtin.Slice.sliceAdjust lo hi 1 (n : Int) = (((sIx n 0 lo : Nat) : Int), ((sIx n n hi : Nat) : Int)) := by
  have h1 : ¬ ((1 : Int) < 0) := by omega
  unfold Builtin.Slice.sliceAdjust
  simp only [h1, if_false]
  refine Prod.ext ?_ ?_
  · cases lo with
    | none => rfl
    | some v => exact clip_eq v n 0
  · cases hi with
    | none => rfl
    | some v => exact clip_eq v n n
theorem places_gen (i j : Nat) : Builtin.Slice.slicePlaces (i : Int) (j : Int) 1 = j - i := by
  unfold Builtin.Slice.slicePlaces
  have h1 : (1 : Int) > 0 := by omega
  simp only [h1, if_true, Int.ediv_one]
  split <;> omega
theorem slicePart_ {v : Value} {o : Option Int} {Q : Option Int → Shared → Prop} (p : IsPart v o) (h : Q o s) : wpAny (model prog w) A (Builtin.Slice.slicePartIndex v) Q E s := by
  cases p with
  | none => exact slicePart_none h
  | int i t => exact slicePart_int h
theorem sliceApplied_gen {sl : Addr} {vl vu : Value} {lo hi : Option Int} {n : Nat} {Q : Int × Int × Nat → Shared → Prop} (hs : s.heap.IsSliceOf sl vl vu .none) (pl : IsPart vl lo) (pu : IsPart vu hi)
    (h : Q (((sIx n 0 lo : Nat) : Int), 1, sIx n n hi - sIx n 0 lo) s) : wpAny (model prog w) A (Builtin.Slice.sliceApplied (.ref sl) (pure (n : Int))) Q E s := by
  obtain ⟨os, hos, hcs, hds⟩ := id hs
  unfold Builtin.Slice.sliceApplied Builtin.Slice.sliceFields
  refine wpAny_bind (wpAny_bind (wpAny_field hos hds (x := vl) rfl (wpAny_bind (wpAny_field hos hds (x := vu) rfl (wpAny_bind (wpAny_field hos hds (x := .none) rfl (wpAny_pure ?_)))))))
  refine wpAny_bind (slicePart_none ?_)
  show wpAny _ _ (if ((1 : Int) == 0) = true then _ else _) _ _ s
  rw [if_neg (by decide)]
  refine wpAny_bind (slicePart_ pl (wpAny_bind (slicePart_ pu (wpAny_bind (wpAny_pure ?_)))))
  show wpAny _ _ (match Builtin.Slice.sliceAdjust lo hi 1 (n : Int) with | (lo, hi) => pure (lo, (1 : Int), Builtin.Slice.slicePlaces lo hi 1)) _ _ s
  rw [adjust_gen lo hi n]
  show wpAny _ _ (pure (((sIx n 0 lo : Nat) : Int), (1 : Int), Builtin.Slice.slicePlaces ((sIx n 0 lo : Nat) : Int) ((sIx n n hi : Nat) : Int) 1)) _ _ s
  rw [places_gen]
  exact wpAny_pure h
theorem pick_gen (xs : Array Value) (i k : Nat) : ((List.range k).filterMap fun (m : Nat) => xs[((i : Int) + (m : Int) * 1).toNat]?).toArray = ((xs.toList.drop i).take k).toArray := by
  have e : (fun (m : Nat) => xs[((i : Int) + (m : Int) * 1).toNat]?) = fun m => xs[i + m]? := by
    funext m
    have : ((i : Int) + (m : Int) * 1).toNat = i + m := by omega
    rw [this]
  rw [e]
  have := pick_run xs i k
  rw [List.filterMap_map] at this
  have e2 : ((fun x => xs[x]?) ∘ fun x => i + x) = fun m => xs[i + m]? := rfl
  rw [e2] at this
  rw [this]
theorem getItem_tuple_cut {t sl : Addr} {items : Array Value} {vl vu : Value} {lo hi : Option Int} {Q : Value → Shared → Prop} (ht : IsTup s.heap t items) (hs : s.heap.IsSliceOf sl vl vu .none) (pl : IsPart vl lo) (pu : IsPart vu hi)
    (hw : ¬ (sIx items.size 0 lo = 0 ∧ sIx items.size items.size hi = items.size))
    (h : Q (.ref s.heap.objs.size) { s with heap := s.heap.push { cls := .type "tuple", data := .seq ((items.toList.drop (sIx items.size 0 lo)).take (sIx items.size items.size hi - sIx items.size 0 lo)).toArray } })
    (hsz : items.size ≤ sizeLine) : wpAny (model prog w) A (getItem (.ref t) (.ref sl)) Q E s := by
  have htake : sizeOk (.seq ((items.toList.drop (sIx items.size 0 lo)).take (sIx items.size items.size hi - sIx items.size 0 lo)).toArray) := by
    show ((items.toList.drop (sIx items.size 0 lo)).take (sIx items.size items.size hi - sIx items.size 0 lo)).toArray.size ≤ sizeLine
    rw [List.size_toArray, List.length_take, List.length_drop, Array.length_toList]
    omega
  have hj : sIx items.size items.size hi ≤ items.size := sIx_le _ _ (Nat.le_refl _) hi
  obtain ⟨os, hos, hcs, hds⟩ := id hs
  have hTs : s.TypeIs (.ref sl) "slice" := ⟨os, hos, hcs⟩
  unfold getItem
  try with_reducible refine wpAny_holding ?_
  first | refine wpAny_bind (wpAny_pure ?_) | skip
  refine wpAny_bind (wpAny_sequenceKey ht.typeIs (by decide) ?_)
  refine wpAny_bind (wpAny_callSpecial?_slot (name := Str.ofString "__getitem__") ht.typeIs PyProof.Rows.slot_tuple_getitem
    (wpAny_call_entry PyProof.Rows.slot_tuple_getitem ht.typeIs entry_tuple_getitem ?_ (args_tuple_getitem _ _)))
  show wpAny _ _ (Builtin.Tuple.tupleItemsOf (.ref t) >>= _) _ _ s
  refine wpAny_bind (tupleItemsOf_ ht ?_)
  refine wpAny_bind (wpAny_typeOf hTs ?_)
  rw [if_pos (by decide)]
  refine wpAny_bind (sliceApplied_gen hs pl pu ?_)
  have hno : ¬ ((((sIx items.size 0 lo : Nat) : Int) == 0 && (1 : Int) == 1 && (sIx items.size items.size hi - sIx items.size 0 lo) == items.size) = true) := by
    intro q
    rw [Bool.and_eq_true, Bool.and_eq_true] at q
    have q1 : ((sIx items.size 0 lo : Nat) : Int) = 0 := eq_of_beq q.1.1
    have q2 : sIx items.size items.size hi - sIx items.size 0 lo = items.size := eq_of_beq q.2
    exact hw ⟨by omega, by omega⟩
  show wpAny _ _ (if (((sIx items.size 0 lo : Nat) : Int) == 0 && (1 : Int) == 1 && (sIx items.size items.size hi - sIx items.size 0 lo) == items.size) = true then _ else _) _ _ s
  rw [if_neg hno, pick_gen]
  first
    | exact wpAny_bind (m := Builtin.Tuple.tupleExact _) (wpAny_newObj_type (wpAny_pure ⟨_, rfl, wpAny_pure h⟩) htake)
    | exact wpAny_bind (m := Builtin.Tuple.tupleExact _) (wpAny_newObj_type (wpAny_bind (wpAny_pure (wpAny_pure ⟨_, rfl, wpAny_pure h⟩))) htake)
    | exact wpAny_bind (wpAny_bind (m := Builtin.Tuple.tupleExact _) (wpAny_newObj_type (wpAny_pure (wpAny_pure ⟨_, rfl, wpAny_pure h⟩)) htake))
    | exact wpAny_bind (wpAny_bind (m := Builtin.Tuple.tupleExact _) (wpAny_newObj_type (wpAny_pure ⟨_, rfl, wpAny_pure h⟩) htake))
end
end HT
namespace L2
open PySem PySem.Spec PyProof.Rows
abbrev TO := St → Hp → (Option Int → Hp → Prop) → Prop
def PO (X : Cx) (e : Option Expr) (t : TO) : Prop :=
  ∀ (pins : List (Addr × Obj)) (s : Shared) (σ : St) (H : Hp) (Q : Option Int → Hp → Prop), Inv X pins σ H s → t σ H Q →
    wpAny (model X.prog X.w) X.A (evalPart e X.env) (fun u s' => ∃ o H', Inv X pins σ H' s' ∧ IsPart u o ∧ Q o H') X.xe s
def tNoPart : TO := fun _ H Q => Q none H
def tPart (t : TE) : TO := fun σ H Q => t σ H fun x H1 => ∃ i, x = .int i ∧ Q (some i) H1
theorem intsAre_of {ns : List Int} : ∀ {us : List Value}, Vals (ns.map V.int) us → IntsAre us ns := by
  induction ns with
  | nil => intro us r; rw [List.map_nil] at r; cases r; exact .nil
  | cons n ns ih =>
    intro us r
    rw [List.map_cons] at r
    cases r with
    | cons r1 r2 =>
      obtain ⟨t, e⟩ := r1
      subst e
      exact .cons n t (ih r2)
section
variable {X : Cx} {e : Expr} {te : TE} {lo hi : Option Expr} {tl th : TO} {pos p2 : Pos}
theorem po_none : PO X none tNoPart := by
  intro pins s σ H Q I h
  rw [evalPart_none]
  exact wpAny_pure ⟨none, H, I, .none, h⟩
theorem po_some (h : PE X e te) : PO X (some e) (tPart te) := by
  intro pins s σ H Q I hw
  rw [evalPart_some]
  refine thn (h pins s σ H _ I hw) fun u s1 ⟨x, H1, I1, r1, q1⟩ => ?_
  obtain ⟨i, rfl, q⟩ := q1
  obtain ⟨t, rfl⟩ := r1
  exact ⟨some i, H1, I1, .int i t, q⟩
def SlR (X : Cx) (r : V → Option Int → Option Int → Hp → VK → Prop) : Prop :=
  ∀ (pins : List (Addr × Obj)) (s : Shared) (σ : St) (H : Hp) (x : V) (v vl vu : Value) (lo hi : Option Int) (sl : Addr) (Q : VK), Inv X pins σ H s → RelV x v → s.heap.IsSliceOf sl vl vu .none → IsPart vl lo → IsPart vu hi → r x lo hi H Q →
    ∃ T id, typeLookup (.type T) "__getitem__" = pure (some (.builtin id)) ∧ s.TypeIs v T ∧ wpAny (model X.prog X.w) X.A (getItem v (.ref sl)) (EP X pins σ Q) X.xe s
theorem SlR.or {r r' : V → Option Int → Option Int → Hp → VK → Prop} (h : SlR X r) (h' : SlR X r') : SlR X (fun x lo hi H Q => r x lo hi H Q ∨ r' x lo hi H Q) := by
  intro pins s σ H x v vl vu lo hi sl Q I rx hs pl pu q
  rcases q with q | q
  · exact h pins s σ H x v vl vu lo hi sl Q I rx hs pl pu q
  · exact h' pins s σ H x v vl vu lo hi sl Q I rx hs pl pu q
def tSl (r : V → Option Int → Option Int → Hp → VK → Prop) (te : TE) (tl th : TO) : TE := fun σ H Q => te σ H fun x H1 => tl σ H1 fun l H2 => th σ H2 fun u H3 => r x l u H3 Q
theorem pe_slice {r : V → Option Int → Option Int → Hp → VK → Prop} (hr : SlR X r) (he : PE X e te) (hl : PO X lo tl) (hu : PO X hi th) : PE X (.Subscript e (.Slice lo hi none p2) pos) (tSl r te tl th) := by
  intro pins s σ H Q I h
  refine Subscript_ (thn (he pins s σ H _ I h) fun v s1 ⟨x, H1, I1, r1, q1⟩ => ?_)
  refine wpAny_Slice (thn (hl pins s1 σ H1 _ I1 q1) fun vl s2 ⟨l, H2, I2, pl, q2⟩ => thn (hu pins s2 σ H2 _ I2 q2) fun vu s3 ⟨u, H3, I3, pu, q3⟩ => ?_)
  rw [evalPart_none]
  refine wpAny_pure ?_
  have I4 : Inv X pins σ H3 { s3 with heap := s3.heap.push { cls := .type "slice", data := .fields #[vl, vu, .none] } } := I3.kept (t' := s3.toks) fun b ob q => Heap.get?_push_of_some _ q
  obtain ⟨T, id, hT, ht, hg⟩ := hr pins { s3 with heap := s3.heap.push { cls := .type "slice", data := .fields #[vl, vu, .none] } } σ H3 x v vl vu l u s3.heap.objs.size Q I4 r1 (Heap.IsSliceOf.new ..) pl pu q3
  show wpAny (model X.prog X.w) X.A (subscriptTail e (.Slice lo hi none p2) v (.ref s3.heap.objs.size)) (EP X pins σ Q) X.xe { s3 with heap := s3.heap.push { cls := .type "slice", data := .fields #[vl, vu, .none] } }
  exact tail_any (ops := [.ref s3.heap.objs.size, v]) ht hT hg (by with_unfolding_all rfl)
def cutV (xs : List V) (lo hi : Option Int) : List V := (xs.drop (HT.sIx xs.length 0 lo)).take (HT.sIx xs.length xs.length hi - HT.sIx xs.length 0 lo)
theorem cutV_length (xs : List V) (lo hi : Option Int) : (cutV xs lo hi).length ≤ xs.length := by
  unfold cutV
  rw [List.length_take, List.length_drop]
  omega
def rSlT (K : PySem.W.Frag) : V → Option Int → Option Int → Hp → VK → Prop := fun x lo hi H Q => ∃ a xs, x = .ref a ∧ SqT K H a xs ∧
  ¬ (HT.sIx xs.length 0 lo = 0 ∧ HT.sIx xs.length xs.length hi = xs.length) ∧ ∀ p, H p = none → Q (.ref p) (upd H p (.tup (cutV xs lo hi)))
theorem sl_tup : SlR X (rSlT X.K) := by
  intro pins s σ H x v vl vu lo hi sl Q I rx hs pl pu h
  obtain ⟨a, xs, rfl, hx, hw, q⟩ := h
  cases rx
  obtain ⟨its, r, ht, hz⟩ := I.tuple hx
  have hlen : its.toArray.size = xs.length := by rw [List.size_toArray]; exact r.length.symm
  refine ⟨"tuple", _, PyProof.Rows.slot_tuple_getitem.lookup, ht.typeIs, ?_⟩
  refine HT.getItem_tuple_cut ht hs pl pu (by rw [hlen]; exact hw) ?_ (by rw [hlen]; exact hz)
  rw [hlen]
  refine ⟨.ref s.heap.objs.size, _, I.laid (t' := s.toks) (o := .tup (cutV xs lo hi)) (fun b ob q => Heap.get?_push_of_some _ q) (Nat.le_refl _) ?_, rfl, q _ (I.hok.fresh (Nat.le_refl _))⟩
  exact ⟨Nat.le_trans (cutV_length xs lo hi) hz, _, (r.drop (HT.sIx xs.length 0 lo)).take (HT.sIx xs.length xs.length hi - HT.sIx xs.length 0 lo), IsTup.new _ _⟩
def rCatT (K : PySem.W.Frag) : R2 := fun x y H Q => ∃ a b xs ys, x = .ref a ∧ y = .ref b ∧ SqT K H a xs ∧ SqT K H b ys ∧ xs ≠ [] ∧ xs.length + ys.length ≤ sizeLine ∧
  (ys = [] → Q (.ref a) H) ∧ (ys ≠ [] → ∀ p, H p = none → Q (.ref p) (upd H p (.tup (xs ++ ys))))
theorem Vals.nil_iff {xs : List V} {us : List Value} (r : Vals xs us) : us = [] ↔ xs = [] := by
  cases r with
  | nil => simp
  | cons _ _ => simp
theorem op_catT : OpR X (binaryOp .Add) (rCatT X.K) := by
  intro pins s σ H x y v u Q I rx ry h
  obtain ⟨a, b, xs, ys, rfl, rfl, ha, hb, hx, hz, q1, q2⟩ := h
  cases rx
  cases ry
  obtain ⟨its, r1, p1, _⟩ := I.tuple ha
  obtain ⟨its2, r2, p2, _⟩ := I.tuple hb
  refine HT.cat_tup p1 p2 (fun z => hx (r1.nil_iff.mp z)) (fun z => ⟨.ref a, H, I, rfl, q1 (r2.nil_iff.mp z)⟩) (fun z => ?_) (by rw [← r1.length, ← r2.length]; exact hz)
  refine ⟨.ref s.heap.objs.size, _, I.laid (t' := s.toks) (o := .tup (xs ++ ys)) (fun b ob q => Heap.get?_push_of_some _ q) (Nat.le_refl _) ?_, rfl, q2 (fun w => z (r2.nil_iff.mpr w)) _ (I.hok.fresh (Nat.le_refl _))⟩
  exact ⟨by rw [List.length_append]; exact hz, _, r1.append r2, IsTup.new _ _⟩
end
end L2
namespace L2
open PySem PySem.Spec PyProof.Rows
def ixN (n : Nat) (i : Int) : Option Nat := if 0 ≤ i then (if i < n then some i.toNat else none) else if -(n : Int) ≤ i then some (i + n).toNat else none
def atI {α : Type} (xs : List α) (i : Int) : Option α := (ixN xs.length i).bind fun j => xs[j]?
theorem ixN_seq {n : Nat} {i : Int} {j : Nat} (h : ixN n i = some j) : seqIndex? i n = some j ∧ j < n ∧ -(n : Int) ≤ i ∧ i < n := by
  unfold ixN at h
  by_cases h0 : 0 ≤ i
  · rw [if_pos h0] at h
    by_cases h1 : i < n
    · rw [if_pos h1] at h
      have e : i.toNat = j := Option.some.inj h
      exact ⟨by rw [seqIndex_of h0 h1, e], by omega, by omega, h1⟩
    · rw [if_neg h1] at h; cases h
  · rw [if_neg h0] at h
    by_cases h1 : -(n : Int) ≤ i
    · rw [if_pos h1] at h
      have e : (i + n).toNat = j := Option.some.inj h
      exact ⟨by rw [seqIndex_neg (by omega) h1, e], by omega, h1, by omega⟩
    · rw [if_neg h1] at h; cases h
theorem atI_get {α : Type} {xs : List α} {i : Int} {v : α} (h : atI xs i = some v) : ∃ j, seqIndex? i xs.length = some j ∧ xs[j]? = some v ∧ j < xs.length ∧ -(xs.length : Int) ≤ i ∧ i < xs.length := by
  unfold atI at h
  cases e : ixN xs.length i with
  | none => rw [e] at h; cases h
  | some j =>
    rw [e] at h
    obtain ⟨h1, h2, h3, h4⟩ := ixN_seq e
    exact ⟨j, h1, h, h2, h3, h4⟩
def PlainIx (b : Expr) : Prop := ∀ o i, subscripted b false o i = operate [o, i] (getItem o i)
def IxR (X : Cx) (r : R2) : Prop :=
  ∀ (value slice : Expr) (pins : List (Addr × Obj)) (s : Shared) (σ : St) (H : Hp) (x y : V) (v u : Value) (Q : VK), Inv X pins σ H s → RelV x v → RelV y u → r x y H Q →
    subscripted slice false v u = operate [v, u] (getItem v u) → wpAny (model X.prog X.w) X.A (subscriptTail value slice v u) (EP X pins σ Q) X.xe s
def MtR (X : Cx) (id : String) (r : V → List V → Hp → VK → Prop) : Prop :=
  ∀ (pins : List (Addr × Obj)) (s : Shared) (σ : St) (H : Hp) (x : V) (xs : List V) (v : Value) (us : List Value) (Q : VK), Inv X pins σ H s → RelV x v → Vals xs us → r x xs H Q →
    wpAny (model X.prog X.w) X.A (call (.builtin id) (v :: us)) (EP X pins σ Q) X.xe s
section
variable {X : Cx} {a b : Expr} {ta tb : TE} {pos : Pos}
theorem IxR.or {r r' : R2} (h : IxR X r) (h' : IxR X r') : IxR X (fun x y H Q => r x y H Q ∨ r' x y H Q) := by
  intro value slice pins s σ H x y v u Q I rx ry q hs
  rcases q with q | q
  · exact h value slice pins s σ H x y v u Q I rx ry q hs
  · exact h' value slice pins s σ H x y v u Q I rx ry q hs
theorem MtR.or {id : String} {r r' : V → List V → Hp → VK → Prop} (h : MtR X id r) (h' : MtR X id r') : MtR X id (fun x xs H Q => r x xs H Q ∨ r' x xs H Q) := by
  intro pins s σ H x xs v us Q I rx rs q
  rcases q with q | q
  · exact h pins s σ H x xs v us Q I rx rs q
  · exact h' pins s σ H x xs v us Q I rx rs q
theorem pe_ix {r : R2} (hr : IxR X r) (ha : PE X a ta) (hb : PE X b tb) (hs : PlainIx b) : PE X (.Subscript a b pos) (tOp r ta tb) := by
  intro pins s σ H Q I h
  exact Subscript_ (binT ha hb I h fun v u s2 x y H2 I2 rx ry q => hr a b pins s2 σ H2 x y v u Q I2 rx ry q (hs _ _))
def rIxL (K : PySem.W.Frag) : R2 := fun x y H Q => ∃ p xs i v, x = .ref p ∧ y = .int i ∧ SqL K H p xs ∧ atI xs i = some v ∧ Q v H
def rIxT (K : PySem.W.Frag) : R2 := fun x y H Q => ∃ p xs i v, x = .ref p ∧ y = .int i ∧ SqT K H p xs ∧ atI xs i = some v ∧ Q v H
def rIxS : R2 := fun x y H Q => ∃ z i c, x = .str z ∧ y = .int i ∧ z.length ≤ sizeLine ∧ atI z.cps.toList i = some c ∧ Q (.str ⟨#[c]⟩) H
theorem ix_list : IxR X (rIxL X.K) := by
  intro value slice pins s σ H x y v u Q I rx ry h hs
  obtain ⟨p, xs, i, z, rfl, rfl, hq, he, q⟩ := h
  cases rx
  obtain ⟨t, rfl⟩ := ry
  obtain ⟨its, r, pl, hz⟩ := I.list hq
  obtain ⟨j, h1, h2, h3, h4, h5⟩ := atI_get he
  obtain ⟨w, ew, rw'⟩ := r.get h2
  have hl := r.length
  have hn := line63
  have fin : EP X pins σ Q w s := ⟨z, H, I, rw', q⟩
  by_cases h0 : 0 ≤ i
  · have hj : i.toNat = j := by
      rw [seqIndex_of h0 h5] at h1
      exact Option.some.inj h1
    exact item_listR pl.isList h0 (by omega) (by rw [hj]; simpa using ew) fin hs
  · have hj : (i + (its.toArray.size : Int)).toNat = j := by
      rw [seqIndex_neg (by omega) h4] at h1
      rw [List.size_toArray, ← hl]
      exact Option.some.inj h1
    exact subscriptTail_builtinR (x := w) pl.isList.typeIs slot_list_getitem.lookup
      (wpAny_getItem_list_neg (Q := fun r s' => r = w ∧ EP X pins σ Q r s') pl.isList (by omega) (by rw [List.size_toArray] <;> omega) (by omega) (by rw [hj]; simpa using ew) ⟨rfl, fin⟩) hs
theorem ix_tup : IxR X (rIxT X.K) := by
  intro value slice pins s σ H x y v u Q I rx ry h hs
  obtain ⟨p, xs, i, z, rfl, rfl, hq, he, q⟩ := h
  cases rx
  obtain ⟨t, rfl⟩ := ry
  obtain ⟨its, r, pl, hz⟩ := I.tuple hq
  obtain ⟨j, h1, h2, h3, h4, h5⟩ := atI_get he
  obtain ⟨w, ew, rw'⟩ := r.get h2
  have hl := r.length
  have hn := line63
  have fin : EP X pins σ Q w s := ⟨z, H, I, rw', q⟩
  exact subscriptTail_builtinR (x := w) pl.typeIs slot_tuple_getitem.lookup
    (getItem_tuple (j := j) (Q := fun r s' => r = w ∧ EP X pins σ Q r s') pl (by omega) (by omega) (by rw [List.size_toArray, ← hl]; exact h1) (by simpa using ew) ⟨rfl, fin⟩) hs
theorem ix_str : IxR X rIxS := by
  intro value slice pins s σ H x y v u Q I rx ry h hs
  obtain ⟨z, i, c, rfl, rfl, hz, he, q⟩ := h
  obtain ⟨t, rfl⟩ := rx
  obtain ⟨t', rfl⟩ := ry
  obtain ⟨j, h1, h2, h3, h4, h5⟩ := atI_get he
  have hl : z.cps.toList.length = z.length := by simp [Str.length]
  rw [hl] at h1 h4 h5
  have hn := line63
  exact tail_any (typeIs_str s z t) slot_str_getitem.lookup (getItem_str (c := c) (by
    have e1 : decide (i < -(2 ^ 63 : Int)) = false := decide_eq_false (by omega)
    have e2 : decide (i ≥ 2 ^ 63) = false := decide_eq_false (by omega)
    rw [e1, e2, Bool.or_false]) (by rw [h1]; simpa using h2) ⟨.str ⟨#[c]⟩, H, I.tok _, ⟨_, rfl⟩, q⟩) hs
def rIx (K : PySem.W.Frag) : R2 := fun x y H Q => rIxL K x y H Q ∨ rIxT K x y H Q ∨ rIxS x y H Q
theorem ix_seq : IxR X (rIx X.K) := ix_list.or (ix_tup.or ix_str)
theorem mapSeq_set (its : List Value) (n j : Nat) (u : Value) : Obj.mapSeq (·.setIfInBounds j u) { cls := .type "list", data := .seq its.toArray n } = { cls := .type "list", data := .seq (its.set j u).toArray n } := by
  simp [Obj.mapSeq]
theorem Inv.lst {pins : List (Addr × Obj)} {σ : St} {H : Hp} {s : Shared} {p : Addr} {xs : List V} (I : Inv X pins σ H s) (h : H p = some (.lst xs)) :
    ∃ (its : List Value) (n : Nat), Vals xs its ∧ s.heap.get? p = some { cls := .type "list", data := .seq its.toArray n } ∧ xs.length ≤ sizeLine := by
  obtain ⟨z, its, n, r, e⟩ := I.hok p _ h
  exact ⟨its, n, r, e, z⟩
theorem Inv.lstUpd {pins : List (Addr × Obj)} {σ : St} {H : Hp} {s : Shared} {p : Addr} {xs ys : List V} {its its' : List Value} {n n' : Nat} {f : Obj → Obj} (I : Inv X pins σ H s) (h : H p = some (.lst xs))
    (ho : s.heap.get? p = some { cls := .type "list", data := .seq its.toArray n }) (hf : f { cls := .type "list", data := .seq its.toArray n } = { cls := .type "list", data := .seq its'.toArray n' }) (r : Vals ys its') (hz : ys.length ≤ sizeLine) (t : Nat) :
    Inv X pins σ (upd H p (.lst ys)) { s with heap := s.heap.update p f, toks := t } := by
  have e : (s.heap.update p f).get? p = some { cls := .type "list", data := .seq its'.toArray n' } := by
    rw [Heap.get?_update_self f ho (by rw [hf] <;> rfl), hf]
  refine I.write (x := p) (e := p) (by rw [h]; trivial) (.inl rfl) (fun b u hb q => (Heap.get?_update_other _ _ (Ne.symm hb)).trans q) ⟨_, e⟩ ?_
  exact ⟨hz, its', n', r, e⟩
def rSetL : V → V → V → Hp → (Hp → Prop) → Prop := fun o i v H Q => ∃ p xs k j, o = .ref p ∧ i = .int k ∧ H p = some (.lst xs) ∧ ixN xs.length k = some j ∧ Q (upd H p (.lst (xs.set j v)))
theorem set_list : PSet X rSetL := by
  intro pins s σ H o i v ov iv u Q I ro ri rv h
  obtain ⟨p, xs, k, j, rfl, rfl, hp, hj, q⟩ := h
  cases ro
  obtain ⟨t, rfl⟩ := ri
  obtain ⟨its, n, r, ho, hz⟩ := I.lst hp
  obtain ⟨h1, h2, h3, h4⟩ := ixN_seq hj
  have hl := r.length
  have hn := line63
  have I' : Inv X pins σ (upd H p (.lst (xs.set j v))) { s with heap := s.heap.update p (Obj.mapSeq (·.setIfInBounds j u)) } :=
    I.lstUpd hp ho (mapSeq_set its n j u) (r.set rv j) (by rw [List.length_set]; exact hz) s.toks
  by_cases h0 : 0 ≤ k
  · have hk : k.toNat = j := by
      rw [seqIndex_of h0 h4] at h1
      exact Option.some.inj h1
    exact PySem.W.ki_setAt ho h0 (by omega) (by rw [List.size_toArray, ← hl]; exact h4) (by rw [hk]; exact ⟨_, I', q⟩)
  · have hk : (k + (its.toArray.size : Int)).toNat = j := by
      rw [seqIndex_neg (by omega) h3] at h1
      rw [List.size_toArray, ← hl]
      exact Option.some.inj h1
    exact PySem.W.ki_setBack ho (by omega) (by rw [List.size_toArray, ← hl]; exact h3) (by omega) (by rw [hk]; exact ⟨_, I', q⟩)
theorem slice_bounds (lo hi : Option Int) (n : Nat) : (sliceBounds lo hi none n).1 = ((HT.sIx n 0 lo : Nat) : Int) ∧ (sliceBounds lo hi none n).2.1 = ((HT.sIx n n hi : Nat) : Int) ∧ (sliceBounds lo hi none n).2.2 = 1 := by
  refine ⟨?_, ?_, rfl⟩
  · cases lo with
    | none => simp [sliceBounds, HT.sIx]
    | some i =>
      simp only [sliceBounds, HT.sIx, Option.getD_none, show (1 : Int) > 0 by decide, if_true]
      by_cases h : i < 0
      · simp only [h, if_true] <;> omega
      · simp only [h, if_false] <;> omega
  · cases hi with
    | none => simp [sliceBounds, HT.sIx]
    | some i =>
      simp only [sliceBounds, HT.sIx, Option.getD_none, show (1 : Int) > 0 by decide, if_true]
      by_cases h : i < 0
      · simp only [h, if_true] <;> omega
      · simp only [h, if_false] <;> omega
theorem slicePick_cut (its : List Value) (lo hi : Option Int) : slicePick its.toArray lo hi none = ((its.drop (HT.sIx its.length 0 lo)).take (HT.sIx its.length its.length hi - HT.sIx its.length 0 lo)).toArray := by
  obtain ⟨h1, h2, h3⟩ := slice_bounds lo hi its.toArray.size
  unfold slicePick
  rw [h1, h2, h3]
  simp only [sliceRange_one, pick_run, List.size_toArray] <;> rfl
def rSlL (K : PySem.W.Frag) : V → Option Int → Option Int → Hp → VK → Prop := fun x lo hi H Q => ∃ a xs, x = .ref a ∧ SqL K H a xs ∧ ∀ p, H p = none → Q (.ref p) (upd H p (.lst (cutV xs lo hi)))
theorem sl_list : SlR X (rSlL X.K) := by
  intro pins s σ H x v vl vu lo hi sl Q I rx hs pl pu h
  obtain ⟨a, xs, rfl, hx, q⟩ := h
  cases rx
  obtain ⟨its, r, ht, hz⟩ := I.list hx
  have hlen := r.length
  refine ⟨"list", _, slot_list_getitem.lookup, ht.isList.typeIs, ?_⟩
  refine wpAny_getItem_list_slice ht.isList hs pl pu .none (by simp) ?_ (by rw [List.size_toArray] <;> omega)
  rw [slicePick_cut, ← hlen]
  refine ⟨.ref s.heap.objs.size, _, I.laid (t' := s.toks) (o := .lst (cutV xs lo hi)) (fun b ob q => Heap.get?_push_of_some _ q) (Nat.le_refl _) ?_, rfl, q _ (I.hok.fresh (Nat.le_refl _))⟩
  exact ⟨Nat.le_trans (cutV_length xs lo hi) hz, _, 0, (r.drop (HT.sIx xs.length 0 lo)).take (HT.sIx xs.length xs.length hi - HT.sIx xs.length 0 lo), Heap.get?_push_size _ rfl⟩
theorem CallR.or {f : Value} {r r' : List V → Hp → VK → Prop} (h : CallR X f r) (h' : CallR X f r') : CallR X f (fun xs H Q => r xs H Q ∨ r' xs H Q) := by
  intro pins s σ H xs us Q I rs q
  rcases q with q | q
  · exact h pins s σ H xs us Q I rs q
  · exact h' pins s σ H xs us Q I rs q
theorem call_tuple_of : CallR X (.type "tuple") (fun xs H Q => ∃ p ys, xs = [.ref p] ∧ ((SqL X.K H p ys ∧ ∀ l, H l = none → Q (.ref l) (upd H l (.tup ys))) ∨ (SqT X.K H p ys ∧ Q (.ref p) H))) := by
  intro pins s σ H xs us Q I r h
  obtain ⟨p, ys, rfl, h⟩ := h
  obtain ⟨u, rfl, rx⟩ := vals1 r
  cases rx
  rcases h with ⟨hq, q⟩ | ⟨hq, q⟩
  · obtain ⟨its, r', pl, hz⟩ := I.list hq
    have hlen := r'.length
    refine call_tuple_list pl.isList (fun h' kp => ?_) (by simp only [List.size_toArray] <;> omega)
    have I1 : Inv X pins σ H { s with heap := h' } := I.kept (t' := s.toks) kp
    have I2 : Inv X pins σ (upd H h'.objs.size (.tup ys)) { s with heap := h'.push { cls := .type "tuple", data := .seq its.toArray } } :=
      I1.laid (t' := s.toks) (fun b o e => Heap.get?_push_of_some _ e) (Nat.le_refl _) (show ObjOk X.prog X.w _ _ _ (.tup ys) from ⟨hz, its, r', IsTup.new _ _⟩)
    exact ⟨.ref h'.objs.size, _, I2, rfl, q _ (I1.hok.fresh (Nat.le_refl _))⟩
  · obtain ⟨its, r', pl, hz⟩ := I.tuple hq
    exact call_tuple_same pl ⟨.ref p, H, I, rfl, q⟩
def tyV (K : PySem.W.Frag) (T : String) (x : V) (H : Hp) : Prop := match x with
  | .str _ => T = "str"
  | .int _ => T = "int"
  | .ref p => (T = "list" ∧ ∃ xs, SqL K H p xs) ∨ (T = "tuple" ∧ ∃ o, K.lookup p = some o ∧ o.cls = .type "tuple" ∧ o.dict = none) ∨
      (T = "dict" ∧ ((∃ kvs, H p = some (.dK kvs)) ∨ ∃ kvs, H p = some (.dT kvs))) ∨ (T = "set" ∧ ∃ S n, H p = some (.set S n))
  | _ => False
theorem tyV_is {pins : List (Addr × Obj)} {σ : St} {H : Hp} {s : Shared} {T : String} {x : V} {v : Value} (I : Inv X pins σ H s) (r : RelV x v) (ty : tyV X.K T x H) :
    s.TypeIs v T ∧ ∀ a, v = .ref a → ∃ ob, s.heap.get? a = some ob ∧ ob.dict = none := by
  cases x with
  | str z =>
    obtain ⟨t, rfl⟩ := r
    cases (show T = "str" from ty)
    exact ⟨typeIs_str s z t, fun _ e => nomatch e⟩
  | int i =>
    obtain ⟨t, rfl⟩ := r
    cases (show T = "int" from ty)
    exact ⟨typeIs_int s i t, fun _ e => nomatch e⟩
  | ref p =>
    cases r
    rcases ty with ⟨rfl, xs, hq⟩ | ⟨rfl, o, hk, hc, hd⟩ | ⟨rfl, hk⟩ | ⟨rfl, S, n, hk⟩
    · obtain ⟨its, _, pl, _⟩ := I.list hq
      refine ⟨pl.isList.typeIs, fun a e => ?_⟩
      cases e
      obtain ⟨o, n, e, c, hd, _⟩ := pl
      exact ⟨o, e, hd⟩
    · refine ⟨⟨o, I.kIn p o hk, hc⟩, fun a e => ?_⟩
      cases e
      exact ⟨o, I.kIn _ o hk, hd⟩
    · have z : ∃ o, s.heap.get? p = some o ∧ o.ExactDict := by
        rcases hk with ⟨kvs, hk⟩ | ⟨kvs, hk⟩
        · obtain ⟨_, _, _, _, o, _, _, e, ex, _⟩ := I.hok p _ hk
          exact ⟨o, e, ex⟩
        · obtain ⟨_, _, _, _, o, _, _, e, ex, _⟩ := I.hok p _ hk
          exact ⟨o, e, ex⟩
      obtain ⟨o, e, ex⟩ := z
      refine ⟨⟨o, e, ex.1⟩, fun a e2 => ?_⟩
      cases e2
      exact ⟨o, e, ex.2.1⟩
    · obtain ⟨o, _, _, _, e, ex, _⟩ := I.hok p _ hk
      refine ⟨⟨o, e, ex.1⟩, fun a e2 => ?_⟩
      cases e2
      exact ⟨o, e, ex.2.1⟩
  | _ => exact False.elim ty
def tBM (K : PySem.W.Frag) (T : String) (r : V → List V → Hp → VK → Prop) (to : TE) (t : TA) : TE := fun σ H Q => to σ H fun x H1 => tyV K T x H1 ∧ t σ H1 fun xs H2 => r x xs H2 Q
variable {o e : Expr} {es : List Expr} {to : TE} {t : TA} {name : Str} {apos cpos : Pos} {T id : String} {r : V → List V → Hp → VK → Prop}
theorem pe_bm (pa : PlainAttrs T) (slot : Slot T name id) (hty : typeOf (.builtin id) = pure (.type "method_descriptor")) (hm : MtR X id r) (ho : PE X o to) (ha : PA X (e :: es) t)
    (hbase : attributeBase o name X.env (eval o X.env) = eval o X.env := by rfl)
    (hfew : ((backTo cpos (starEach (e :: es) X.env)).all (fun x => !x.1) && (backToKw cpos (keywordEach [] X.env)).all (fun x => x.1.isSome)
      && decide ((e :: es).length + ([] : List Keyword).length + (if ([] : List Keyword).isEmpty then 0 else 1) < 30)) = true := by rfl)
    (hline : (apos.endLine == cpos.line) = true := by rfl) (hs : starEach (e :: es) X.env = (false, eval e X.env) :: starEach es X.env := by rfl) (hplain : (backTo cpos (starEach es X.env)).any (·.1) = false := by rfl) :
    PE X (.Call (.Attribute o name apos) (e :: es) [] cpos) (tBM X.K T r to t) := by
  intro pins s σ H Q I h
  refine wpAny_Call_method_late hbase hfew hline rfl (thn (ho pins s σ H _ I h) fun v s1 ⟨x, H1, I1, r1, ty, q1⟩ => ?_)
  obtain ⟨h1, h2⟩ := tyV_is I1 r1 ty
  refine ⟨T, id, pa, slot, hty, h1, h2, ?_⟩
  have hA := ha cpos pins s1 σ H1 _ I1 q1
  rw [hs] at hA ⊢
  refine Calls.callWith_builtin (by show (false || (backTo cpos (starEach es X.env)).any (·.1)) = false; rw [hplain] <;> rfl) (Calls.evalArgs_plain ?_)
  exact thn hA fun us s2 ⟨vs, H2, I2, r2, q2⟩ => hm pins s2 σ H2 x vs v us Q I2 r1 r2 q2
end
end L2
namespace L2
open PySem PySem.Spec PyProof.Rows
def MtM (X : Cx) (id : String) (r : V → List V → Hp → VK → Prop) : Prop :=
  ∀ (pins : List (Addr × Obj)) (s : Shared) (σ : St) (H : Hp) (x : V) (xs : List V) (v : Value) (us : List Value) (Q : VK), Inv X pins σ H s → RelV x v → Vals xs us → r x xs H Q →
    wpAny (model X.prog X.w) X.A (call (.builtin id) (v :: us)) (EP X pins σ Q) X.xe s
theorem Vals.one : ∀ {x : V} {us : List Value}, Vals [x] us → ∃ u, us = [u] ∧ RelV x u
  | _, _, .cons r .nil => ⟨_, rfl, r⟩
theorem Vals.two : ∀ {x y : V} {us : List Value}, Vals [x, y] us → ∃ u v, us = [u, v] ∧ RelV x u ∧ RelV y v
  | _, _, _, .cons r (.cons q .nil) => ⟨_, _, rfl, r, q⟩
theorem Vals.zero : ∀ {us : List Value}, Vals [] us → us = []
  | _, .nil => rfl
theorem Vals.dropLast {xs : List V} {us : List Value} (h : Vals xs us) : Vals xs.dropLast us.dropLast := by
  induction h with
  | nil => exact .nil
  | cons r t ih =>
    cases t with
    | nil => exact .nil
    | cons q t' => exact .cons r ih
theorem Vals.eraseIdx : ∀ {xs : List V} {us : List Value} (i : Nat), Vals xs us → Vals (xs.eraseIdx i) (us.eraseIdx i)
  | _, _, _, .nil => .nil
  | _, _, 0, .cons _ t => t
  | _, _, i + 1, .cons r t => .cons r (Vals.eraseIdx i t)
theorem Vals.reverse {xs : List V} {us : List Value} (h : Vals xs us) : Vals xs.reverse us.reverse := by
  induction h with
  | nil => exact .nil
  | cons r t ih => rw [List.reverse_cons, List.reverse_cons]; exact Vals.append ih (.cons r .nil)
theorem Vals.rep {xs : List V} {us : List Value} (h : Vals xs us) : ∀ k : Nat, Vals (List.replicate k xs).flatten (List.replicate k us).flatten
  | 0 => .nil
  | k + 1 => by
    rw [List.replicate_succ, List.replicate_succ, List.flatten_cons, List.flatten_cons]
    exact Vals.append h (Vals.rep h k)
theorem len_erase {α : Type} : ∀ (l : List α) (i : Nat), (l.eraseIdx i).length ≤ l.length
  | [], _ => Nat.le_refl _
  | _ :: _, 0 => Nat.le_succ _
  | _ :: r, i + 1 => Nat.succ_le_succ (len_erase r i)
theorem foldl_rep (its : List Value) : ∀ (k : Nat) (acc : List Value),
    List.foldl (fun x1 x2 => x1 ++ x2) acc.toArray (List.replicate k its.toArray) = (acc ++ (List.replicate k its).flatten).toArray
  | 0, acc => by simp
  | k + 1, acc => by
    have e : acc.toArray ++ its.toArray = (acc ++ its).toArray := by simp
    have e2 : (acc ++ its) ++ (List.replicate k its).flatten = acc ++ (List.replicate (k + 1) its).flatten := by
      rw [List.replicate_succ, List.flatten_cons, List.append_assoc]
    rw [← e2, ← foldl_rep its k (acc ++ its), ← e, List.replicate_succ, List.foldl_cons]
section
variable {X : Cx} {pins : List (Addr × Obj)} {σ : St} {H : Hp} {s : Shared} {l b : Addr} {xs ys zs : List V}
theorem Inv.lset {its its' : List Value} {n : Nat} {f : Array Value → Array Value} {t' : Nat} (I : Inv X pins σ H s) (hH : H l = some (.lst xs))
    (e : s.heap.get? l = some { cls := .type "list", data := .seq its.toArray n }) (hf : f its.toArray = its'.toArray) (hv : Vals ys its') (hz : ys.length ≤ sizeLine) :
    Inv X pins σ (upd H l (.lst ys)) { s with heap := s.heap.update l (Obj.mapSeq f), toks := t' } := by
  have q := PySem.IsL.update e f
  rw [hf] at q
  refine I.write (x := l) (e := l) (by rw [hH]; exact trivial) (.inl rfl) (fun b' u hb hu => (Heap.get?_update_other s.heap (Obj.mapSeq f) (Ne.symm hb)).trans hu) ⟨_, q⟩ ?_
  exact ⟨hz, its', _, hv, q⟩
theorem Inv.lnew {its : List Value} {t' : Nat} (I : Inv X pins σ H s) (hv : Vals ys its) (hz : ys.length ≤ sizeLine) :
    Inv X pins σ (upd H s.heap.objs.size (.lst ys)) { s with heap := s.heap.push { cls := .type "list", data := .seq its.toArray }, toks := t' } :=
  I.laid (fun _ _ q => Heap.get?_push_of_some _ q) (Nat.le_refl _) ⟨hz, its, 0, hv, Heap.get?_push_size _ rfl⟩
theorem Inv.fresh (I : Inv X pins σ H s) : H s.heap.objs.size = none := I.hok.fresh (Nat.le_refl _)
theorem Inv.lstM (I : Inv X pins σ H s) (hH : H l = some (.lst xs)) : xs.length ≤ sizeLine ∧ ∃ (its : List Value) (n : Nat), Vals xs its ∧ xs.length = its.length ∧ s.heap.get? l = some { cls := .type "list", data := .seq its.toArray n } := by
  obtain ⟨z, its, n, r, e⟩ := I.hok l _ hH
  exact ⟨z, its, n, r, r.length, e⟩
theorem notLongL {n : Nat} (h : n ≤ sizeLine) : Builtin.List.listTooLong n = false := by
  unfold Builtin.List.listTooLong
  exact decide_eq_false (by omega)
end
section
variable {X : Cx}
def rAppend : V → List V → Hp → VK → Prop := fun x vs H Q => ∃ l xs y, x = .ref l ∧ vs = [y] ∧ H l = some (.lst xs) ∧ xs.length < sizeLine ∧ Q .non (upd H l (.lst (xs ++ [y])))
theorem mt_append : MtM X "list.append" rAppend := by
  intro pins s σ H x vs v us Q I rx rv h
  obtain ⟨l, xs, y, rfl, rfl, hH, hz, q⟩ := h
  cases rx
  obtain ⟨u, rfl, ru⟩ := rv.one
  obtain ⟨z, its, n, r, hl, e⟩ := I.lstM hH
  refine call_meets F.slot_list_append ⟨_, e, rfl⟩ F.entry_list_append (F.args_list_append_2 _ _) (PySem.list_append l its.toArray n u (by rw [List.size_toArray]; omega)) ⟨e, ?_⟩
  refine ⟨.non, _, I.lset (its' := its ++ [u]) hH e (by simp) (r.append (.cons ru .nil)) ?_, rfl, q⟩
  rw [List.length_append, List.length_singleton]
  omega
def rPopAt : V → List V → Hp → VK → Prop := fun x vs H Q => ∃ l xs i k y, x = .ref l ∧ vs = [.int i] ∧ H l = some (.lst xs) ∧ -(2 ^ 63) ≤ i ∧ i < 2 ^ 63 ∧ seqIndex? i xs.length = some k ∧ xs[k]? = some y ∧ Q y (upd H l (.lst (xs.eraseIdx k)))
theorem mt_popAt : MtM X "list.pop" rPopAt := by
  intro pins s σ H x vs v us Q I rx rv h
  obtain ⟨l, xs, i, k, y, rfl, rfl, hH, h1, h2, hk, hy, q⟩ := h
  cases rx
  obtain ⟨u, rfl, ru⟩ := rv.one
  obtain ⟨t, rfl⟩ := ru
  obtain ⟨z, its, n, r, hl, e⟩ := I.lstM hH
  obtain ⟨w, hw, rw'⟩ := r.get hy
  refine call_meets F.slot_list_pop ⟨_, e, rfl⟩ F.entry_list_pop (F.args_list_pop_2 _ _)
    (MeetsSeq.list_pop_at l its.toArray n i t k w (fitsIndex_both h1 h2) (by rw [List.size_toArray, ← hl]; exact hk) (by rw [← Array.getElem?_toList]; exact hw) (by rw [List.size_toArray]; omega)) ⟨e, ?_⟩
  refine ⟨y, _, I.lset (its' := its.eraseIdx k) hH e ?_ (r.eraseIdx k) ?_, rw', q⟩
  · show its.toArray.eraseIdxIfInBounds k = (its.eraseIdx k).toArray
    rw [List.eraseIdxIfInBounds_toArray]
  · have := len_erase xs k
    omega
def rCat : R2 := fun x y H Q => ∃ l b xs zs, x = .ref l ∧ y = .ref b ∧ H l = some (.lst xs) ∧ H b = some (.lst zs) ∧ xs.length + zs.length ≤ sizeLine ∧ ∀ p, H p = none → Q (.ref p) (upd H p (.lst (xs ++ zs)))
theorem op_cat : OpR X (binaryOp .Add) rCat := by
  intro pins s σ H x y v u Q I rx ry h
  obtain ⟨l, b, xs, zs, rfl, rfl, hH, hB, hz, q⟩ := h
  cases rx
  cases ry
  obtain ⟨z, its, n, r, hl, e⟩ := I.lstM hH
  obtain ⟨z2, its2, n2, r2, hl2, e2⟩ := I.lstM hB
  refine PySem.P.add_list e e2 ?_ (by rw [List.size_toArray, List.size_toArray]; omega)
  have ea : its.toArray ++ its2.toArray = (its ++ its2).toArray := by simp
  rw [ea]
  exact ⟨.ref _, _, I.lnew (t' := s.toks) (r.append r2) (by rw [List.length_append]; omega), rfl, q _ I.fresh⟩
def rRep : R2 := fun x y H Q => ∃ l k xs, x = .ref l ∧ y = .int k ∧ H l = some (.lst xs) ∧ -(2 ^ 63) ≤ k ∧ k < 2 ^ 63 ∧ xs.length * k.toNat ≤ sizeLine ∧
  ∀ p, H p = none → Q (.ref p) (upd H p (.lst (List.replicate k.toNat xs).flatten))
theorem len_rep {α : Type} (xs : List α) (k : Nat) : (List.replicate k xs).flatten.length = k * xs.length := by
  induction k with
  | zero => simp
  | succ k ih => rw [List.replicate_succ, List.flatten_cons, List.length_append, ih, Nat.succ_mul, Nat.add_comm]
theorem op_rep : OpR X (binaryOp .Mult) rRep := by
  intro pins s σ H x y v u Q I rx ry h
  obtain ⟨l, k, xs, rfl, rfl, hH, h1, h2, hz, q⟩ := h
  cases rx
  obtain ⟨t, rfl⟩ := ry
  obtain ⟨z, its, n, r, hl, e⟩ := I.lstM hH
  have hlen : its.toArray.size * k.toNat ≤ sizeLine := by rw [List.size_toArray, ← hl]; exact hz
  have hcap : ¬ its.toArray.size * k.toNat > (2 ^ 63 - 1) / 8 := by
    have : (sizeLine : Nat) ≤ (2 ^ 63 - 1) / 8 := by decide
    omega
  have hfit : ¬ (!Builtin.List.listFitsIndex k) = true := by
    rw [fitsIndex_both h1 h2]
    exact Bool.false_ne_true
  have hlong : ¬ Builtin.List.listTooLong (its.toArray.size * k.toNat) = true := by
    rw [notLongL hlen]
    exact Bool.false_ne_true
  have hnew : List.foldl (fun x1 x2 => x1 ++ x2) #[] (List.replicate (if its.toArray.isEmpty = true then 0 else k.toNat) its.toArray) = (List.replicate k.toNat its).flatten.toArray := by
    have f0 : ∀ m : Nat, List.foldl (fun x1 x2 => x1 ++ x2) #[] (List.replicate m its.toArray) = (List.replicate m its).flatten.toArray := fun m => by
      have := foldl_rep its m []
      rw [List.nil_append] at this
      exact this
    rw [f0]
    cases its with
    | nil => simp
    | cons a r' => rw [if_neg (by simp)]
  refine wpAny_binaryOp_repeat_ref (T := "list") (U := "int") (by decide) ⟨_, e, rfl⟩ (fun s' => typeIs_int s' k t) noFill_list_mul F.fills_int_mul F.slot_int_rmul repeat_list F.slot_int_index.lookup
    (call_meets F.slot_int_rmul (typeIs_int s k t) F.entry_int_rmul (F.args_int_rmul_2 _ _) (int___rmul___int_list k t l its.toArray n)
      ⟨e, rfl, ⟨_, e, rfl⟩, call_meets F.slot_list_mul ⟨_, e, rfl⟩ F.entry_list_mul (F.args_list_mul_2 _ _) (AutoListH.list___mul___list_int_3 l its.toArray n k t hfit hcap hlong) ⟨e, ?_⟩⟩)
  rw [hnew]
  exact ⟨.ref _, _, I.lnew (t' := s.toks) (r.rep k.toNat) (by rw [len_rep, Nat.mul_comm]; exact hz), rfl, q _ I.fresh⟩
end
section
variable {prog : Program} {w : World} {A : Around} {E : Value → Shared → Prop} {s : Shared}
end
section
variable {X : Cx}
end
end L2
namespace Att
open PySem PySem.W PySem.Calls PyProof.Rows
theorem ints_of_wellAll {P : Params} {h : Heap} : ∀ (ns : List Int) (vs : List Value), WellAll P h vs (ns.map WData.int) → IntsAre vs ns := by
  intro ns
  induction ns with
  | nil =>
    intro vs w
    rw [List.map_nil] at w
    cases w
    exact .nil
  | cons n ns ih =>
    intro vs w
    rw [List.map_cons] at w
    cases w with
    | cons a b =>
      cases a
      exact .cons _ _ (ih _ b)
theorem script_of {l : OpenLaw} {n : Nat} (hn : l.most = some n) {P : Params} {h : Heap} {args : List WData} {vals : List Value}
    (hpre : l.row.toRowW.claim.pre args = true) (hwl : WellAll P h vals args) :
    ∃ a vs ns, vals = [Value.ref a] ∧ args = [WData.list (ns.map WData.int)] ∧ h.get? a = some { cls := .type "list", data := .seq vs.toArray } ∧ IntsAre vs ns ∧ ns.length ≤ n := by
  have hsh : WShape.hasAll [] args [.list .int] = true := (pre_splitW hpre).1
  have hc : l.pre.holds [] { args := args } = true := (pre_splitW hpre).2
  obtain ⟨d, r, rfl, h1, h2⟩ := hasAllW_cons hsh
  obtain rfl := hasAllW_nil h2
  obtain ⟨xs, rfl, h3⟩ := hasW_list h1
  obtain ⟨ns, rfl⟩ := items_int h3
  have hlen : ns.length ≤ n := by
    unfold OpenLaw.pre at hc
    have h4 : (WTm.not (.lt (.lit (.int (n : Int))) (.len (.arg 0)))).holds [] { args := [.list (ns.map .int)] } = true := by
      have h4 := (holds_andW hc).1
      rw [hn] at h4
      exact h4
    have h5 := condW_of h4 (w_not (w_lt w_lit (w_len_list (w_arg rfl))))
    rw [List.length_map] at h5
    refine Nat.le_of_not_lt fun q => ?_
    have q' : (n : Int) < ((ns.length : Nat) : Int) := by omega
    first
      | (rw [decide_eq_true q'] at h5; exact absurd h5 (by decide))
      | (simp at h5; omega)
  cases hwl with
  | cons w1 w2 =>
    cases w2
    cases w1 with
    | list ho hall => exact ⟨_, _, ns, rfl, rfl, ho, ints_of_wellAll ns _ hall, hlen⟩
theorem post_true (l : OpenLaw) (args : List WData) : l.row.toRowW.claim.post args (.bool true) args = true :=
  postW_of (r := l.row.toRowW) (X := (true == true))
    (show WShape.has [] (.bool true) .bool = true by first | rfl | decide | simp [WShape.has, WShape.arms, WShape.armsAll])
    (show (WTm.eq .res (.lit (.bool true))).value [] { args := args, res := some (.bool true), after := args } = some (.bool (true == true)) from w_eq_bool (w_res rfl) w_lit) rfl
theorem attach_call {l : OpenLaw} {n : Nat} {q : Program} {loose : List Str} {XP : (Str → Option Value) → Heap → Prop} {YP : World → Heap → Prop} {d : DefRec}
    (hn : l.most = some n) (hdf : d.params.defaults = [])
    (call : ∀ (w : World) (s₀ s₁ : Shared) (mg mb : Str → Option Value) (fa : Addr) (o : Obj) (pm cd doc : Value) (a : Addr) (vs : List Value) (ns : List Int),
      Ground q loose [] XP w s₀ mg mb s₁.heap → YP w s₁.heap →
      s₁.heap.get? fa = some o → o.data = .func (docDef d.name d.params d.body d.scope pm cd doc) → s₁.heap.CodeRec cd d.name → mg d.name = some (.ref fa) →
      s₁.heap.get? a = some { cls := .type "list", data := .seq vs.toArray } → IntsAre vs ns → ns.length ≤ n → s₁.gens = #[] →
      codeAny (model l.prog w) callerA (.call (.ref fa) ⟨[.ref a], []⟩) (fun r s' => r = .ok (.ret (.bool true)) ∧ OldK s₁.heap s'.heap ∧ s'.os = s₁.os ∧ AllBare s'.gens) s₁) :
    WalkO q loose XP YP l.row.toRowW d [] (fun f vs => PySem.call f vs) := by
  intro w s₀ s₁ mg mb G Y fa o pm cd doc dV kV ho hd hcd hD hmg hg args vals as hpre hlay hrd hwl hlo
  obtain rfl : dV = .none := Dflts.none hD hdf
  obtain rfl : kV = .none := Dflts.noKw hD
  obtain ⟨a, vs, ns, rfl, rfl, hobj, hints, hlen⟩ := script_of hn hpre hwl
  refine enter_call (codeAny_mono (call w s₀ s₁ mg mb fa o pm cd doc a vs ns G Y ho (fd_plain hd) hcd hmg hobj hints hlen hg) fun r s' hq => ?_)
  obtain ⟨rfl, h2, h3, h4⟩ := hq
  exact ⟨.inl ⟨.bool true, .bool true, [], rfl, fun _ => rfl, .bool true, post_true l _, fun _ => ⟨List.Pairwise.nil, fun _ hm => (nomatch hm)⟩⟩, h2, h3, h4⟩
section
variable {prog : Program} {w : World} {A : Around} {E : Value → Shared → Prop} {s : Shared} {K : Frag}
end
end Att
namespace L2
open PySem PySem.Spec PyProof.Rows
theorem vals_ints : ∀ {vs : List Value} {ns : List Int}, IntsAre vs ns → Vals (ns.map V.int) vs
  | _, _, .nil => .nil
  | _, _, .cons n t h => .cons ⟨t, rfl⟩ (vals_ints h)
def Only (H : Hp) : Prop := ∀ b, H b = none ∨ ∃ o xs, H b = some (.frz o (.lst xs))
theorem law_call {P : Program} {w : World} {K : PySem.W.Frag} {mg mb : Str → Option Value} {CX : CXT} {k : Nat} {fa a : Addr} {fd : FuncData} {x : Str} {sp : Sp} {s₁ : Shared} {vs : List Value} {ns : List Int}
    (KX : K.In s₁.heap) (hns : s₁.heap.Ns mainGlobals mg) (hb : s₁.heap.Ns builtinsNs mb) (hbb : ∀ x : Str, x ≠ "__name__" → mb x = bootBuiltins x) (hlim : s₁.heap.NoLimit) (hg : s₁.gens = #[])
    (ha : s₁.heap.get? a = some { cls := .type "list", data := .seq vs.toArray }) (hi : IntsAre vs ns) (hl : ns.length ≤ sizeLine) (hr : Room k callerA)
    (F : ∀ base : Heap, K.In base → base.Ns mainGlobals mg → FnOk P w K mg base CX k fa fd [x] sp) (hbind : ∀ (s : Shared) (u : Value), BindsTo s fd ⟨[u], []⟩ [(x, u)])
    (hsp : ∀ H : Hp, Only H → SqL K H a (ns.map V.int) → sp [.ref a] H (fun v _ => v = .bl true) fun _ _ _ => False)
    (hCX : ∀ H e s', CX [] H s₁ (fun _ _ _ => False) e s' → False) :
    codeAny (model P w) callerA (.call (.ref fa) ⟨[.ref a], []⟩) (fun r s' => r = .ok (.ret (.bool true)) ∧ OldK s₁.heap s'.heap ∧ s'.os = s₁.os ∧ AllBare s'.gens) s₁ := by
  have rv := vals_ints hi
  have lenV := hi.length
  have core : ∀ H : Hp, Only H → SqL K H a (ns.map V.int) → HOk P w H s₁.heap → (∀ b, H b ≠ none → b = a) → (H a ≠ none → K.lookup a = none) →
      codeAny (model P w) callerA (.call (.ref fa) ⟨[.ref a], []⟩) (fun r s' => r = .ok (.ret (.bool true)) ∧ OldK s₁.heap s'.heap ∧ s'.os = s₁.os ∧ AllBare s'.gens) s₁ := by
    intro H hO hS hok hA hK
    have base_of : ∀ {b : Addr} {o : Obj}, s₁.heap.get? b = some o → H b = none → (hidT s₁.heap H).get? b = some o := fun e n => hidT_get e n
    have noA : ∀ {b : Addr} {o : Obj} {es : Array DictEntry} {ep : Nat}, s₁.heap.get? b = some o → o.data = .dict es ep → H b = none := fun {b o es ep} e d => by
      cases q : H b with
      | none => rfl
      | some u =>
        have e' : b = a := hA b (by rw [q]; simp)
        subst e'
        rw [ha] at e; cases e
        have d' : Data.seq vs.toArray _ = Data.dict es ep := d
        cases d'
    have nsK : ∀ {b : Addr} {m : Str → Option Value}, s₁.heap.Ns b m → (hidT s₁.heap H).Ns b m := fun {b m} ⟨o, es, ep, e, d, r⟩ => ⟨o, es, ep, base_of e (noA e d), d, r⟩
    have hKb : K.In (hidT s₁.heap H) := fun b o e => base_of (KX b o e) (by
      cases q : H b with
      | none => rfl
      | some u =>
        have e' : b = a := hA b (by rw [q]; simp)
        subst e'
        rw [hK (by rw [q]; simp)] at e; cases e)
    have hM : Mod K mg (hidT s₁.heap H) := ⟨hKb, nsK hns, ⟨mb, nsK hb, hbb⟩, let ⟨mc, h1, h2⟩ := hlim; ⟨mc, nsK h1, h2⟩⟩
    have e0 : Env0 P w K mg (hidT s₁.heap H) callerA [] s₁ H := ⟨rfl, hM, fun b o e => of_hidT e, Nat.le_of_eq (hidT_size _ _), trivial, fun b hb => absurd (show b ∈ ([] : List Addr) from hb) (by simp), hok, .of_eq hg⟩
    refine codeAny_mono ((F _ hKb (nsK hns)).run callerA [] s₁ H ⟨[.ref a], []⟩ [.ref a] [.ref a] _ _ hr e0 (hbind s₁ (.ref a)) (.cons rfl .nil) (hsp H hO hS)) fun r s' h => ?_
    cases r with
    | error e => exact (hCX H e s' h).elim
    | ok fl =>
      cases fl with
      | next => exact False.elim h
      | brk => exact False.elim h
      | cont => exact False.elim h
      | ret u =>
        obtain ⟨v, H', os, bare, un, hok', r', q⟩ := h
        have q' : v = .bl true := q
        subst q'
        obtain rfl : u = Value.bool true := r'
        refine ⟨rfl, OldK.of_keep fun b o e => ?_, os, bare⟩
        cases q : H b with
        | none => exact un.keep b o e q (by intro z; exact absurd (show b ∈ ([] : List Addr) from z) (by simp)) (by simp)
        | some u =>
          rcases hO b with z | ⟨ob, xs, z⟩
          · rw [q] at z; cases z
          · have z2 := un.frzs b ob _ z
            obtain ⟨e1, _⟩ := hok b _ z
            obtain ⟨e2, _⟩ := hok' b _ z2
            rw [e] at e1; cases e1
            exact e2
  cases hk : K.lookup a with
  | some o =>
    have e := KX a o hk
    rw [ha] at e
    cases e
    refine core (fun _ => none) (fun _ => .inl rfl) (.inr ⟨_, vs.toArray, _, hk, rfl, rfl, rfl, by rw [List.size_toArray, lenV]; exact hl, by simpa using rv⟩) (fun b u z => by have z' : (none : Option HO) = some u := z; cases z') (fun b z => absurd rfl z) fun z => absurd rfl z
  | none =>
    refine core (fun b => if b = a then some (.frz { cls := .type "list", data := .seq vs.toArray } (.lst (ns.map V.int))) else none) (fun b => ?_) (.inl (.inr ⟨{ cls := .type "list", data := .seq vs.toArray }, if_pos rfl⟩)) (fun b u z => ?_) (fun b z => ?_) fun _ => hk
    · by_cases hb : b = a
      · exact .inr ⟨_, _, if_pos hb⟩
      · exact .inl (if_neg hb)
    · by_cases hb : b = a
      · have z' := (if_pos hb).symm.trans z
        cases z'
        subst hb
        exact ⟨ha, by rw [List.length_map]; exact hl, vs, _, rv, ha⟩
      · have z' := (if_neg hb).symm.trans z
        cases z'
    · by_cases hb : b = a
      · exact hb
      · exact absurd (if_neg hb) z
end L2
namespace L2
open PySem PySem.Spec PyProof.Rows
theorem walk_of {l : PySem.W.OpenLaw} {n k : Nat} {q : Program} {loose : List Str} {XP : (Str → Option Value) → Heap → Prop} {YP : World → Heap → Prop} {d : DefRec} {K : Params → PySem.W.Frag} {CX : World → CXT} {sp : World → Sp} {x : Str}
    (hn : l.most = some n) (hn2 : n ≤ sizeLine) (hdf : d.params.defaults = []) (hr : Room k callerA)
    (hY : ∀ (w : World) (h : Heap), YP w h → (K w.params).In h)
    (F : ∀ (w : World) (mg : Str → Option Value) (fa : Addr) (h : Heap), (K w.params).In h → h.Ns mainGlobals mg → mg d.name = some (.ref fa) →
      ∃ fd : FuncData, (∀ (s : Shared) (u : Value), BindsTo s fd ⟨[u], []⟩ [(x, u)]) ∧
        ∀ base : Heap, (K w.params).In base → base.Ns mainGlobals mg → FnOk l.prog w (K w.params) mg base (CX w) k fa fd [x] (sp w))
    (hsp : ∀ (w : World) (H : Hp) (a : Addr) (ns : List Int), ns.length ≤ n → Only H → SqL (K w.params) H a (ns.map V.int) → sp w [.ref a] H (fun v _ => v = .bl true) fun _ _ _ => False)
    (hCX : ∀ (w : World) (H : Hp) (s : Shared) (e : Value) (s' : Shared), CX w [] H s (fun _ _ _ => False) e s' → False) :
    PySem.W.WalkO q loose XP YP l.row.toRowW d [] (fun f vs => PySem.call f vs) := by
  refine Att.attach_call hn hdf fun w s₀ s₁ mg mb fa o pm cd doc a vs ns G Y ho hd hcd hmg hobj hints hlen hg => ?_
  have KX := hY w _ Y
  obtain ⟨fd, hb, hF⟩ := F w mg fa _ KX G.T.g hmg
  exact law_call KX G.T.g G.T.b G.T.builtins G.T.nolimit hg hobj hints (Nat.le_trans hlen hn2) hr hF hb (fun H hO hS => hsp w H a ns hlen hO hS) fun H e s' => hCX w H s₁ e s'
end L2
namespace L2
open PySem PySem.Spec PyProof.Rows
def defArgs (s : Stmt) : Arguments := match s with
  | .FunctionDef _ a _ _ _ _ _ _ _ _ => a
  | _ => { posonlyargs := [], args := [], vararg := none, kwonlyargs := [], kw_defaults := [], kwarg := none, defaults := [] }
def defBody (s : Stmt) : List Stmt := match s with
  | .FunctionDef _ _ b _ _ _ _ _ _ _ => b
  | _ => []
def defScope (s : Stmt) : Scope := match s with
  | .FunctionDef _ _ _ _ _ _ sc _ _ _ => sc
  | _ => { kind := .function, names := [], isGenerator := false, isCoroutine := false }
abbrev CX0 : CXT := fun _ _ _ _ _ _ => False
abbrev E0 : XK := fun _ _ _ => False
theorem pass0 {X : Cx} : Passes CX0 X E0 := fun _ _ _ _ _ _ _ h => h.elim
structure Fun (K : PySem.W.Frag) (x qual : Str) (st : Stmt) (f : Addr) (fd : FuncData) : Prop where
  ex : ∃ (oc : Value) (od : Option Addr) (kV doc pm : Value) (an : Option Addr) (cdv ct : Value) (osl : Array (Option Value)),
    fd = PySem.W.fnOf x qual (defArgs st) (defBody st) (defScope st) .none kV doc pm an cdv ct ∧ K.lookup f = some ⟨oc, od, .func fd, osl⟩ ∧ PySem.W.codeIn K cdv qual = true
  kp : PySem.W.keepIn K (.ref f) = true
section
variable {P : Program} {w : World} {K : PySem.W.Frag} {mg : Str → Option Value} {base : Heap}
theorem Fun.ok {x qual : Str} {st : Stmt} {f : Addr} {fd : FuncData} {N ps : List Str} {k : Nat} {sp : Sp} (F : Fun K x qual st f fd) (S : FnScope N ps (defScope st)) (len : ∀ vs H Q E, sp vs H Q E → vs.length = ps.length)
    (hbody : ∀ (cdv : Value) (A : Around) (outer : List Env) (s : Shared) (H : Hp) (vs : List V) (Q : VK) (E : XK), Room k (A.deeper (envOfC qual (defScope st) s.heap.objs.size f cdv)) → sp vs H Q E →
      ∃ t, PSs (cxOf CX0 P w K mg base N qual (defScope st) f cdv A outer s H E).nox (defBody st) t ∧ t { nx := fun _ H' => Q .non H', rt := Q } (start N vs) H) : FnOk P w K mg base CX0 (k + 1) f fd ps sp := by
  obtain ⟨oc, od, kV, doc, pm, an, cdv, ct, osl, rfl, lk, hcd⟩ := F.ex
  refine fn_of lk hcd S len fun A outer s H vs Q E hr hsp => ?_
  obtain ⟨t, h, q⟩ := hbody cdv A outer s H vs Q E hr hsp
  exact ⟨t, h.nox, q⟩
theorem Fun.binds {x qual : Str} {st : Stmt} {f : Addr} {fd : FuncData} {ps : List Str} (F : Fun K x qual st f fd)
    (h : ∀ (kV doc pm : Value) (an : Option Addr) (cdv ct : Value) (us : List Value), us.length = ps.length → bindArgs (PySem.W.fnOf x qual (defArgs st) (defBody st) (defScope st) .none kV doc pm an cdv ct) ⟨us, []⟩ = pure (ps.zip us)) : Binds K fd ps [] := by
  obtain ⟨oc, od, kV, doc, pm, an, cdv, ct, osl, rfl, lk, hcd⟩ := F.ex
  exact .all (h kV doc pm an cdv ct)
theorem fun_mk {x qual : Str} {st : Stmt} {f : Addr} {oc : Value} {od an : Option Addr} {osl : Array (Option Value)} {kV doc pm cdv ct : Value} (l : K.lookup f = some ⟨oc, od, .func (PySem.W.fnOf x qual (defArgs st) (defBody st) (defScope st) .none kV doc pm an cdv ct), osl⟩)
    (c : PySem.W.codeIn K cdv qual = true) (k : PySem.W.keepIn K (.ref f) = true) : Fun K x qual st f (PySem.W.fnOf x qual (defArgs st) (defBody st) (defScope st) .none kV doc pm an cdv ct) := ⟨⟨oc, od, kV, doc, pm, an, cdv, ct, osl, rfl, l, c⟩, k⟩
end
section
variable {X : Cx}
theorem pv (i : Nat) {x : Str} {pos : Pos} (hN : X.N[i]? = some x := by rfl) (hv : Vis X.env.scope x := by first | exact Or.inl rfl | exact Or.inr (Or.inl rfl) | exact Or.inr (Or.inr rfl)) (hd : (x == ("__debug__" : Str)) = false := by decide)
    (hcd : (x == ("__classdict__" : Str)) = false := by decide) : PE X (.Name x pos) (tVar i) := pe_var hN hv hd hcd
end
theorem iteF {A B : Prop} (h : B) : if false = true then A else B := by
  rw [if_neg Bool.false_ne_true]
  exact h
theorem iteT {A B : Prop} (h : A) : if true = true then A else B := by
  rw [if_pos rfl]
  exact h
def Same (H H' : Hp) : Prop := ∀ b o, H b = some o → H' b = some o
theorem Same.refl (H : Hp) : Same H H := fun _ _ h => h
theorem Same.trans {H H1 H2 : Hp} (a : Same H H1) (b : Same H1 H2) : Same H H2 := fun c o h => b c o (a c o h)
theorem Same.free {H H' : Hp} (e : Same H H') {l : Addr} (h : H' l = Option.none) : H l = Option.none := by
  cases q : H l with
  | none => rfl
  | some o =>
    rw [e l o q] at h
    cases h
theorem Same.seq {K : PySem.W.Frag} {H H' : Hp} {a : Addr} {xs : List V} (e : Same H H') (h : SqL K H a xs) : SqL K H' a xs := by
  rcases h with (h | ⟨o, h⟩) | h
  · exact .inl (.inl (e _ _ h))
  · exact .inl (.inr ⟨o, e _ _ h⟩)
  · exact .inr h
end L2
set_option Elab.async false
set_option linter.all false
set_option maxRecDepth 100000
set_option maxHeartbeats 4000000
namespace L2
open PySem PySem.Spec PyProof.Rows
section
variable {κ : Type} [DecidableEq κ]
def valV (kvs : List (κ × V)) (k : κ) : Option V := (kvs.find? fun kv => decide (kv.1 = k)).map (·.2)
def putK (kvs : List (κ × V)) (k : κ) (v : V) : List (κ × V) :=
  if (kvs.any fun kv => decide (kv.1 = k)) = true then kvs.map (fun kv => if kv.1 = k then (kv.1, v) else kv) else kvs ++ [(k, v)]
def dropK (kvs : List (κ × V)) (k : κ) : List (κ × V) := kvs.filter fun kv => decide (kv.1 ≠ k)
theorem valV_pos {p : κ × V} {r : List (κ × V)} {k : κ} (e : p.1 = k) : valV (p :: r) k = some p.2 := by simp [valV, List.find?_cons, e]
theorem valV_neg {p : κ × V} {r : List (κ × V)} {k : κ} (e : ¬ p.1 = k) : valV (p :: r) k = valV r k := by simp [valV, List.find?_cons, e]
theorem valV_any (k : κ) : ∀ kvs : List (κ × V), (kvs.any fun kv => decide (kv.1 = k)) = (valV kvs k).isSome
  | [] => rfl
  | p :: r => by
    rw [List.any_cons]
    by_cases e : p.1 = k
    · simp only [valV_pos e, decide_eq_true e, Bool.true_or, Option.isSome_some]
    · rw [valV_neg e, decide_eq_false e, Bool.false_or]; exact valV_any k r
theorem RelO.isSome_eq {o : Option V} {u : Option Value} (r : RelO o u) : o.isSome = u.isSome := by
  cases o with
  | none => cases u with
    | none => rfl
    | some _ => exact (show False from r).elim
  | some _ => cases u with
    | none => exact (show False from r).elim
    | some _ => rfl
theorem RelO.getD {o : Option V} {u : Option Value} {d : V} {d' : Value} (r : RelO o u) (rd : RelV d d') : RelV (o.getD d) (u.getD d') := by
  cases o with
  | none => cases u with
    | none => exact rd
    | some _ => exact (show False from r).elim
  | some _ => cases u with
    | none => exact (show False from r).elim
    | some _ => exact r
theorem KV.val {kvs : List (κ × V)} {vs : List (κ × Value)} (r : KV kvs vs) (k : κ) : RelO (valV kvs k) (valueAt vs k) := by
  unfold KV at r
  induction r with
  | nil => exact True.intro
  | @cons p q ps qs h t ih =>
    obtain ⟨h1, h2⟩ := h
    by_cases e : p.1 = k
    · have e' : q.1 = k := h1.symm.trans e
      have b : valueAt (q :: qs) k = some q.2 := by simp [valueAt, List.find?_cons, e']
      rw [valV_pos e, b]; exact h2
    · have e' : ¬ q.1 = k := fun z => e (h1.trans z)
      have b : valueAt (q :: qs) k = valueAt qs k := by simp [valueAt, List.find?_cons, e']
      rw [valV_neg e, b]; exact ih
theorem KV.any {kvs : List (κ × V)} {vs : List (κ × Value)} (r : KV kvs vs) (k : κ) : (kvs.any fun kv => decide (kv.1 = k)) = vs.any fun kv => decide (kv.1 = k) := by
  unfold KV at r
  induction r with
  | nil => rfl
  | cons h t ih => rw [List.any_cons, List.any_cons, ih, h.1]
theorem KV.repl {kvs : List (κ × V)} {vs : List (κ × Value)} (r : KV kvs vs) (k : κ) {y : V} {u : Value} (ry : RelV y u) :
    KV (kvs.map fun kv => if kv.1 = k then (kv.1, y) else kv) (vs.map fun kv => if kv.1 = k then (kv.1, u) else kv) := by
  unfold KV at r ⊢
  induction r with
  | nil => exact .nil
  | @cons p q ps qs h t ih =>
    rw [List.map_cons, List.map_cons]
    refine .cons ?_ ih
    obtain ⟨h1, h2⟩ := h
    by_cases e : p.1 = k
    · rw [if_pos e, if_pos (h1.symm.trans e)]; exact ⟨h1, ry⟩
    · rw [if_neg e, if_neg (fun z => e (h1.trans z))]; exact ⟨h1, h2⟩
theorem KV.put {kvs : List (κ × V)} {vs : List (κ × Value)} (r : KV kvs vs) (k : κ) {y : V} {u : Value} (ry : RelV y u) : KV (putK kvs k y) (stored vs k u) := by
  unfold putK stored
  rw [r.any k]
  by_cases e : (vs.any fun kv => decide (kv.1 = k)) = true
  · rw [if_pos e, if_pos e]; exact r.repl k ry
  · rw [if_neg e, if_neg e]; exact Paired.snoc r ⟨rfl, ry⟩
theorem KV.drop {kvs : List (κ × V)} {vs : List (κ × Value)} (r : KV kvs vs) (k : κ) : KV (dropK kvs k) (without vs k) := by
  unfold KV at r ⊢
  unfold dropK without
  induction r with
  | nil => exact .nil
  | @cons p q ps qs h t ih =>
    obtain ⟨h1, h2⟩ := h
    rw [List.filter_cons, List.filter_cons]
    by_cases e : p.1 = k
    · have a : ¬ decide (p.1 ≠ k) = true := by simp [e]
      have b : ¬ decide (q.1 ≠ k) = true := by simp [h1.symm.trans e]
      rw [if_neg a, if_neg b]; exact ih
    · have e' : ¬ q.1 = k := fun z => e (h1.trans z)
      have a : decide (p.1 ≠ k) = true := by simp [e]
      have b : decide (q.1 ≠ k) = true := by simp [e']
      rw [if_pos a, if_pos b]; exact .cons ⟨h1, h2⟩ ih
theorem KV.keys {kvs : List (κ × V)} {vs : List (κ × Value)} (r : KV kvs vs) : kvs.map (·.1) = vs.map (·.1) := by
  unfold KV at r
  induction r with
  | nil => rfl
  | cons h t ih => rw [List.map_cons, List.map_cons, ih, h.1]
theorem KV.length {kvs : List (κ × V)} {vs : List (κ × Value)} (r : KV kvs vs) : kvs.length = vs.length := Paired.length r
end
abbrev KT (H : Hp) : List (List Key × V) → List (List Key × Addr × Value) → Prop := Paired fun p q => p.1 = q.1 ∧ H q.2.1 = some (.tup (p.1.map kV)) ∧ RelV p.2 q.2.2
theorem KT.val {H : Hp} {kvs : List (List Key × V)} {xs : List (List Key × Addr × Value)} (r : KT H kvs xs) (k : List Key) : RelO (valV kvs k) ((atKey xs k).map (·.2)) := by
  induction r with
  | nil => exact True.intro
  | @cons p q ps qs h t ih =>
    obtain ⟨h1, _, h2⟩ := h
    by_cases e : p.1 = k
    · have e' : q.1 = k := h1.symm.trans e
      have b : atKey (q :: qs) k = some q.2 := by simp [atKey, List.find?_cons, e']
      rw [valV_pos e, b]; exact h2
    · have e' : ¬ q.1 = k := fun z => e (h1.trans z)
      have b : atKey (q :: qs) k = atKey qs k := by simp [atKey, List.find?_cons, e']
      rw [valV_neg e, b]; exact ih
theorem KT.repl {H : Hp} {kvs : List (List Key × V)} {xs : List (List Key × Addr × Value)} (r : KT H kvs xs) (k : List Key) {y : V} {u : Value} (ry : RelV y u) :
    KT H (kvs.map fun kv => if kv.1 = k then (kv.1, y) else kv) (xs.map (putAt k u)) := by
  induction r with
  | nil => exact .nil
  | @cons p q ps qs h t ih =>
    rw [List.map_cons, List.map_cons]
    refine .cons ?_ ih
    obtain ⟨h1, h2, h3⟩ := h
    unfold putAt
    by_cases e : p.1 = k
    · rw [if_pos e, if_pos (h1.symm.trans e)]; exact ⟨h1, h2, ry⟩
    · rw [if_neg e, if_neg (fun z => e (h1.trans z))]; exact ⟨h1, h2, h3⟩
theorem KT.put {H : Hp} {kvs : List (List Key × V)} {xs : List (List Key × Addr × Value)} (r : KT H kvs xs) (k : List Key) {b : Addr} {y : V} {u : Value} (hb : H b = some (.tup (k.map kV))) (ry : RelV y u) :
    KT H (putK kvs k y) (storedH xs k b u) := by
  have e : (kvs.any fun kv => decide (kv.1 = k)) = (atKey xs k).isSome := by
    rw [valV_any, (r.val k).isSome_eq, Option.isSome_map]
  unfold putK storedH
  rw [e]
  by_cases q : (atKey xs k).isSome = true
  · rw [if_pos q, if_pos q]; exact r.repl k ry
  · rw [if_neg q, if_neg q]; exact Paired.snoc r ⟨rfl, hb, ry⟩
theorem KT.keeps {H H' : Hp} {kvs : List (List Key × V)} {xs : List (List Key × Addr × Value)} (r : KT H kvs xs) (ht : ∀ b ys, H b = some (.tup ys) → H' b = some (.tup ys)) : KT H' kvs xs :=
  Paired.mapP r fun _ _ z => ⟨z.1, ht _ _ z.2.1, z.2.2⟩
section
variable {P : Program} {w : World} {H : Hp} {h : Heap} {a : Addr}
end
def DGet (H : Hp) (a : Addr) (y : V) (r : Option V) : Prop :=
  (∃ kvs k, Rd H a (.dK kvs) ∧ y = kV k ∧ r = valV kvs k) ∨ ∃ kvs k b, Rd H a (.dT kvs) ∧ y = .ref b ∧ H b = some (.tup (k.map kV)) ∧ r = valV kvs k
def DPut (H : Hp) (a : Addr) (y v : V) (H' : Hp) : Prop :=
  (∃ kvs k, H a = some (.dK kvs) ∧ y = kV k ∧ kvs.length < sizeLine ∧ H' = upd H a (.dK (putK kvs k v))) ∨
  ∃ kvs k b, H a = some (.dT kvs) ∧ y = .ref b ∧ H b = some (.tup (k.map kV)) ∧ kvs.length < sizeLine ∧ H' = upd H a (.dT (putK kvs k v))
theorem DGet.k {H : Hp} {a : Addr} {kvs : List (Key × V)} {k : Key} (e : H a = some (.dK kvs)) : DGet H a (kV k) (valV kvs k) := .inl ⟨kvs, k, .inl e, rfl, rfl⟩
theorem DGet.t {H : Hp} {a b : Addr} {kvs : List (List Key × V)} {k : List Key} (e : H a = some (.dT kvs)) (eb : H b = some (.tup (k.map kV))) : DGet H a (.ref b) (valV kvs k) := .inr ⟨kvs, k, b, .inl e, rfl, eb, rfl⟩
theorem DPut.k {H : Hp} {a : Addr} {kvs : List (Key × V)} {k : Key} {v : V} (e : H a = some (.dK kvs)) (hl : kvs.length < sizeLine) : DPut H a (kV k) v (upd H a (.dK (putK kvs k v))) := .inl ⟨kvs, k, e, rfl, hl, rfl⟩
theorem DPut.t {H : Hp} {a b : Addr} {kvs : List (List Key × V)} {k : List Key} {v : V} (e : H a = some (.dT kvs)) (eb : H b = some (.tup (k.map kV))) (hl : kvs.length < sizeLine) :
    DPut H a (.ref b) v (upd H a (.dT (putK kvs k v))) := .inr ⟨kvs, k, b, e, rfl, eb, hl, rfl⟩
section
variable {X : Cx} {pins : List (Addr × Obj)} {σ : St} {H : Hp} {s : Shared} {a : Addr} {y v : V} {u r : Value} {o : Option V} {A : Around} {E : Value → Shared → Prop}
theorem Inv.big (I : Inv X pins σ H s) : sysModules < s.heap.objs.size := by
  have h : mainGlobals < s.heap.objs.size := (I.mod.glob.keeps I.bk).lt
  exact Nat.lt_trans (by decide) h
end
section
variable {X : Cx} {pins : List (Addr × Obj)} {σ : St} {H : Hp} {s : Shared} {a : Addr} {kvs : List (Key × V)} {k : Key} {u : Value} {A : Around} {E : Value → Shared → Prop}
end
section
variable {X : Cx} {o i e value : Expr} {pos pos' tpos : Pos} {td ty tv : TE}
end
section
variable {X : Cx} {pos : Pos}
end
def mergeK (kvs more : List (Key × V)) : List (Key × V) := more.foldl (fun acc kv => putK acc kv.1 kv.2) kvs
theorem KV.merge : ∀ {more : List (Key × V)} {rs : List (Key × Value)} {kvs : List (Key × V)} {vs : List (Key × Value)}, KV more rs → KV kvs vs → KV (mergeK kvs more) (merged vs rs) := by
  intro more rs kvs vs r
  unfold KV at r
  induction r generalizing kvs vs with
  | nil => intro q; exact q
  | @cons p q ps qs h t ih =>
    intro r0
    have e : KV (putK kvs p.1 p.2) (stored vs q.1 q.2) := by
      have := r0.put p.1 h.2
      rw [← h.1]; exact this
    exact ih e
structure M1 (X : Cx) (o : Expr) (m : Str) (apos : Pos) (e : Expr) (cpos : Pos) : Prop where
  base : attributeBase o m X.env (eval o X.env) = eval o X.env
  few : ((backTo cpos (starEach [e] X.env)).all (fun x => !x.1) && (backToKw cpos (keywordEach [] X.env)).all (fun x => x.1.isSome)
    && decide (([e] : List Expr).length + ([] : List Keyword).length + (if ([] : List Keyword).isEmpty then 0 else 1) < 30)) = true
  line : (apos.endLine == cpos.line) = true
  trees : backTo cpos (starEach [e] X.env) = [(false, eval e X.env)]
structure M2 (X : Cx) (o : Expr) (m : Str) (apos : Pos) (e f : Expr) (cpos : Pos) : Prop where
  base : attributeBase o m X.env (eval o X.env) = eval o X.env
  few : ((backTo cpos (starEach [e, f] X.env)).all (fun x => !x.1) && (backToKw cpos (keywordEach [] X.env)).all (fun x => x.1.isSome)
    && decide (([e, f] : List Expr).length + ([] : List Keyword).length + (if ([] : List Keyword).isEmpty then 0 else 1) < 30)) = true
  line : (apos.endLine == cpos.line) = true
  trees : backTo cpos (starEach [e, f] X.env) = [(false, eval e X.env), (false, eval f X.env)]
section
variable {X : Cx} {pins : List (Addr × Obj)} {σ : St} {H : Hp} {s : Shared} {a : Addr} {y d : V} {u r : Value} {o : Option V} {A : Around} {E : Value → Shared → Prop}
end
section
variable {X : Cx} {o e f : Expr} {apos cpos : Pos} {td ty tx : TE}
end
section
variable {X : Cx} {pins : List (Addr × Obj)} {σ : St} {H : Hp} {s : Shared} {a : Addr} {kvs : List (Key × V)} {A : Around} {E : Value → Shared → Prop}
end
section
variable {X : Cx} {pins : List (Addr × Obj)} {σ : St} {H : Hp} {s : Shared} {a : Addr} {y : V} {u : Value} {A : Around} {E : Value → Shared → Prop}
end
end L2
set_option Elab.async false
set_option linter.all false
set_option maxRecDepth 100000
set_option maxHeartbeats 1000000
namespace MR
open PySem PySem.Spec PyProof.Rows L2
inductive U where
  | non | bl (b : Bool) | int (i : Int) | str (x : Str) | tup (l : List U) | ref (n : Nat)
inductive HU where
  | lst (xs : List U) | ro (xs : List U) | dic (kvs : List (Key × U)) | rod (kvs : List (Key × U)) | ins (C : Str) (fs : List (Str × U)) | exc (C : Str) (fr : Bool) (fs : List (Str × U))
noncomputable abbrev UH := List HU
noncomputable abbrev UE := List (Option U)
section
variable (K : PySem.W.Frag) (H : Hp) (α : List Addr)
mutual
noncomputable def RepU : U → V → Prop
  | .non, v => v = .non
  | .bl b, v => v = .bl b
  | .int i, v => v = .int i
  | .str x, v => v = .str x
  | .tup l, v => ∃ a xs, v = .ref a ∧ SqT K H a xs ∧ RepL l xs
  | .ref n, v => ∃ a, α[n]? = some a ∧ v = .ref a
noncomputable def RepL : List U → List V → Prop
  | [], xs => xs = []
  | u :: l, xs => ∃ x r, xs = x :: r ∧ RepU u x ∧ RepL l r
end
end
noncomputable def Stay (H H' : Hp) : Prop := (∀ b xs, H b = some (.tup xs) → H' b = some (.tup xs)) ∧ ∀ b o u, H b = some (.frz o u) → H' b = some (.frz o u)
theorem Stay.refl (H : Hp) : Stay H H := ⟨fun _ _ q => q, fun _ _ _ q => q⟩
theorem Stay.trans {H H1 H2 : Hp} (a : Stay H H1) (b : Stay H1 H2) : Stay H H2 := ⟨fun c xs q => b.1 c xs (a.1 c xs q), fun c o u q => b.2 c o u (a.2 c o u q)⟩
theorem Stay.sqT {K : PySem.W.Frag} {H H' : Hp} {a : Addr} {xs : List V} (e : Stay H H') (h : SqT K H a xs) : SqT K H' a xs := by
  rcases h with (h | ⟨o, h⟩) | h
  · exact .inl (.inl (e.1 _ _ h))
  · exact .inl (.inr ⟨o, e.2 _ _ _ h⟩)
  · exact .inr h
theorem Stay.new {H : Hp} {p : Addr} (h : H p = none) (o : HO) : Stay H (upd H p o) := ⟨fun b u q => by rw [upd_ne (ne_of_none q h)]; exact q, fun b o u q => by rw [upd_ne (ne_of_none q h)]; exact q⟩
theorem Stay.write {H : Hp} {p : Addr} {o : HO} (h : H p = some o) (m : Mut (some o)) (o' : HO) : Stay H (upd H p o') :=
  ⟨fun b u q => by rw [upd_ne (ne_of q h (fun z => by subst z; exact m))]; exact q, fun b w u q => by rw [upd_ne (ne_of q h (fun z => by subst z; exact m))]; exact q⟩
structure Gr (H : Hp) (α : List Addr) (H' : Hp) (α' : List Addr) : Prop where
  pre : ∃ β, α' = α ++ β
  st : Stay H H'
theorem Gr.refl (H : Hp) (α : List Addr) : Gr H α H α := ⟨⟨[], by simp⟩, .refl H⟩
theorem Gr.trans {H H1 H2 : Hp} {α α1 α2 : List Addr} (a : Gr H α H1 α1) (b : Gr H1 α1 H2 α2) : Gr H α H2 α2 := by
  obtain ⟨⟨β, e⟩, s⟩ := a
  obtain ⟨⟨γ, e'⟩, s'⟩ := b
  exact ⟨⟨β ++ γ, by rw [e', e, List.append_assoc]⟩, s.trans s'⟩
theorem Gr.at {H H' : Hp} {α α' : List Addr} (g : Gr H α H' α') {n : Nat} {a : Addr} (h : α[n]? = some a) : α'[n]? = some a := by
  obtain ⟨β, e⟩ := g.pre
  have hn : n < α.length := (List.getElem?_eq_some_iff.mp h).1
  rw [e, List.getElem?_append_left hn]; exact h
section
variable {K : PySem.W.Frag} {H H' : Hp} {α α' : List Addr}
mutual
theorem RepU.mono (g : Gr H α H' α') : ∀ (u : U) (v : V), RepU K H α u v → RepU K H' α' u v
  | .non, _, h => h
  | .bl _, _, h => h
  | .int _, _, h => h
  | .str _, _, h => h
  | .tup l, v, h => by
    unfold RepU at h ⊢
    obtain ⟨a, xs, e, s, r⟩ := h
    exact ⟨a, xs, e, g.st.sqT s, RepL.mono g l xs r⟩
  | .ref n, v, h => by
    unfold RepU at h ⊢
    obtain ⟨a, e, q⟩ := h
    exact ⟨a, g.at e, q⟩
theorem RepL.mono (g : Gr H α H' α') : ∀ (l : List U) (xs : List V), RepL K H α l xs → RepL K H' α' l xs
  | [], xs, h => h
  | u :: l, xs, h => by
    unfold RepL at h ⊢
    obtain ⟨x, r, e, h1, h2⟩ := h
    exact ⟨x, r, e, RepU.mono g u x h1, RepL.mono g l r h2⟩
end
theorem RepL.length : ∀ {l : List U} {xs : List V}, RepL K H α l xs → l.length = xs.length
  | [], xs, h => by unfold RepL at h; subst h; rfl
  | u :: l, xs, h => by
    unfold RepL at h
    obtain ⟨x, r, e, _, h2⟩ := h
    subst e
    simp [RepL.length h2]
theorem RepL.get : ∀ {l : List U} {xs : List V} {i : Nat} {u : U}, RepL K H α l xs → l[i]? = some u → ∃ x, xs[i]? = some x ∧ RepU K H α u x
  | [], xs, i, u, h, e => by simp at e
  | w :: l, xs, i, u, h, e => by
    unfold RepL at h
    obtain ⟨x, r, e', h1, h2⟩ := h
    subst e'
    cases i with
    | zero => simp at e; subst e; exact ⟨x, rfl, h1⟩
    | succ i => simpa using RepL.get (i := i) h2 (by simpa using e)
theorem RepL.nil : RepL K H α [] [] := by unfold RepL; rfl
theorem RepL.cons {u : U} {l : List U} {x : V} {xs : List V} (h : RepU K H α u x) (t : RepL K H α l xs) : RepL K H α (u :: l) (x :: xs) := by
  unfold RepL; exact ⟨x, xs, rfl, h, t⟩
theorem RepL.append : ∀ {l l' : List U} {xs ys : List V}, RepL K H α l xs → RepL K H α l' ys → RepL K H α (l ++ l') (xs ++ ys)
  | [], l', xs, ys, h, t => by unfold RepL at h; subst h; exact t
  | u :: l, l', xs, ys, h, t => by
    unfold RepL at h
    obtain ⟨x, r, e, h1, h2⟩ := h
    subst e
    exact .cons h1 (RepL.append h2 t)
theorem RepL.take : ∀ {l : List U} {xs : List V} (n : Nat), RepL K H α l xs → RepL K H α (l.take n) (xs.take n)
  | [], xs, n, h => by unfold RepL at h; subst h; simp [RepL.nil]
  | u :: l, xs, 0, h => by simp [RepL.nil]
  | u :: l, xs, n + 1, h => by
    unfold RepL at h
    obtain ⟨x, r, e, h1, h2⟩ := h
    subst e
    exact .cons h1 (RepL.take n h2)
theorem RepL.drop : ∀ {l : List U} {xs : List V} (n : Nat), RepL K H α l xs → RepL K H α (l.drop n) (xs.drop n)
  | [], xs, n, h => by unfold RepL at h; subst h; simp [RepL.nil]
  | u :: l, xs, 0, h => h
  | u :: l, xs, n + 1, h => by
    unfold RepL at h
    obtain ⟨x, r, e, h1, h2⟩ := h
    subst e
    exact RepL.drop n h2
theorem RepL.set {u : U} {x : V} (q : RepU K H α u x) : ∀ {l : List U} {xs : List V} (n : Nat), RepL K H α l xs → RepL K H α (l.set n u) (xs.set n x)
  | [], xs, n, h => by unfold RepL at h; subst h; exact .nil
  | w :: l, xs, 0, h => by
    unfold RepL at h
    obtain ⟨y, r, e, h1, h2⟩ := h
    subst e
    exact .cons q h2
  | w :: l, xs, n + 1, h => by
    unfold RepL at h
    obtain ⟨y, r, e, h1, h2⟩ := h
    subst e
    exact .cons h1 (RepL.set q n h2)
theorem RepL.erase : ∀ {l : List U} {xs : List V} (n : Nat), RepL K H α l xs → RepL K H α (l.eraseIdx n) (xs.eraseIdx n)
  | [], xs, n, h => by unfold RepL at h; subst h; exact .nil
  | w :: l, xs, 0, h => by
    unfold RepL at h
    obtain ⟨y, r, e, h1, h2⟩ := h
    subst e
    exact h2
  | w :: l, xs, n + 1, h => by
    unfold RepL at h
    obtain ⟨y, r, e, h1, h2⟩ := h
    subst e
    exact .cons h1 (RepL.erase n h2)
theorem RepL.reverse : ∀ {l : List U} {xs : List V}, RepL K H α l xs → RepL K H α l.reverse xs.reverse
  | [], xs, h => by unfold RepL at h; subst h; exact .nil
  | w :: l, xs, h => by
    unfold RepL at h
    obtain ⟨y, r, e, h1, h2⟩ := h
    subst e
    rw [List.reverse_cons, List.reverse_cons]
    exact (RepL.reverse h2).append (.cons h1 .nil)
theorem RepL.ints : ∀ (ns : List Int), RepL K H α (ns.map U.int) (ns.map V.int)
  | [] => .nil
  | n :: r => .cons rfl (RepL.ints r)
end
noncomputable def RO (K : PySem.W.Frag) (H : Hp) (a : Addr) (xs : List V) : Prop :=
  (∃ o, H a = some (.frz o (.lst xs))) ∨ ∃ (o : Obj) (its : Array Value) (n : Nat), K.lookup a = some o ∧ o.cls = .type "list" ∧ o.dict = none ∧ o.data = .seq its n ∧ its.size ≤ sizeLine ∧ Vals xs its.toList
theorem RO.sq {K : PySem.W.Frag} {H : Hp} {a : Addr} {xs : List V} (h : RO K H a xs) : SqL K H a xs := by
  rcases h with ⟨o, h⟩ | h
  · exact .inl (.inr ⟨o, h⟩)
  · exact .inr h
theorem RO.stay {K : PySem.W.Frag} {H H' : Hp} {a : Addr} {xs : List V} (st : Stay H H') (h : RO K H a xs) : RO K H' a xs := by
  rcases h with ⟨o, h⟩ | h
  · exact .inl ⟨o, st.2 _ _ _ h⟩
  · exact .inr h
noncomputable def ExcIs (a Ca : Addr) (dd : Option Addr) (fr : Bool) (h : Heap) : Prop := ∃ (o : Obj) (vs : Array Value), h.get? a = some o ∧ o.cls = .ref Ca ∧ o.dict = dd ∧ o.data = .fields vs ∧ 1 < vs.size ∧ o.slots = #[] ∧ (fr = true → vs[1]? = some .none)
noncomputable def DictIs (H : Hp) (dd : Option Addr) (vs : List (Str × V)) : Prop := match dd with
  | none => vs = []
  | some dx => vs ≠ [] ∧ ∃ od, H dx = some (.frz od (.xd vs))
theorem DictIs.stay {H H' : Hp} {dd : Option Addr} {vs : List (Str × V)} (st : ∀ b o ws, H b = some (.frz o (.xd ws)) → H' b = some (.frz o (.xd ws))) (h : DictIs H dd vs) : DictIs H' dd vs := by
  cases dd with
  | none => exact h
  | some dx => obtain ⟨ne, od, q⟩ := h; exact ⟨ne, od, st _ _ _ q⟩
noncomputable def HRep (K : PySem.W.Frag) (H : Hp) (α : List Addr) (a : Addr) : HU → Prop
  | .lst us => ∃ xs, H a = some (.lst xs) ∧ RepL K H α us xs
  | .ro us => ∃ xs, RO K H a xs ∧ RepL K H α us xs
  | .dic kvs => ∃ vs, H a = some (.dK vs) ∧ kvs.map (·.1) = vs.map (·.1) ∧ RepL K H α (kvs.map (·.2)) (vs.map (·.2))
  | .rod kvs => ∃ o vs, H a = some (.frz o (.dK vs)) ∧ kvs.map (·.1) = vs.map (·.1) ∧ RepL K H α (kvs.map (·.2)) (vs.map (·.2))
  | .ins C fs => ∃ Ca dx vs, PySem.W.nsIn K mainGlobals C = some (some (.ref Ca)) ∧ H a = some (.ins Ca dx vs) ∧ fs.map (·.1) = vs.map (·.1) ∧ RepL K H α (fs.map (·.2)) (vs.map (·.2))
  | .exc C fr fs => ∃ Ca dd vs, PySem.W.nsIn K mainGlobals C = some (some (.ref Ca)) ∧ H a = some (.ext (ExcIs a Ca dd fr)) ∧ DictIs H dd vs ∧ fs.map (·.1) = vs.map (·.1) ∧ RepL K H α (fs.map (·.2)) (vs.map (·.2))
noncomputable def HU.isRo : HU → Bool
  | .ro _ => true
  | _ => false
structure Abs (K : PySem.W.Frag) (H : Hp) (α : List Addr) (L : UH) : Prop where
  len : α.length = L.length
  inj : ∀ (i j : Nat) (a : Addr) (o o' : HU), α[i]? = some a → α[j]? = some a → L[i]? = some o → L[j]? = some o' → i = j ∨ o.isRo = true ∨ o'.isRo = true
  rep : ∀ (i : Nat) (a : Addr) (o : HU), α[i]? = some a → L[i]? = some o → HRep K H α a o
theorem Abs.addr {K : PySem.W.Frag} {H : Hp} {α : List Addr} {L : UH} (A : Abs K H α L) {n : Nat} {o : HU} (h : L[n]? = some o) : ∃ a, α[n]? = some a ∧ HRep K H α a o := by
  have hn : n < α.length := by rw [A.len]; exact (List.getElem?_eq_some_iff.mp h).1
  exact ⟨α[n], List.getElem?_eq_getElem hn, A.rep n _ o (List.getElem?_eq_getElem hn) h⟩
theorem HRep.other {K : PySem.W.Frag} {H H' : Hp} {α α' : List Addr} {a : Addr} {o : HU} (g : Gr H α H' α') (hs : o.isRo = true ∨ ∀ u, H a = some u → H' a = some u) (h : HRep K H α a o) : HRep K H' α' a o := by
  cases o with
  | lst us => obtain ⟨xs, e, r⟩ := h; exact ⟨xs, (hs.resolve_left (by simp [HU.isRo])) _ e, r.mono g⟩
  | ro us => obtain ⟨xs, e, r⟩ := h; exact ⟨xs, e.stay g.st, r.mono g⟩
  | dic kvs => obtain ⟨vs, e, k, r⟩ := h; exact ⟨vs, (hs.resolve_left (by simp [HU.isRo])) _ e, k, r.mono g⟩
  | rod kvs => obtain ⟨o, vs, e, k, r⟩ := h; exact ⟨o, vs, (hs.resolve_left (by simp [HU.isRo])) _ e, k, r.mono g⟩
  | ins C fs => obtain ⟨Ca, dx, vs, n, e, k, r⟩ := h; exact ⟨Ca, dx, vs, n, (hs.resolve_left (by simp [HU.isRo])) _ e, k, r.mono g⟩
  | exc C fr fs => obtain ⟨Ca, dd, vs, n, e, d, k, r⟩ := h; exact ⟨Ca, dd, vs, n, (hs.resolve_left (by simp [HU.isRo])) _ e, d.stay fun b o ws q => g.st.2 b o _ q, k, r.mono g⟩
theorem HRep.some {K : PySem.W.Frag} {H : Hp} {α : List Addr} {a : Addr} {o : HU} (h : HRep K H α a o) (n : o.isRo = false) : ∃ u, H a = some u := by
  cases o with
  | lst us => obtain ⟨xs, e, r⟩ := h; exact ⟨_, e⟩
  | ro us => simp [HU.isRo] at n
  | dic kvs => obtain ⟨vs, e, k, r⟩ := h; exact ⟨_, e⟩
  | rod kvs => obtain ⟨o, vs, e, k, r⟩ := h; exact ⟨_, e⟩
  | ins C fs => obtain ⟨Ca, dx, vs, n', e, k, r⟩ := h; exact ⟨_, e⟩
  | exc C fr fs => obtain ⟨Ca, dd, vs, n', e, k, r⟩ := h; exact ⟨_, e⟩
theorem Abs.new {K : PySem.W.Frag} {H : Hp} {α : List Addr} {L : UH} {p : Addr} {o : HO} {u : HU} (A : Abs K H α L) (hp : H p = none) (hr : HRep K (upd H p o) (α ++ [p]) p u) :
    Abs K (upd H p o) (α ++ [p]) (L ++ [u]) ∧ Gr H α (upd H p o) (α ++ [p]) := by
  have g : Gr H α (upd H p o) (α ++ [p]) := ⟨⟨[p], rfl⟩, .new hp o⟩
  have hl := A.len
  refine ⟨⟨by simp [hl], fun i j a o1 o2 e1 e2 e3 e4 => ?_, fun i a o1 e1 e2 => ?_⟩, g⟩
  · have fresh : ∀ (k : Nat) (o3 : HU), α[k]? = some p → L[k]? = some o3 → o3.isRo = true := fun k o3 q1 q2 => by
      cases hh : o3.isRo with
      | true => rfl
      | false =>
        obtain ⟨u3, q⟩ := (A.rep k p o3 q1 q2).some hh
        rw [hp] at q; cases q
    by_cases hi : i < α.length
    · rw [List.getElem?_append_left hi] at e1
      rw [List.getElem?_append_left (by omega)] at e3
      by_cases hj : j < α.length
      · rw [List.getElem?_append_left hj] at e2
        rw [List.getElem?_append_left (by omega)] at e4
        exact A.inj i j a o1 o2 e1 e2 e3 e4
      · rw [List.getElem?_append_right (by omega)] at e2
        have : a = p := by
          cases hk : j - α.length with
          | zero => rw [hk] at e2; simp at e2; exact e2.symm
          | succ k => rw [hk] at e2; simp at e2
        subst this
        exact .inr (.inl (fresh i o1 e1 e3))
    · rw [List.getElem?_append_right (by omega)] at e1
      have hia : a = p ∧ i = α.length := by
        cases hk : i - α.length with
        | zero => rw [hk] at e1; simp at e1; exact ⟨e1.symm, by omega⟩
        | succ k => rw [hk] at e1; simp at e1
      obtain ⟨rfl, hi'⟩ := hia
      by_cases hj : j < α.length
      · rw [List.getElem?_append_left hj] at e2
        rw [List.getElem?_append_left (by omega)] at e4
        exact .inr (.inr (fresh j o2 e2 e4))
      · rw [List.getElem?_append_right (by omega)] at e2
        have : j = α.length := by
          cases hk : j - α.length with
          | zero => omega
          | succ k => rw [hk] at e2; simp at e2
        exact .inl (by omega)
  · by_cases hi : i < α.length
    · rw [List.getElem?_append_left hi] at e1
      rw [List.getElem?_append_left (by omega)] at e2
      refine (A.rep i a o1 e1 e2).other g ?_
      exact .inr fun u3 q => by rw [upd_ne (ne_of_none q hp)]; exact q
    · rw [List.getElem?_append_right (by omega)] at e1
      rw [List.getElem?_append_right (by omega)] at e2
      have h1 : i - α.length = 0 := by
        cases hk : i - α.length with
        | zero => rfl
        | succ k => rw [hk] at e1; simp at e1
      rw [h1] at e1
      rw [show i - L.length = 0 by omega] at e2
      simp at e1 e2
      subst e1; subst e2
      exact hr
theorem Abs.put {K : PySem.W.Frag} {H : Hp} {α : List Addr} {L : UH} {p : Addr} {n : Nat} {o0 o : HO} {u0 u : HU} (A : Abs K H α L) (hn : α[n]? = some p) (hL : L[n]? = some u0) (hro : u0.isRo = false) (hro' : u.isRo = false) (hp : H p = some o0) (hm : Mut (some o0)) (hr : HRep K (upd H p o) α p u) :
    Abs K (upd H p o) α (L.set n u) ∧ Gr H α (upd H p o) α := by
  have g : Gr H α (upd H p o) α := ⟨⟨[], by simp⟩, .write hp hm o⟩
  have hl := A.len
  have hlt : n < L.length := (List.getElem?_eq_some_iff.mp hL).1
  have look : ∀ (i : Nat) (o1 : HU), (L.set n u)[i]? = some o1 → ∃ o2, L[i]? = some o2 ∧ o2.isRo = o1.isRo ∧ (i ≠ n → o2 = o1) := fun i o1 e => by
    by_cases hi : n = i
    · subst hi
      rw [List.getElem?_set_self hlt] at e
      cases e
      exact ⟨u0, hL, by rw [hro, hro'], fun z => absurd rfl z⟩
    · rw [List.getElem?_set_ne hi] at e
      exact ⟨o1, e, rfl, fun _ => rfl⟩
  refine ⟨⟨by simp [hl], fun i j a o1 o2 e1 e2 e3 e4 => ?_, fun i a o1 e1 e2 => ?_⟩, g⟩
  · obtain ⟨x1, q1, r1, _⟩ := look i o1 e3
    obtain ⟨x2, q2, r2, _⟩ := look j o2 e4
    rw [← r1, ← r2]
    exact A.inj i j a x1 x2 e1 e2 q1 q2
  · by_cases hi : n = i
    · subst hi
      rw [List.getElem?_set_self hlt] at e2
      cases e2
      rw [hn] at e1; cases e1
      exact hr
    · rw [List.getElem?_set_ne hi] at e2
      refine (A.rep i a o1 e1 e2).other g ?_
      by_cases hap : a = p
      · subst hap
        rcases A.inj i n a o1 u0 e1 hn e2 hL with z | z | z
        · exact absurd z.symm hi
        · exact .inl z
        · rw [hro] at z; cases z
      · exact .inr fun u3 q => by rw [upd_ne hap]; exact q
structure RepS (K : PySem.W.Frag) (H : Hp) (α : List Addr) (δ : UE) (σ : L2.St) : Prop where
  len : δ.length = σ.length
  at_ : ∀ (i : Nat) (u : U), δ[i]? = some (some u) → ∃ v, σ[i]? = some (some v) ∧ RepU K H α u v
theorem RepS.mono {K : PySem.W.Frag} {H H' : Hp} {α α' : List Addr} {δ : UE} {σ : L2.St} (g : Gr H α H' α') (h : RepS K H α δ σ) : RepS K H' α' δ σ :=
  ⟨h.len, fun i u e => let ⟨v, q, r⟩ := h.at_ i u e; ⟨v, q, r.mono g⟩⟩
theorem RepS.set {K : PySem.W.Frag} {H : Hp} {α : List Addr} {δ : UE} {σ : L2.St} (h : RepS K H α δ σ) (i : Nat) {u : U} {v : V} (r : RepU K H α u v) : RepS K H α (δ.set i (some u)) (σ.set i (some v)) :=
  ⟨by simp [h.len], fun j w e => by
    by_cases hj : i = j
    · subst hj
      by_cases hi : i < δ.length
      · rw [List.getElem?_set_self hi] at e
        cases e
        exact ⟨v, List.getElem?_set_self (by rw [← h.len]; exact hi), r⟩
      · rw [List.getElem?_eq_none (by simpa using hi)] at e; cases e
    · rw [List.getElem?_set_ne hj] at e
      obtain ⟨v', q, r'⟩ := h.at_ j w e
      exact ⟨v', by rw [List.getElem?_set_ne hj]; exact q, r'⟩⟩
theorem RepS.start {K : PySem.W.Frag} {H : Hp} {α : List Addr} (N : List Str) {us : List U} {vs : List V} (h : RepL K H α us vs) : RepS K H α (us.map some ++ List.replicate (N.length - us.length) none) (start N vs) := by
  have hl := h.length
  refine ⟨by simp [L2.start, hl], fun i u e => ?_⟩
  by_cases hi : i < us.length
  · rw [List.getElem?_append_left (by simpa using hi), List.getElem?_map] at e
    cases q : us[i]? with
    | none => rw [q] at e; simp at e
    | some w =>
      rw [q] at e
      simp at e
      subst e
      obtain ⟨x, e2, r⟩ := h.get q
      refine ⟨x, ?_, r⟩
      unfold L2.start
      rw [List.getElem?_append_left (by simp; omega), List.getElem?_map, e2]; rfl
  · rw [List.getElem?_append_right (by simpa using hi)] at e
    have := List.mem_of_getElem? e
    simp at this
noncomputable abbrev FE := UE → UH → Option (U × UH)
noncomputable abbrev FT := UE → UH → Option (Bool × UH)
noncomputable abbrev FA := UE → UH → Option (List U × UH)
noncomputable def lE (K : PySem.W.Frag) (f : FE) : TE := fun σ H Q => ∃ α δ L, Abs K H α L ∧ RepS K H α δ σ ∧ ∃ u L', f δ L = some (u, L') ∧ ∀ v H' α', Gr H α H' α' → Abs K H' α' L' → RepU K H' α' u v → Q v H'
noncomputable def lT (K : PySem.W.Frag) (f : FT) : TT := fun σ H Q => ∃ α δ L, Abs K H α L ∧ RepS K H α δ σ ∧ ∃ b L', f δ L = some (b, L') ∧ ∀ H' α', Gr H α H' α' → Abs K H' α' L' → Q b H'
noncomputable def lA (K : PySem.W.Frag) (f : FA) : TA := fun σ H Q => ∃ α δ L, Abs K H α L ∧ RepS K H α δ σ ∧ ∃ us L', f δ L = some (us, L') ∧ ∀ vs H' α', Gr H α H' α' → Abs K H' α' L' → RepL K H' α' us vs → Q vs H'
noncomputable def PEF (X : Cx) (e : Expr) (f : FE) : Prop := PE X e (lE X.K f)
noncomputable def PTF (X : Cx) (e : Expr) (f : FT) : Prop := PT X e (lT X.K f)
noncomputable def PWF (X : Cx) (e : Expr) (f : FT) : Prop := PW X e (lT X.K f)
noncomputable def PAF (X : Cx) (es : List Expr) (f : FA) : Prop := PA X es (lA X.K f)
section
variable {X : Cx} {e : Expr} {es : List Expr}
theorem PE.imp {t t' : TE} (h : PE X e t) (hi : ∀ σ H Q, t' σ H Q → t σ H Q) : PE X e t' := fun pins s σ H Q I q => h pins s σ H Q I (hi σ H Q q)
theorem PT.imp {t t' : TT} (h : PT X e t) (hi : ∀ σ H Q, t' σ H Q → t σ H Q) : PT X e t' := fun pins s σ H Q I q => h pins s σ H Q I (hi σ H Q q)
theorem PW.imp {t t' : TT} (h : PW X e t) (hi : ∀ σ H Q, t' σ H Q → t σ H Q) : PW X e t' := fun wh pins s σ H Q I q => h wh pins s σ H Q I (hi σ H Q q)
theorem PA.imp {t t' : TA} (h : PA X es t) (hi : ∀ σ H Q, t' σ H Q → t σ H Q) : PA X es t' := fun pos pins s σ H Q I q => h pos pins s σ H Q I (hi σ H Q q)
end
noncomputable def fVar (i : Nat) : FE := fun δ L => (δ[i]?).join.map fun u => (u, L)
noncomputable def fC (u : U) : FE := fun _ L => some (u, L)
section
variable {X : Cx} {a b c e : Expr} {pos : Pos}
theorem pf_v (i : Nat) {x : Str} {pos : Pos} (hN : X.N[i]? = some x := by rfl) (hv : Vis X.env.scope x := by first | exact Or.inl rfl | exact Or.inr (Or.inl rfl) | exact Or.inr (Or.inr rfl))
    (hd : (x == ("__debug__" : Str)) = false := by decide) (hcd : (x == ("__classdict__" : Str)) = false := by decide) : PEF X (.Name x pos) (fVar i) := by
  refine PE.imp (pe_var hN hv hd hcd) ?_
  rintro σ H Q ⟨α, δ, L, A, S, u, L', e, q⟩
  unfold fVar at e
  cases h : δ[i]? with
  | none => rw [h] at e; simp at e
  | some o =>
    cases o with
    | none => rw [h] at e; simp at e
    | some w =>
      rw [h] at e
      simp at e
      obtain ⟨rfl, rfl⟩ := e
      obtain ⟨v, hv, r⟩ := S.at_ i w h
      exact ⟨v, hv, q v H α (.refl _ _) A r⟩
theorem pf_c {v : V} {u : U} (h : PE X e (tC v)) (r : ∀ H α, RepU X.K H α u v) : PEF X e (fC u) := by
  refine PE.imp h ?_
  rintro σ H Q ⟨α, δ, L, A, S, w, L', e, q⟩
  unfold fC at e
  cases e
  exact q v H α (.refl _ _) A (r H α)
theorem pf_int {i : Int} {j pos} : PEF X (.Constant (.int i) j pos) (fC (.int i)) := pf_c pe_int fun _ _ => rfl
theorem pf_bl {b : Bool} {j pos} : PEF X (.Constant (.bool b) j pos) (fC (.bl b)) := pf_c pe_bl fun _ _ => rfl
noncomputable abbrev S2 := U → U → UH → Option (U × UH)
noncomputable def SemR2 (K : PySem.W.Frag) (r : R2) (sem : S2) : Prop := ∀ (H : Hp) (α : List Addr) (L : UH) (u w : U) (x y : V) (z : U) (L' : UH) (Q : VK), Abs K H α L → RepU K H α u x → RepU K H α w y → sem u w L = some (z, L') →
  (∀ v H' α', Gr H α H' α' → Abs K H' α' L' → RepU K H' α' z v → Q v H') → r x y H Q
noncomputable def f2 (sem : S2) (fa fb : FE) : FE := fun δ L => (fa δ L).bind fun p => (fb δ p.2).bind fun q => sem p.1 q.1 q.2
theorem lE_op {K : PySem.W.Frag} {r : R2} {sem : S2} {fa fb : FE} (h : SemR2 K r sem) : ∀ σ H Q, lE K (f2 sem fa fb) σ H Q → tOp r (lE K fa) (lE K fb) σ H Q := by
  rintro σ H Q ⟨α, δ, L, A, S, z, L3, e, q⟩
  obtain ⟨⟨u, L1⟩, e1, e⟩ := Option.bind_eq_some_iff.mp e
  obtain ⟨⟨w, L2⟩, e2, e3⟩ := Option.bind_eq_some_iff.mp e
  refine ⟨α, δ, L, A, S, u, L1, e1, fun x H1 α1 g1 A1 r1 => ⟨α1, δ, L1, A1, S.mono g1, w, L2, e2, fun y H2 α2 g2 A2 r2 => ?_⟩⟩
  exact h H2 α2 L2 u w x y z L3 Q A2 (r1.mono g2) r2 e3 fun v H3 α3 g3 A3 r3 => q v H3 α3 (g1.trans (g2.trans g3)) A3 r3
theorem pf_op {op : Operator} {r : R2} {sem : S2} {fa fb : FE} (ho : OpR X (binaryOp op) r) (h : SemR2 X.K r sem) (ha : PEF X a fa) (hb : PEF X b fb) : PEF X (.BinOp a op b pos) (f2 sem fa fb) := PE.imp (pe_op ho ha hb) (lE_op h)
theorem pf_cmp {op : CmpOp} {r : R2} {sem : S2} {fa fb : FE} (ho : OpR X (compareOp op) r) (h : SemR2 X.K r sem) (ha : PEF X a fa) (hb : PEF X b fb) (hm : behindInMarks op b = false) : PEF X (.Compare a [op] [b] pos) (f2 sem fa fb) := PE.imp (pe_cmpR ho ha hb hm) (lE_op h)
noncomputable def fTest (f : FE) : FT := fun δ L => (f δ L).bind fun p => match p.1 with | .bl k => some (k, p.2) | _ => none
theorem lT_test {K : PySem.W.Frag} {t : TE} {f : FE} (ht : ∀ σ H Q, lE K f σ H Q → t σ H Q) : ∀ σ H Q, lT K (fTest f) σ H Q → tTest t σ H Q := by
  rintro σ H Q ⟨α, δ, L, A, S, b, L1, e, q⟩
  obtain ⟨⟨u, L2⟩, e1, e⟩ := Option.bind_eq_some_iff.mp e
  refine ht σ H _ ⟨α, δ, L, A, S, u, L2, e1, fun x H1 α1 g1 A1 r1 => ?_⟩
  cases u with
  | bl k => simp at e; obtain ⟨rfl, rfl⟩ := e; exact ⟨k, r1, q H1 α1 g1 A1⟩
  | _ => simp at e
theorem ptf_cmp {op : CmpOp} {r : R2} {sem : S2} {fa fb : FE} (ho : OpR X (compareOp op) r) (h : SemR2 X.K r sem) (ha : PEF X a fa) (hb : PEF X b fb) (hm : behindInMarks op b = false) : PTF X (.Compare a [op] [b] pos) (fTest (f2 sem fa fb)) := PT.imp (pt_cmpR ho ha hb hm) (lT_test (lE_op h))
end
end MR
set_option Elab.async false
set_option linter.all false
set_option maxRecDepth 100000
set_option maxHeartbeats 1000000
namespace MR
open PySem PySem.Spec PyProof.Rows L2
section
variable {X : Cx} {a b c e : Expr} {pos : Pos} {rest : List Expr}
noncomputable def fAnd (f g : FT) : FT := fun δ L => (f δ L).bind fun p => if p.1 = true then g δ p.2 else some (false, p.2)
noncomputable def fOr (f g : FT) : FT := fun δ L => (f δ L).bind fun p => if p.1 = true then some (true, p.2) else g δ p.2
noncomputable def fNot (f : FT) : FT := fun δ L => (f δ L).map fun p => (!p.1, p.2)
noncomputable def fAndV (f g : FE) : FE := fun δ L => (f δ L).bind fun p => match p.1 with | .bl k => if k = true then g δ p.2 else some (.bl false, p.2) | _ => none
noncomputable def fOrV (f g : FE) : FE := fun δ L => (f δ L).bind fun p => match p.1 with | .bl k => if k = true then some (.bl true, p.2) else g δ p.2 | _ => none
noncomputable def fNotV (f : FE) : FE := fun δ L => (f δ L).bind fun p => match p.1 with | .bl k => some (.bl (!k), p.2) | _ => none
noncomputable def fIf (c : FT) (f g : FE) : FE := fun δ L => (c δ L).bind fun p => if p.1 = true then f δ p.2 else g δ p.2
theorem pwf_and1 {f : FT} (ha : PTF X a f) : PWF X (.BoolOp .And [a] pos) f := pw_and1 ha
theorem pwf_or1 {f : FT} (ha : PTF X a f) : PWF X (.BoolOp .Or [a] pos) f := pw_or1 ha
theorem pwf_and {f g : FT} (ha : PTF X a f) (hb : PWF X (.BoolOp .And (b :: rest) pos) g) : PWF X (.BoolOp .And (a :: b :: rest) pos) (fAnd f g) := by
  refine PW.imp (pw_and ha hb) ?_
  rintro σ H Q ⟨α, δ, L, A, S, z, L3, e, q⟩
  obtain ⟨⟨u, L1⟩, e1, e⟩ := Option.bind_eq_some_iff.mp e
  refine ⟨α, δ, L, A, S, u, L1, e1, fun H1 α1 g1 A1 => ?_⟩
  cases u with
  | true => exact iteT ⟨α1, δ, L1, A1, S.mono g1, z, L3, e, fun H2 α2 g2 A2 => q H2 α2 (g1.trans g2) A2⟩
  | false => cases e; exact iteF (q H1 α1 g1 A1)
theorem pwf_or {f g : FT} (ha : PTF X a f) (hb : PWF X (.BoolOp .Or (b :: rest) pos) g) : PWF X (.BoolOp .Or (a :: b :: rest) pos) (fOr f g) := by
  refine PW.imp (pw_or ha hb) ?_
  rintro σ H Q ⟨α, δ, L, A, S, z, L3, e, q⟩
  obtain ⟨⟨u, L1⟩, e1, e⟩ := Option.bind_eq_some_iff.mp e
  refine ⟨α, δ, L, A, S, u, L1, e1, fun H1 α1 g1 A1 => ?_⟩
  cases u with
  | false => exact iteF ⟨α1, δ, L1, A1, S.mono g1, z, L3, e, fun H2 α2 g2 A2 => q H2 α2 (g1.trans g2) A2⟩
  | true => cases e; exact iteT (q H1 α1 g1 A1)
theorem PWF.pt {f : FT} (h : PWF X e f) : PTF X e f := PW.pt h
theorem ptf_not {f : FT} (ha : PTF X a f) : PTF X (.UnaryOp .Not a pos) (fNot f) := by
  refine PT.imp (pt_not ha) ?_
  rintro σ H Q ⟨α, δ, L, A, S, z, L3, e, q⟩
  obtain ⟨⟨u, L1⟩, e1, e⟩ := Option.map_eq_some_iff.mp e
  cases e
  exact ⟨α, δ, L, A, S, u, L1, e1, fun H1 α1 g1 A1 => q H1 α1 g1 A1⟩
theorem pf_if {c : Expr} {t : FT} {f g : FE} (hc : PTF X c t) (ha : PEF X a f) (hb : PEF X b g) : PEF X (.IfExp c a b pos) (fIf t f g) := by
  refine PE.imp (pe_ifExp hc ha hb) ?_
  rintro σ H Q ⟨α, δ, L, A, S, z, L3, e, q⟩
  obtain ⟨⟨u, L1⟩, e1, e⟩ := Option.bind_eq_some_iff.mp e
  refine ⟨α, δ, L, A, S, u, L1, e1, fun H1 α1 g1 A1 => ?_⟩
  cases u with
  | true => exact iteT ⟨α1, δ, L1, A1, S.mono g1, z, L3, e, fun v H2 α2 g2 A2 r => q v H2 α2 (g1.trans g2) A2 r⟩
  | false => exact iteF ⟨α1, δ, L1, A1, S.mono g1, z, L3, e, fun v H2 α2 g2 A2 r => q v H2 α2 (g1.trans g2) A2 r⟩
noncomputable def fNil : FA := fun _ L => some ([], L)
noncomputable def fCons (f : FE) (g : FA) : FA := fun δ L => (f δ L).bind fun p => (g δ p.2).map fun q => (p.1 :: q.1, q.2)
theorem paf_nil : PAF X [] fNil := by
  refine PA.imp pa_nil ?_
  rintro σ H Q ⟨α, δ, L, A, S, z, L3, e, q⟩
  cases e
  exact q [] H α (.refl _ _) A .nil
theorem paf_cons {es : List Expr} {f : FE} {g : FA} (ha : PEF X e f) (hr : PAF X es g) (hs : starEach (e :: es) X.env = (false, eval e X.env) :: starEach es X.env := by rfl) : PAF X (e :: es) (fCons f g) := by
  refine PA.imp (pa_cons ha hr hs) ?_
  rintro σ H Q ⟨α, δ, L, A, S, z, L3, e, q⟩
  obtain ⟨⟨u, L1⟩, e1, e⟩ := Option.bind_eq_some_iff.mp e
  obtain ⟨⟨us, L2⟩, e2, e⟩ := Option.map_eq_some_iff.mp e
  cases e
  exact ⟨α, δ, L, A, S, u, L1, e1, fun x H1 α1 g1 A1 r1 => ⟨α1, δ, L1, A1, S.mono g1, us, L2, e2, fun xs H2 α2 g2 A2 r2 => q (x :: xs) H2 α2 (g1.trans g2) A2 (.cons (r1.mono g2) r2)⟩⟩
noncomputable def small (n : Nat) : Bool := decide (n ≤ sizeLine)
noncomputable def fTup (g : FA) : FE := fun δ L => (g δ L).bind fun p => if small p.1.length = true then some (.tup p.1, p.2) else none
noncomputable def fLst (g : FA) : FE := fun δ L => (g δ L).bind fun p => if small p.1.length = true then some (.ref p.2.length, p.2 ++ [.lst p.1]) else none
theorem small_le {n : Nat} (h : small n = true) : n ≤ sizeLine := of_decide_eq_true h
theorem Abs.tup {K : PySem.W.Frag} {H : Hp} {α : List Addr} {L : UH} {p : Addr} {us : List U} {xs : List V} (A : Abs K H α L) (r : RepL K H α us xs) (hp : H p = none) :
    Gr H α (upd H p (.tup xs)) α ∧ Abs K (upd H p (.tup xs)) α L ∧ RepU K (upd H p (.tup xs)) α (.tup us) (.ref p) := by
  have g : Gr H α (upd H p (.tup xs)) α := ⟨⟨[], by simp⟩, .new hp _⟩
  refine ⟨g, ⟨A.len, A.inj, fun i a o e1 e2 => (A.rep i a o e1 e2).other g (.inr fun u q => by rw [upd_ne (ne_of_none q hp)]; exact q)⟩, ?_⟩
  unfold RepU
  exact ⟨p, xs, rfl, .of upd_same, r.mono g⟩
theorem Abs.lst {K : PySem.W.Frag} {H : Hp} {α : List Addr} {L : UH} {p : Addr} {us : List U} {xs : List V} (A : Abs K H α L) (r : RepL K H α us xs) (hp : H p = none) :
    Gr H α (upd H p (.lst xs)) (α ++ [p]) ∧ Abs K (upd H p (.lst xs)) (α ++ [p]) (L ++ [.lst us]) ∧ RepU K (upd H p (.lst xs)) (α ++ [p]) (.ref L.length) (.ref p) := by
  have g : Gr H α (upd H p (.lst xs)) (α ++ [p]) := ⟨⟨[p], rfl⟩, .new hp _⟩
  obtain ⟨A', _⟩ := A.new (o := .lst xs) (u := .lst us) hp ⟨xs, upd_same, r.mono g⟩
  refine ⟨g, A', ?_⟩
  unfold RepU
  exact ⟨p, by rw [← A.len]; simp, rfl⟩
theorem pf_tup {es : List Expr} {g : FA} {x1} (h : PAF X es g) : PEF X (.Tuple es x1 pos) (fTup g) := by
  refine PE.imp (pe_tup h) ?_
  rintro σ H Q ⟨α, δ, L, A, S, z, L3, e, q⟩
  obtain ⟨⟨us, L1⟩, e1, e⟩ := Option.bind_eq_some_iff.mp e
  refine ⟨α, δ, L, A, S, us, L1, e1, fun xs H1 α1 g1 A1 r1 => ?_⟩
  simp only at e
  split at e
  · rename_i hs
    cases e
    refine ⟨by rw [← r1.length]; exact small_le hs, fun p hp => ?_⟩
    obtain ⟨g2, A2, r2⟩ := A1.tup r1 hp
    exact q _ _ α1 (g1.trans g2) A2 r2
  · cases e
theorem pf_lst {es : List Expr} {g : FA} (h : PAF X es g) : PEF X (.List es pos) (fLst g) := by
  refine PE.imp (pe_lst h) ?_
  rintro σ H Q ⟨α, δ, L, A, S, z, L3, e, q⟩
  obtain ⟨⟨us, L1⟩, e1, e⟩ := Option.bind_eq_some_iff.mp e
  refine ⟨α, δ, L, A, S, us, L1, e1, fun xs H1 α1 g1 A1 r1 => ?_⟩
  simp only at e
  split at e
  · rename_i hs
    cases e
    refine ⟨by rw [← r1.length]; exact small_le hs, fun p hp => ?_⟩
    obtain ⟨g2, A2, r2⟩ := A1.lst r1 hp
    exact q _ _ _ (g1.trans g2) A2 r2
  · cases e
noncomputable abbrev SC := List U → UH → Option (U × UH)
noncomputable def SemC (K : PySem.W.Frag) (r : List V → Hp → VK → Prop) (sem : SC) : Prop := ∀ (H : Hp) (α : List Addr) (L : UH) (us : List U) (xs : List V) (z : U) (L' : UH) (Q : VK), Abs K H α L → RepL K H α us xs → sem us L = some (z, L') →
  (∀ v H' α', Gr H α H' α' → Abs K H' α' L' → RepU K H' α' z v → Q v H') → r xs H Q
noncomputable def fCall (sem : SC) (g : FA) : FE := fun δ L => (g δ L).bind fun p => sem p.1 p.2
theorem lE_cb {K : PySem.W.Frag} {r : List V → Hp → VK → Prop} {sem : SC} {g : FA} (h : SemC K r sem) : ∀ σ H Q, lE K (fCall sem g) σ H Q → tCB r (lA K g) σ H Q := by
  rintro σ H Q ⟨α, δ, L, A, S, z, L3, e, q⟩
  obtain ⟨⟨us, L1⟩, e1, e⟩ := Option.bind_eq_some_iff.mp e
  exact ⟨α, δ, L, A, S, us, L1, e1, fun xs H1 α1 g1 A1 r1 => h H1 α1 L1 us xs z L3 Q A1 r1 e fun v H2 α2 g2 A2 r2 => q v H2 α2 (g1.trans g2) A2 r2⟩
variable {x : Str} {p : Pos} {es : List Expr} {id T : String} {r : List V → Hp → VK → Prop} {sem : SC} {g : FA}
theorem pf_callB (hc : CallR X (.builtin id) r) (h : SemC X.K r sem) (hg : Gl X x) (hm : X.mg x = none) (hv : bootBuiltins x = some (.builtin id)) (ha : PAF X (e :: es) g) (hn : x ≠ "__name__" := by decide) (hdb : (x == ("__debug__" : Str)) = false := by decide)
    (he : starEach (e :: es) X.env = (false, eval e X.env) :: starEach es X.env := by rfl) (hpl : (backTo pos (starEach es X.env)).any (·.1) = false := by rfl) :
    PEF X (.Call (.Name x p) (e :: es) [] pos) (fCall sem g) := PE.imp (pe_callB hc hg hm hv ha hn hdb he hpl) (lE_cb h)
theorem pf_callTy (hc : CallR X (.type T) r) (h : SemC X.K r sem) (hg : Gl X x) (hm : X.mg x = none) (hv : bootBuiltins x = some (.type T)) (ha : PAF X (e :: es) g) (hn : x ≠ "__name__" := by decide) (hdb : (x == ("__debug__" : Str)) = false := by decide)
    (he : starEach (e :: es) X.env = (false, eval e X.env) :: starEach es X.env := by rfl) (hpl : (backTo pos (starEach es X.env)).any (·.1) = false := by rfl) :
    PEF X (.Call (.Name x p) (e :: es) [] pos) (fCall sem g) := PE.imp (pe_callTy hc hg hm hv ha hn hdb he hpl) (lE_cb h)
noncomputable abbrev SM := U → List U → UH → Option (U × UH)
noncomputable def SemM (K : PySem.W.Frag) (r : V → List V → Hp → VK → Prop) (sem : SM) : Prop := ∀ (H : Hp) (α : List Addr) (L : UH) (u : U) (us : List U) (x : V) (xs : List V) (z : U) (L' : UH) (Q : VK), Abs K H α L → RepU K H α u x → RepL K H α us xs → sem u us L = some (z, L') →
  (∀ v H' α', Gr H α H' α' → Abs K H' α' L' → RepU K H' α' z v → Q v H') → r x xs H Q
noncomputable def tyU (T : String) (u : U) (L : UH) : Bool := match u with
  | .str _ => T == "str"
  | .int _ => T == "int"
  | .ref n => match L[n]? with
    | some (.lst _) => T == "list"
    | some (.ro _) => T == "list"
    | some (.dic _) => T == "dict"
    | _ => false
  | _ => false
theorem tyU_ok {K : PySem.W.Frag} {H : Hp} {α : List Addr} {L : UH} {u : U} {x : V} (A : Abs K H α L) (r : RepU K H α u x) (h : tyU T u L = true) : tyV K T x H := by
  cases u with
  | str y => unfold RepU at r; subst r; simpa [tyU, tyV] using h
  | int i => unfold RepU at r; subst r; simpa [tyU, tyV] using h
  | ref n =>
    unfold RepU at r
    obtain ⟨a, ea, rfl⟩ := r
    unfold tyU at h
    simp only at h
    cases q : L[n]? with
    | none => rw [q] at h; simp at h
    | some o =>
      have hr := A.rep n a o ea q
      rw [q] at h
      cases o with
      | lst us => simp at h; obtain ⟨xs, e, _⟩ := hr; exact .inl ⟨h, xs, .of e⟩
      | ro us => simp at h; obtain ⟨xs, e, _⟩ := hr; exact .inl ⟨h, xs, e.sq⟩
      | dic kvs => simp at h; obtain ⟨vs, e, _⟩ := hr; exact .inr (.inr (.inl ⟨h, .inl ⟨vs, e⟩⟩))
      | rod kvs => simp at h
      | ins C fs => simp at h
      | exc C fr fs => simp at h
  | non => simp [tyU] at h
  | bl b => simp [tyU] at h
  | tup l => simp [tyU] at h
noncomputable def fMeth (T : String) (sem : SM) (f : FE) (g : FA) : FE := fun δ L => (f δ L).bind fun p => if tyU T p.1 p.2 = true then (g δ p.2).bind fun q => sem p.1 q.1 q.2 else none
theorem lE_bm {K : PySem.W.Frag} {r : V → List V → Hp → VK → Prop} {sem : SM} {f : FE} {g : FA} (h : SemM K r sem) : ∀ σ H Q, lE K (fMeth T sem f g) σ H Q → tBM K T r (lE K f) (lA K g) σ H Q := by
  rintro σ H Q ⟨α, δ, L, A, S, z, L3, e, q⟩
  obtain ⟨⟨u, L1⟩, e1, e⟩ := Option.bind_eq_some_iff.mp e
  simp only at e
  split at e
  · rename_i ht
    obtain ⟨⟨us, L2⟩, e2, e⟩ := Option.bind_eq_some_iff.mp e
    refine ⟨α, δ, L, A, S, u, L1, e1, fun x H1 α1 g1 A1 r1 => ⟨tyU_ok A1 r1 ht, α1, δ, L1, A1, S.mono g1, us, L2, e2, fun xs H2 α2 g2 A2 r2 => ?_⟩⟩
    exact h H2 α2 L2 u us x xs z L3 Q A2 (r1.mono g2) r2 e fun v H3 α3 g3 A3 r3 => q v H3 α3 (g1.trans (g2.trans g3)) A3 r3
  · cases e
section
variable {o e : Expr} {es : List Expr} {f : FE} {g : FA} {name : Str} {apos cpos : Pos} {T id : String} {r : V → List V → Hp → VK → Prop} {sem : SM}
theorem pf_bm (pa : PlainAttrs T) (slot : Slot T name id) (hty : typeOf (.builtin id) = pure (.type "method_descriptor")) (hm : MtR X id r) (h : SemM X.K r sem) (ho : PEF X o f) (ha : PAF X (e :: es) g)
    (hbase : attributeBase o name X.env (eval o X.env) = eval o X.env := by rfl)
    (hfew : ((backTo cpos (starEach (e :: es) X.env)).all (fun x => !x.1) && (backToKw cpos (keywordEach [] X.env)).all (fun x => x.1.isSome) && decide ((e :: es).length + ([] : List Keyword).length + (if ([] : List Keyword).isEmpty then 0 else 1) < 30)) = true := by rfl)
    (hline : (apos.endLine == cpos.line) = true := by rfl) (hst : starEach (e :: es) X.env = (false, eval e X.env) :: starEach es X.env := by rfl) (hpl : (backTo cpos (starEach es X.env)).any (·.1) = false := by rfl) :
    PEF X (.Call (.Attribute o name apos) (e :: es) [] cpos) (fMeth T sem f g) :=
  PE.imp (pe_bm pa slot hty hm ho ha hbase hfew hline hst hpl) (lE_bm h)
end
end
end MR
set_option Elab.async false
set_option linter.all false
set_option maxRecDepth 100000
set_option maxHeartbeats 1000000
namespace MR
open PySem PySem.Spec PyProof.Rows L2
noncomputable abbrev FN := List U → UH → Option (U × UH)
noncomputable def spF (K : PySem.W.Frag) (n : Nat) (f : FN) : Sp := fun vs H Q _ => ∃ α L us, Abs K H α L ∧ RepL K H α us vs ∧ us.length = n ∧ ∃ u L', f us L = some (u, L') ∧ ∀ v H' α', Gr H α H' α' → Abs K H' α' L' → RepU K H' α' u v → Q v H'
section
variable {X : Cx} {a b c e o : Expr} {es : List Expr} {pos p : Pos} {x : Str} {k : Nat} {f : Addr} {fd : FuncData} {ps : List Str} {F : FN} {g : FA} {fa fb fc : FE}
noncomputable def fOwn (n : Nat) (F : FN) (g : FA) : FE := fun δ L => (g δ L).bind fun p => if p.1.length = n then F p.1 p.2 else none
theorem pf_call {n : Nat} (hF : FnOk X.prog X.w X.K X.mg X.base CX0 k f fd ps (spF X.K n F)) (hr : Room k X.A) (hg : Gl X x) (hm : X.mg x = some (.ref f)) (hk : PySem.W.keepIn X.K (.ref f) = true) (hb : Binds X.K fd ps [])
    (ha : PAF X (e :: es) g) (hdb : (x == ("__debug__" : Str)) = false := by decide) (he : starEach (e :: es) X.env = (false, eval e X.env) :: starEach es X.env := by rfl) (hpl : (backTo pos (starEach es X.env)).any (·.1) = false := by rfl) :
    PEF X (.Call (.Name x p) (e :: es) [] pos) (fOwn n F g) := by
  refine PE.imp (pe_call hF hr hg hm hk hb .nil pass0 ha hdb he hpl) ?_
  rintro σ H Q ⟨α, δ, L, A, S, z, L3, e, q⟩
  obtain ⟨⟨us, L1⟩, e1, e⟩ := Option.bind_eq_some_iff.mp e
  simp only at e
  split at e
  · rename_i hl
    refine ⟨α, δ, L, A, S, us, L1, e1, fun xs H1 α1 g1 A1 r1 => ?_⟩
    exact ⟨α1, L1, us, A1, by rw [List.append_nil]; exact r1, hl, z, L3, e, fun v H2 α2 g2 A2 r2 => q v H2 α2 (g1.trans g2) A2 r2⟩
  · cases e
theorem pf_ix {r : R2} {sem : S2} (hr : IxR X r) (h : SemR2 X.K r sem) (ha : PEF X a fa) (hb : PEF X b fb) (hs : PlainIx b) : PEF X (.Subscript a b pos) (f2 sem fa fb) := PE.imp (pe_ix hr ha hb hs) (lE_op h)
noncomputable abbrev FO := UE → UH → Option (Option Int × UH)
noncomputable def lO (K : PySem.W.Frag) (f : FO) : TO := fun σ H Q => ∃ α δ L, Abs K H α L ∧ RepS K H α δ σ ∧ ∃ i L', f δ L = some (i, L') ∧ ∀ H' α', Gr H α H' α' → Abs K H' α' L' → Q i H'
noncomputable def POF (X : Cx) (e : Option Expr) (f : FO) : Prop := PO X e (lO X.K f)
noncomputable def fNoPart : FO := fun _ L => some (none, L)
noncomputable def fPart (f : FE) : FO := fun δ L => (f δ L).bind fun p => match p.1 with | .int i => some (some i, p.2) | _ => none
theorem PO.imp {e : Option Expr} {t t' : TO} (h : PO X e t) (hi : ∀ σ H Q, t' σ H Q → t σ H Q) : PO X e t' := fun pins s σ H Q I q => h pins s σ H Q I (hi σ H Q q)
theorem pof_none : POF X none fNoPart := by
  refine PO.imp po_none ?_
  rintro σ H Q ⟨α, δ, L, A, S, z, L3, e, q⟩
  cases e
  exact q H α (.refl _ _) A
theorem pof_some (h : PEF X e fa) : POF X (some e) (fPart fa) := by
  refine PO.imp (po_some h) ?_
  rintro σ H Q ⟨α, δ, L, A, S, z, L3, e, q⟩
  obtain ⟨⟨u, L1⟩, e1, e⟩ := Option.bind_eq_some_iff.mp e
  refine ⟨α, δ, L, A, S, u, L1, e1, fun x H1 α1 g1 A1 r1 => ?_⟩
  cases u with
  | int i => cases e; exact ⟨i, r1, q H1 α1 g1 A1⟩
  | _ => simp at e
noncomputable abbrev SS := U → Option Int → Option Int → UH → Option (U × UH)
noncomputable def SemSl (K : PySem.W.Frag) (r : V → Option Int → Option Int → Hp → VK → Prop) (sem : SS) : Prop := ∀ (H : Hp) (α : List Addr) (L : UH) (u : U) (x : V) (lo hi : Option Int) (z : U) (L' : UH) (Q : VK), Abs K H α L → RepU K H α u x → sem u lo hi L = some (z, L') →
  (∀ v H' α', Gr H α H' α' → Abs K H' α' L' → RepU K H' α' z v → Q v H') → r x lo hi H Q
noncomputable def fSl (sem : SS) (f : FE) (l h : FO) : FE := fun δ L => (f δ L).bind fun p => (l δ p.2).bind fun q => (h δ q.2).bind fun r => sem p.1 q.1 r.1 r.2
theorem pf_slice {r : V → Option Int → Option Int → Hp → VK → Prop} {sem : SS} {lo hi : Option Expr} {fl fh : FO} {p2 : Pos} (hr : SlR X r) (h : SemSl X.K r sem) (he : PEF X e fa) (hl : POF X lo fl) (hu : POF X hi fh) : PEF X (.Subscript e (.Slice lo hi none p2) pos) (fSl sem fa fl fh) := by
  refine PE.imp (pe_slice hr he hl hu) ?_
  rintro σ H Q ⟨α, δ, L, A, S, z, L3, e, q⟩
  obtain ⟨⟨u, L1⟩, e1, e⟩ := Option.bind_eq_some_iff.mp e
  obtain ⟨⟨i, L2⟩, e2, e⟩ := Option.bind_eq_some_iff.mp e
  obtain ⟨⟨j, L4⟩, e3, e⟩ := Option.bind_eq_some_iff.mp e
  refine ⟨α, δ, L, A, S, u, L1, e1, fun x H1 α1 g1 A1 r1 => ⟨α1, δ, L1, A1, S.mono g1, i, L2, e2, fun H2 α2 g2 A2 => ⟨α2, δ, L2, A2, (S.mono g1).mono g2, j, L4, e3, fun H3 α3 g3 A3 => ?_⟩⟩⟩
  exact h H3 α3 L4 u x i j z L3 Q A3 ((r1.mono g2).mono g3) e fun v H4 α4 g4 A4 r4 => q v H4 α4 (g1.trans (g2.trans (g3.trans g4))) A4 r4
noncomputable def fNeg (f : FE) : FE := fun δ L => (f δ L).bind fun p => match p.1 with | .int i => some (.int (-i), p.2) | _ => none
theorem pf_neg (ha : PEF X a fa) : PEF X (.UnaryOp .USub a pos) (fNeg fa) := by
  refine PE.imp (pe_un un_neg ha) ?_
  rintro σ H Q ⟨α, δ, L, A, S, z, L3, e, q⟩
  obtain ⟨⟨u, L1⟩, e1, e⟩ := Option.bind_eq_some_iff.mp e
  refine ⟨α, δ, L, A, S, u, L1, e1, fun x H1 α1 g1 A1 r1 => ?_⟩
  cases u with
  | int i => cases e; exact ⟨i, r1, q _ H1 α1 g1 A1 rfl⟩
  | _ => simp at e
noncomputable def fChain (s1 s2 : S2) (fa fb fc : FE) : FE := fun δ L => (fa δ L).bind fun p => (fb δ p.2).bind fun q => (s1 p.1 q.1 q.2).bind fun r => match r.1 with
  | .bl k => if k = true then (fc δ r.2).bind fun t => s2 q.1 t.1 t.2 else some (.bl false, r.2)
  | _ => none
theorem lE_chain {K : PySem.W.Frag} {r r' : R2} {s1 s2 : S2} (h1 : SemR2 K r s1) (h2 : SemR2 K r' s2) : ∀ σ H Q, lE K (fChain s1 s2 fa fb fc) σ H Q → tChain r r' (lE K fa) (lE K fb) (lE K fc) σ H Q := by
  rintro σ H Q ⟨α, δ, L, A, S, z, L3, e, q⟩
  obtain ⟨⟨u, L1⟩, e1, e⟩ := Option.bind_eq_some_iff.mp e
  obtain ⟨⟨w, L2⟩, e2, e⟩ := Option.bind_eq_some_iff.mp e
  obtain ⟨⟨t, L4⟩, e3, e⟩ := Option.bind_eq_some_iff.mp e
  refine ⟨α, δ, L, A, S, u, L1, e1, fun x H1 α1 g1 A1 r1 => ⟨α1, δ, L1, A1, S.mono g1, w, L2, e2, fun y H2 α2 g2 A2 r2 => ?_⟩⟩
  refine h1 H2 α2 L2 u w x y t L4 _ A2 (r1.mono g2) r2 e3 fun v H3 α3 g3 A3 r3 => ?_
  cases t with
  | bl k =>
    refine ⟨k, r3, ?_⟩
    cases k with
    | true =>
      obtain ⟨⟨s, L5⟩, e4, e⟩ := Option.bind_eq_some_iff.mp e
      refine iteT ⟨α3, δ, L4, A3, ((S.mono g1).mono g2).mono g3, s, L5, e4, fun y' H4 α4 g4 A4 r4 => ?_⟩
      exact h2 H4 α4 L5 w s y y' z L3 Q A4 ((r2.mono g3).mono g4) r4 e fun v H5 α5 g5 A5 r5 => q v H5 α5 (g1.trans (g2.trans (g3.trans (g4.trans g5)))) A5 r5
    | false => cases e; exact iteF (q _ H3 α3 (g1.trans (g2.trans g3)) A3 rfl)
  | _ => simp at e
theorem ptf_chain {op op' : CmpOp} {r r' : R2} {s1 s2 : S2} (ho : OpR X (compareOp op) r) (ho' : OpR X (compareOp op') r') (h1 : SemR2 X.K r s1) (h2 : SemR2 X.K r' s2) (ha : PEF X a fa) (hb : PEF X b fb) (hc : PEF X c fc) (hm : lastMarks [op, op'] [b, c] = false := by with_unfolding_all rfl) :
    PTF X (.Compare a [op, op'] [b, c] pos) (fTest (fChain s1 s2 fa fb fc)) := PT.imp (pt_chain ho ho' ha hb hc hm) (lT_test (lE_chain h1 h2))
noncomputable def truU (u : U) (L : UH) : Option Bool := match u with
  | .non => some false
  | .bl b => some b
  | .int i => some (i != 0)
  | .str y => if small y.length = true then some ((y.length : Int) != 0) else none
  | .tup l => some (!l.isEmpty)
  | .ref n => match L[n]? with
    | some (.lst xs) => some (!xs.isEmpty)
    | some (.ro xs) => some (!xs.isEmpty)
    | some (.dic kvs) => some (!kvs.isEmpty)
    | _ => none
theorem isEmpty_len {α β : Type} {l : List α} {m : List β} (h : l.length = m.length) : l.isEmpty = m.isEmpty := by
  cases l <;> cases m <;> simp_all
theorem truU_ok {K : PySem.W.Frag} {H : Hp} {α : List Addr} {L : UH} {u : U} {x : V} {k : Bool} (A : Abs K H α L) (r : RepU K H α u x) (h : truU u L = some k) : TruV K x H k := by
  cases u with
  | non => unfold RepU at r; subst r; exact (Option.some.inj h).symm
  | bl b => unfold RepU at r; subst r; exact (Option.some.inj h).symm
  | int i => unfold RepU at r; subst r; exact (Option.some.inj h).symm
  | str y =>
    unfold RepU at r; subst r
    unfold truU at h
    simp only at h
    split at h
    · rename_i hs; cases h; exact ⟨small_le hs, rfl⟩
    · cases h
  | tup l =>
    unfold RepU at r
    obtain ⟨a, xs, rfl, s, r⟩ := r
    exact .inr (.inl ⟨xs, s, by rw [← isEmpty_len r.length]; exact (Option.some.inj h).symm⟩)
  | ref n =>
    unfold RepU at r
    obtain ⟨a, ea, rfl⟩ := r
    unfold truU at h
    simp only at h
    cases q : L[n]? with
    | none => rw [q] at h; simp at h
    | some o =>
      have hr := A.rep n a o ea q
      rw [q] at h
      cases o with
      | lst us => obtain ⟨xs, e, r⟩ := hr; exact .inl ⟨xs, .of e, by rw [← isEmpty_len r.length]; exact (Option.some.inj h).symm⟩
      | ro us => obtain ⟨xs, e, r⟩ := hr; exact .inl ⟨xs, e.sq, by rw [← isEmpty_len r.length]; exact (Option.some.inj h).symm⟩
      | dic kvs => obtain ⟨vs, e, ek, _⟩ := hr; exact .inr (.inr ⟨vs, e, by rw [← isEmpty_len (show kvs.length = vs.length by simpa using congrArg List.length ek)]; exact (Option.some.inj h).symm⟩)
      | rod kvs => simp at h
      | ins C fs => simp at h
      | exc C fr fs => simp at h
noncomputable def fTru (f : FE) : FT := fun δ L => (f δ L).bind fun p => (truU p.1 p.2).map fun k => (k, p.2)
theorem ptf_tru (ha : PEF X a fa) (he : ∀ whole, isTrue a X.env whole = (do let v ← whole; standAt a.pos; holding [v] (truthy v)) := by intro _; rfl) : PTF X a (fTru fa) := by
  refine PT.imp (pt_truth ha he) ?_
  rintro σ H Q ⟨α, δ, L, A, S, z, L3, e, q⟩
  obtain ⟨⟨u, L1⟩, e1, e⟩ := Option.bind_eq_some_iff.mp e
  obtain ⟨k, e2, e⟩ := Option.map_eq_some_iff.mp e
  cases e
  exact ⟨α, δ, L, A, S, u, _, e1, fun x H1 α1 g1 A1 r1 => ⟨_, truU_ok A1 r1 e2, q H1 α1 g1 A1⟩⟩
end
inductive Fl where
  | nx (δ : UE) | rt (u : U) | bk (δ : UE) | ct (δ : UE)
noncomputable abbrev FS := UE → UH → Option (Fl × UH)
noncomputable def Post (K : PySem.W.Frag) (D : Ends) (H : Hp) (α : List Addr) (fl : Fl) (L' : UH) : Prop := match fl with
  | .nx δ' => ∀ σ' H' α', Gr H α H' α' → Abs K H' α' L' → RepS K H' α' δ' σ' → D.nx σ' H'
  | .bk δ' => ∀ σ' H' α', Gr H α H' α' → Abs K H' α' L' → RepS K H' α' δ' σ' → D.bk σ' H'
  | .ct δ' => ∀ σ' H' α', Gr H α H' α' → Abs K H' α' L' → RepS K H' α' δ' σ' → D.ct σ' H'
  | .rt u => ∀ v H' α', Gr H α H' α' → Abs K H' α' L' → RepU K H' α' u v → D.rt v H'
theorem Post.from {K : PySem.W.Frag} {D : Ends} {H H1 : Hp} {α α1 : List Addr} {fl : Fl} {L' : UH} (g : Gr H α H1 α1) (p : Post K D H α fl L') : Post K D H1 α1 fl L' := by
  cases fl with
  | nx δ => exact fun σ' H' α' g' => p σ' H' α' (g.trans g')
  | bk δ => exact fun σ' H' α' g' => p σ' H' α' (g.trans g')
  | ct δ => exact fun σ' H' α' g' => p σ' H' α' (g.trans g')
  | rt u => exact fun v H' α' g' => p v H' α' (g.trans g')
noncomputable def lS (K : PySem.W.Frag) (f : FS) : TS := fun D σ H => ∃ α δ L, Abs K H α L ∧ RepS K H α δ σ ∧ ∃ fl L', f δ L = some (fl, L') ∧ Post K D H α fl L'
noncomputable def PSF (X : Cx) (st : Stmt) (f : FS) : Prop := PS X st (lS X.K f)
noncomputable def PSsF (X : Cx) (st : List Stmt) (f : FS) : Prop := PSs X st (lS X.K f)
section
variable {X : Cx} {st : Stmt} {rest : List Stmt} {e : Expr} {pos : Pos} {f g : FS} {fe : FE}
theorem PS.imp {t t' : TS} (h : PS X st t) (hi : ∀ D σ H, t' D σ H → t D σ H) : PS X st t' := fun pins s σ H D I q => h pins s σ H D I (hi D σ H q)
theorem PSs.imp {sts : List Stmt} {t t' : TS} (h : PSs X sts t) (hi : ∀ D σ H, t' D σ H → t D σ H) : PSs X sts t' := fun pins s σ H D I q => h pins s σ H D I (hi D σ H q)
noncomputable def fNext : FS := fun δ L => some (.nx δ, L)
noncomputable def fSeq (f g : FS) : FS := fun δ L => (f δ L).bind fun p => match p.1 with | .nx δ' => g δ' p.2 | fl => some (fl, p.2)
theorem psf_nil : PSsF X [] fNext := by
  refine PSs.imp pss_nil ?_
  rintro D σ H ⟨α, δ, L, A, S, fl, L', e, q⟩
  cases e
  exact q σ H α (.refl _ _) A S
theorem psf_cons (h1 : PSF X st f) (h2 : PSsF X rest g) : PSsF X (st :: rest) (fSeq f g) := by
  refine PSs.imp (pss_cons h1 h2) ?_
  rintro D σ H ⟨α, δ, L, A, S, fl, L', e, q⟩
  obtain ⟨⟨fl1, L1⟩, e1, e⟩ := Option.bind_eq_some_iff.mp e
  refine ⟨α, δ, L, A, S, fl1, L1, e1, ?_⟩
  cases fl1 with
  | nx δ1 => exact fun σ1 H1 α1 g1 A1 S1 => ⟨α1, δ1, L1, A1, S1, fl, L', e, q.from g1⟩
  | rt u => cases e; exact q
  | bk δ1 => cases e; exact q
  | ct δ1 => cases e; exact q
theorem psf_one (h1 : PSF X st f) : PSsF X [st] f := pss_one h1
noncomputable def fRet (f : FE) : FS := fun δ L => (f δ L).map fun p => (.rt p.1, p.2)
noncomputable def fDrop (f : FE) : FS := fun δ L => (f δ L).map fun p => (.nx δ, p.2)
noncomputable def fRetN : FS := fun _ L => some (.rt .non, L)
theorem psf_ret (he : PEF X e fe) : PSF X (.Return (some e) pos) (fRet fe) := by
  refine PS.imp (ps_ret he) ?_
  rintro D σ H ⟨α, δ, L, A, S, fl, L', e, q⟩
  obtain ⟨⟨u, L1⟩, e1, e⟩ := Option.map_eq_some_iff.mp e
  cases e
  exact ⟨α, δ, L, A, S, u, _, e1, fun v H1 α1 g1 A1 r1 => q v H1 α1 g1 A1 r1⟩
theorem psf_expr (he : PEF X e fe) (hs : swapsWith e none pos.line X.env = pure false := by rfl) : PSF X (.Expr e pos) (fDrop fe) := by
  refine PS.imp (ps_expr he hs) ?_
  rintro D σ H ⟨α, δ, L, A, S, fl, L', e, q⟩
  obtain ⟨⟨u, L1⟩, e1, e⟩ := Option.map_eq_some_iff.mp e
  cases e
  exact ⟨α, δ, L, A, S, u, _, e1, fun v H1 α1 g1 A1 r1 => q σ H1 α1 g1 A1 (S.mono g1)⟩
noncomputable def fIfS (c : FT) (f g : FS) : FS := fun δ L => (c δ L).bind fun p => if p.1 = true then f δ p.2 else g δ p.2
theorem psf_if {c : Expr} {a b : List Stmt} {tc : FT} (hc : PTF X c tc) (ha : PSsF X a f) (hb : PSsF X b g) : PSF X (.If c a b pos) (fIfS tc f g) := by
  refine PS.imp (ps_if hc ha hb) ?_
  rintro D σ H ⟨α, δ, L, A, S, fl, L', e, q⟩
  obtain ⟨⟨u, L1⟩, e1, e⟩ := Option.bind_eq_some_iff.mp e
  refine ⟨α, δ, L, A, S, u, L1, e1, fun H1 α1 g1 A1 => ?_⟩
  cases u with
  | true => exact iteT ⟨α1, δ, L1, A1, S.mono g1, fl, L', e, q.from g1⟩
  | false => exact iteF ⟨α1, δ, L1, A1, S.mono g1, fl, L', e, q.from g1⟩
noncomputable def fNever : FS := fun _ _ => none
theorem psf_never : PSF X st fNever := by
  refine PS.imp ps_never ?_
  rintro D σ H ⟨α, δ, L, A, S, fl, L', e, q⟩
  cases e
end
noncomputable abbrev FG := U → UE → UH → Option (UE × UH)
noncomputable abbrev FGs := List U → UE → UH → Option (UE × UH)
noncomputable def lG (K : PySem.W.Frag) (f : FG) : TG := fun v σ H Q => ∃ α δ L u, Abs K H α L ∧ RepS K H α δ σ ∧ RepU K H α u v ∧ ∃ δ' L', f u δ L = some (δ', L') ∧ ∀ σ' H' α', Gr H α H' α' → Abs K H' α' L' → RepS K H' α' δ' σ' → Q σ' H'
noncomputable def lGs (K : PySem.W.Frag) (f : FGs) : TGs := fun vs σ H Q => ∃ α δ L us, Abs K H α L ∧ RepS K H α δ σ ∧ RepL K H α us vs ∧ ∃ δ' L', f us δ L = some (δ', L') ∧ ∀ σ' H' α', Gr H α H' α' → Abs K H' α' L' → RepS K H' α' δ' σ' → Q σ' H'
noncomputable def PGF (X : Cx) (e : Expr) (f : FG) : Prop := PG X e (lG X.K f)
noncomputable def PGsF (X : Cx) (es : List Expr) (f : FGs) : Prop := PGs X es (lGs X.K f)
section
variable {X : Cx} {e : Expr} {es : List Expr} {pos : Pos}
theorem PG.imp {t t' : TG} (h : PG X e t) (hi : ∀ v σ H Q, t' v σ H Q → t v σ H Q) : PG X e t' := fun pins s σ H v u Q I r q => h pins s σ H v u Q I r (hi v σ H Q q)
theorem PGs.imp {t t' : TGs} (h : PGs X es t) (hi : ∀ v σ H Q, t' v σ H Q → t v σ H Q) : PGs X es t' := fun pins s σ H v u Q I r q => h pins s σ H v u Q I r (hi v σ H Q q)
noncomputable def gN (i : Nat) : FG := fun u δ L => some (δ.set i (some u), L)
theorem pgf_name {i : Nat} {x : Str} (hN : X.N.Nodup) (hi : X.N[i]? = some x := by rfl) (hx : Loc X.env.scope x := by first | exact Or.inl rfl | exact Or.inr rfl) (hf : X.fn x = true ∨ X.env.scope.names.lookup x = some .local := by first | exact .inl rfl | exact .inr rfl) : PGF X (.Name x pos) (gN i) := by
  refine PG.imp (pg_name (i := i) hN hi hx hf) ?_
  rintro v σ H Q ⟨α, δ, L, u, A, S, r, δ', L', e, q⟩
  cases e
  exact q _ H α (.refl _ _) A (S.set i r)
noncomputable def gNil : FGs := fun us δ L => match us with | [] => some (δ, L) | _ => none
noncomputable def gCons (f : FG) (g : FGs) : FGs := fun us δ L => match us with | [] => none | u :: r => (f u δ L).bind fun p => g r p.1 p.2
theorem pgsf_nil : PGsF X [] MR.gNil := by
  refine PGs.imp pgs_nil ?_
  rintro vs σ H Q ⟨α, δ, L, us, A, S, r, δ', L', e, q⟩
  cases us with
  | nil => cases e; exact ⟨by unfold RepL at r; exact r, q σ H α (.refl _ _) A S⟩
  | cons u us => cases e
theorem pgsf_cons {f : FG} {g : FGs} (h1 : PGF X e f) (h2 : PGsF X es g) (hs : (assignEach (e :: es) X.env).map (·.2) = assign e X.env :: (assignEach es X.env).map (·.2) := by rfl) : PGsF X (e :: es) (MR.gCons f g) := by
  refine PGs.imp (pgs_cons h1 h2 hs) ?_
  rintro vs σ H Q ⟨α, δ, L, us, A, S, r, δ', L', e, q⟩
  cases us with
  | nil => cases e
  | cons u us =>
    unfold RepL at r
    obtain ⟨x, xs, rfl, r1, r2⟩ := r
    obtain ⟨⟨δ1, L1⟩, e1, e⟩ := Option.bind_eq_some_iff.mp e
    refine ⟨x, xs, rfl, α, δ, L, u, A, S, r1, δ1, L1, e1, fun σ1 H1 α1 g1 A1 S1 => ?_⟩
    exact ⟨α1, δ1, L1, us, A1, S1, r2.mono g1, δ', L', e, fun σ2 H2 α2 g2 A2 S2 => q σ2 H2 α2 (g1.trans g2) A2 S2⟩
noncomputable def gTup (n : Nat) (g : FGs) : FG := fun u δ L => match u with | .tup us => if us.length = n then g us δ L else none | _ => none
theorem pgf_tup {k : Nat} {g : FGs} {n : Nat} (hc : X.calm = true) (h : PGsF X es g) (hn : (assignEach es X.env).length = n := by rfl) (hst : (assignEach es X.env).findIdx? (·.1) = none := by rfl) : PGF X (.Tuple es k pos) (MR.gTup n g) := by
  refine PG.imp (pg_tup hc h hn hst) ?_
  rintro v σ H Q ⟨α, δ, L, u, A, S, r, δ', L', e, q⟩
  cases u with
  | tup us =>
    unfold RepU at r
    obtain ⟨a, xs, rfl, s, r⟩ := r
    unfold MR.gTup at e
    simp only at e
    split at e
    · rename_i hl
      exact ⟨a, xs, rfl, s, by rw [← r.length]; exact hl, α, δ, L, us, A, S, r, δ', L', e, q⟩
    · cases e
  | _ => simp [MR.gTup] at e
noncomputable def fAsg (fe : FE) (g : FG) : FS := fun δ L => (fe δ L).bind fun p => (g p.1 δ p.2).map fun q => (.nx q.1, q.2)
theorem psf_asg {tg : Expr} {fe : FE} {g : FG} (he : PEF X e fe) (hg : PGF X tg g) (hs : swapsWithSole [tg] e pos.line X.env = pure false := by rfl) (hw : swappedStores [tg] e X.env = pure none := by rfl) (h1 : (assignEach [tg] X.env).map (·.2) = [assign tg X.env] := by rfl) :
    PSF X (.Assign [tg] e pos) (fAsg fe g) := by
  refine PS.imp (ps_asg he hg hs hw h1) ?_
  rintro D σ H ⟨α, δ, L, A, S, fl, L', e, q⟩
  obtain ⟨⟨u, L1⟩, e1, e⟩ := Option.bind_eq_some_iff.mp e
  obtain ⟨⟨δ2, L2⟩, e2, e⟩ := Option.map_eq_some_iff.mp e
  cases e
  exact ⟨α, δ, L, A, S, u, L1, e1, fun v H1 α1 g1 A1 r1 => ⟨α1, δ, L1, u, A1, S.mono g1, r1, δ2, _, e2, fun σ2 H2 α2 g2 A2 S2 => q σ2 H2 α2 (g1.trans g2) A2 S2⟩⟩
theorem psf_set {i : Nat} {x : Str} {fe : FE} {pos' : Pos} (hN : X.N.Nodup) (he : PEF X e fe) (hi : X.N[i]? = some x := by rfl) (hx : Loc X.env.scope x := by first | exact Or.inl rfl | exact Or.inr rfl)
    (hs : swapsWith e (some (.Name x pos')) pos.line X.env = pure false := by rfl) (hf : X.fn x = true ∨ X.env.scope.names.lookup x = some .local := by first | exact .inl rfl | exact .inr rfl) :
    PSF X (.Assign [.Name x pos'] e pos) (fAsg fe (gN i)) := by
  refine PS.imp (ps_set (i := i) hN hi hx he hs hf) ?_
  rintro D σ H ⟨α, δ, L, A, S, fl, L', e, q⟩
  obtain ⟨⟨u, L1⟩, e1, e⟩ := Option.bind_eq_some_iff.mp e
  obtain ⟨⟨δ2, L2⟩, e2, e⟩ := Option.map_eq_some_iff.mp e
  cases e
  cases e2
  exact ⟨α, δ, L, A, S, u, _, e1, fun v H1 α1 g1 A1 r1 => q _ H1 α1 g1 A1 ((S.mono g1).set i r1)⟩
end
end MR
set_option Elab.async false
set_option linter.all false
set_option maxRecDepth 100000
set_option maxHeartbeats 1000000
namespace MR
open PySem PySem.Spec PyProof.Rows L2
noncomputable def lstAt (L : UH) (n : Nat) : Option (List U) := match L[n]? with
  | some (.lst us) => some us
  | _ => none
noncomputable def seqAt (L : UH) (n : Nat) : Option (List U) := match L[n]? with
  | some (.lst us) => some us
  | some (.ro us) => some us
  | _ => none
inductive IU where
  | seq (us : List U) | ref (n : Nat) | enm (n : Nat) | zip2 (n m : Nat) | zipT (us : List U) (m : Nat) | zipL (n : Nat) (ws : List U)
noncomputable def pairU : Option U → Option U → Option U
  | some x, some y => some (.tup [x, y])
  | _, _ => none
noncomputable def IU.at (i : IU) (k : Nat) (L : UH) : Option (Option U) := match i with
  | .seq us => some us[k]?
  | .ref n => match L[n]? with
    | some (.lst us) => some us[k]?
    | some (.ro us) => some us[k]?
    | _ => none
  | .enm n => (seqAt L n).map fun us => (us[k]?).map fun u => .tup [.int k, u]
  | .zip2 n m => (seqAt L n).bind fun us => (seqAt L m).map fun ws => pairU us[k]? ws[k]?
  | .zipT us m => (seqAt L m).map fun ws => pairU us[k]? ws[k]?
  | .zipL n ws => (seqAt L n).map fun us => pairU us[k]? ws[k]?
noncomputable def IU.size (i : IU) (L : UH) : Nat := match i with
  | .seq us => us.length
  | .ref n => match L[n]? with
    | some (.lst us) => us.length
    | some (.ro us) => us.length
    | _ => 0
  | .enm n => match seqAt L n with
    | some us => us.length
    | none => 0
  | .zip2 n m => match seqAt L n, seqAt L m with
    | some us, some ws => min us.length ws.length
    | _, _ => 0
  | .zipT us m => match seqAt L m with
    | some ws => min us.length ws.length
    | none => 0
  | .zipL n ws => match seqAt L n with
    | some us => min us.length ws.length
    | none => 0
noncomputable abbrev FI := UE → UH → Option (IU × UH)
noncomputable def ItRep (K : PySem.W.Frag) (J : It) (i : IU) (H : Hp) (α : List Addr) : Prop := ∀ (H2 : Hp) (α2 : List Addr) (L2 : UH), Gr H α H2 α2 → Abs K H2 α2 L2 → ∀ k : Nat,
  (∀ u, i.at k L2 = some (some u) → J.go k H2 ∧ ∀ x H3, J.yld k H2 x H3 → Gr H2 α2 H3 α2 ∧ Abs K H3 α2 L2 ∧ RepU K H3 α2 u x) ∧ (i.at k L2 = some none → J.stop k H2)
noncomputable def lI (K : PySem.W.Frag) (f : FI) : TI := fun σ H R => ∃ α δ L, Abs K H α L ∧ RepS K H α δ σ ∧ ∃ i L', f δ L = some (i, L') ∧ ∀ J H' α', Gr H α H' α' → Abs K H' α' L' → ItRep K J i H' α' → R J H'
noncomputable def PIF (X : Cx) (tg iter : Expr) (f : FI) : Prop := PI X tg iter (lI X.K f)
section
variable {X : Cx} {tg iter l : Expr} {pos : Pos} {fe : FE}
theorem PI.imp {t t' : TI} (h : PI X tg iter t) (hi : ∀ σ H R, t' σ H R → t σ H R) : PI X tg iter t' := fun pins s σ H R I q => h pins s σ H R I (hi σ H R q)
theorem PI.or {t t' : TI} (h : PI X tg iter t) (h' : PI X tg iter t') : PI X tg iter (fun σ H R => t σ H R ∨ t' σ H R) := fun pins s σ H R I q => by
  rcases q with q | q
  · exact h pins s σ H R I q
  · exact h' pins s σ H R I q
noncomputable def iSeqU (u : U) (L : UH) : Option IU := match u with
  | .tup us => some (.seq us)
  | .ref n => match L[n]? with
    | some (.lst _) => some (.ref n)
    | some (.ro _) => some (.ref n)
    | _ => none
  | _ => none
theorem itl_rep {K : PySem.W.Frag} {H : Hp} {α : List Addr} {n : Nat} {a : Addr} (ea : α[n]? = some a) : ItRep K (Itl K a) (.ref n) H α := by
  intro H2 α2 L2 g A2 k
  have ea2 := g.at ea
  have go : ∀ (us : List U) (xs : List V), SqL K H2 a xs → RepL K H2 α2 us xs → (∀ ys, SqL K H2 a ys → True) → (∀ u, us[k]? = some u → (Itl K a).go k H2 ∧ ∀ x H3, (Itl K a).yld k H2 x H3 → Gr H2 α2 H3 α2 ∧ Abs K H3 α2 L2 ∧ RepU K H3 α2 u x) ∧ (us[k]? = none → (Itl K a).stop k H2) := by
    intro us xs sq r _
    refine ⟨fun u eu => ?_, fun eu => ?_⟩
    · obtain ⟨x, ex, rx⟩ := r.get eu
      refine ⟨⟨xs, x, sq, ex⟩, ?_⟩
      rintro y H3 ⟨rfl, hy⟩
      have := hy xs sq
      rw [ex] at this; cases this
      exact ⟨.refl _ _, A2, rx⟩
    · exact ⟨xs, sq, by rw [← r.length]; exact List.getElem?_eq_none_iff.mp eu⟩
  unfold IU.at
  simp only
  cases q : L2[n]? with
  | none => simp
  | some o =>
    have hr := A2.rep n a o ea2 q
    cases o with
    | lst us =>
      obtain ⟨xs, e, r⟩ := hr
      obtain ⟨h1, h2⟩ := go us xs (.of e) r fun _ _ => trivial
      exact ⟨fun u eu => h1 u (Option.some.inj eu), fun eu => h2 (Option.some.inj eu)⟩
    | ro us =>
      obtain ⟨xs, e, r⟩ := hr
      obtain ⟨h1, h2⟩ := go us xs e.sq r fun _ _ => trivial
      exact ⟨fun u eu => h1 u (Option.some.inj eu), fun eu => h2 (Option.some.inj eu)⟩
    | dic kvs => simp
    | rod kvs => simp
    | ins C fs => simp
    | exc C fr fs => simp
theorem itt_rep {K : PySem.W.Frag} {H : Hp} {α : List Addr} {us : List U} {xs : List V} {a : Addr} (sq : SqT K H a xs) (r : RepL K H α us xs) : ItRep K (Itt K a) (.seq us) H α := by
  intro H2 α2 L2 g A2 k
  have sq2 := g.st.sqT (K := K) sq
  have r2 := r.mono g
  refine ⟨fun u eu => ?_, fun eu => ?_⟩
  · obtain ⟨x, ex, rx⟩ := r2.get (Option.some.inj eu)
    refine ⟨⟨xs, x, sq2, ex⟩, ?_⟩
    rintro y H3 ⟨rfl, hy⟩
    have := hy xs sq2
    rw [ex] at this; cases this
    exact ⟨.refl _ _, A2, rx⟩
  · exact ⟨xs, sq2, by rw [← r2.length]; exact List.getElem?_eq_none_iff.mp (Option.some.inj eu)⟩
theorem itr_rep {K : PySem.W.Frag} {H : Hp} {α : List Addr} (lo : Int) (n : Nat) : ItRep K (Itr lo n) (.seq ((List.range n).map fun i => U.int (lo + (i : Nat)))) H α := by
  intro H2 α2 L2 g A2 k
  refine ⟨fun u eu => ?_, fun eu => ?_⟩
  · have eu := Option.some.inj eu
    rw [List.getElem?_map] at eu
    by_cases hk : k < n
    · rw [List.getElem?_range hk] at eu
      simp at eu
      refine ⟨hk, ?_⟩
      rintro x H3 ⟨rfl, rfl⟩
      subst eu
      exact ⟨.refl _ _, A2, rfl⟩
    · rw [List.getElem?_eq_none (by simpa using hk)] at eu
      simp at eu
  · have := List.getElem?_eq_none_iff.mp (Option.some.inj eu)
    show n ≤ k
    simpa using this
noncomputable def fSeqI (f : FE) : FI := fun δ L => (f δ L).bind fun p => (iSeqU p.1 p.2).map fun i => (i, p.2)
theorem pif_seq (h : PEF X l fe) : PIF X tg l (fSeqI fe) := by
  refine PI.imp (PI.or (pi_list h) (pi_tup h)) ?_
  rintro σ H R ⟨α, δ, L, A, S, i, L3, e, q⟩
  obtain ⟨⟨u, L1⟩, e1, e⟩ := Option.bind_eq_some_iff.mp e
  obtain ⟨j, e2, e⟩ := Option.map_eq_some_iff.mp e
  cases e
  cases u with
  | tup us =>
    cases e2
    refine .inr ⟨α, δ, L, A, S, _, _, e1, fun x H1 α1 g1 A1 r1 => ?_⟩
    unfold RepU at r1
    obtain ⟨a, xs, rfl, sq, r⟩ := r1
    exact ⟨a, rfl, ⟨xs, sq⟩, q _ H1 α1 g1 A1 (itt_rep sq r)⟩
  | ref n =>
    refine .inl ⟨α, δ, L, A, S, _, _, e1, fun x H1 α1 g1 A1 r1 => ?_⟩
    unfold RepU at r1
    obtain ⟨a, ea, rfl⟩ := r1
    refine ⟨a, rfl, ?_⟩
    unfold iSeqU at e2
    simp only at e2
    cases w : L1[n]? with
    | none => simp only [w] at e2; cases e2
    | some o =>
      have hr := A1.rep n a o ea w
      cases o with
      | lst us => simp only [w] at e2; cases e2; obtain ⟨xs, e, r⟩ := hr; exact ⟨⟨xs, .of e⟩, q _ H1 α1 g1 A1 (itl_rep ea)⟩
      | ro us => simp only [w] at e2; cases e2; obtain ⟨xs, e, r⟩ := hr; exact ⟨⟨xs, e.sq⟩, q _ H1 α1 g1 A1 (itl_rep ea)⟩
      | dic kvs => simp only [w] at e2; cases e2
      | rod kvs => simp only [w] at e2; cases e2
      | ins C fs => simp only [w] at e2; cases e2
      | exc C fr fs => simp only [w] at e2; cases e2
  | _ => cases e2
noncomputable def rangeU (lo : Int) (n : Nat) : List U := (List.range n).map fun i => U.int (lo + (i : Nat))
noncomputable def fRng1 (g : FA) : FI := fun δ L => (g δ L).bind fun p => match p.1 with
  | [.int j] => if -(2 ^ 62) ≤ j ∧ j < 2 ^ 62 then some (.seq (rangeU 0 j.toNat), p.2) else none
  | _ => none
noncomputable def fRng2 (g : FA) : FI := fun δ L => (g δ L).bind fun p => match p.1 with
  | [.int i, .int j] => if (-(2 ^ 62) ≤ i ∧ i < 2 ^ 62) ∧ -(2 ^ 62) ≤ j ∧ j < 2 ^ 62 then some (.seq (rangeU i (j - i).toNat), p.2) else none
  | _ => none
theorem RepL.one {K : PySem.W.Frag} {H : Hp} {α : List Addr} {u : U} {xs : List V} (h : RepL K H α [u] xs) : ∃ x, xs = [x] ∧ RepU K H α u x := by
  unfold RepL at h
  obtain ⟨x, r, e, h1, h2⟩ := h
  unfold RepL at h2
  subst h2
  exact ⟨x, e, h1⟩
theorem RepL.two {K : PySem.W.Frag} {H : Hp} {α : List Addr} {u w : U} {xs : List V} (h : RepL K H α [u, w] xs) : ∃ x y, xs = [x, y] ∧ RepU K H α u x ∧ RepU K H α w y := by
  unfold RepL at h
  obtain ⟨x, r, e, h1, h2⟩ := h
  obtain ⟨y, e2, h3⟩ := h2.one
  subst e2
  exact ⟨x, y, e, h1, h3⟩
theorem pif_range1 {a : Expr} {g : FA} {p pos : Pos} (hg : Gl X "range") (hm : X.mg "range" = none) (ha : PAF X [a] g) (hs : starEach [a] X.env = [(false, eval a X.env)] := by rfl) : PIF X tg (.Call (.Name "range" p) [a] [] pos) (fRng1 g) := by
  refine PI.imp (pi_range1 hg hm ha hs) ?_
  rintro σ H R ⟨α, δ, L, A, S, i, L3, e, q⟩
  obtain ⟨⟨us, L1⟩, e1, e⟩ := Option.bind_eq_some_iff.mp e
  refine ⟨α, δ, L, A, S, us, L1, e1, fun xs H1 α1 g1 A1 r1 => ?_⟩
  simp only at e
  split at e
  · rename_i _ j
    split at e
    · rename_i hj
      cases e
      obtain ⟨x, rfl, rx⟩ := r1.one
      unfold RepU at rx
      subst rx
      exact ⟨j, rfl, hj.1, hj.2, q _ H1 α1 g1 A1 (itr_rep 0 _)⟩
    · cases e
  · cases e
theorem pif_range2 {a b : Expr} {g : FA} {p pos : Pos} (hg : Gl X "range") (hm : X.mg "range" = none) (ha : PAF X [a, b] g) (hs : starEach [a, b] X.env = [(false, eval a X.env), (false, eval b X.env)] := by rfl) (hs2 : starEach [b] X.env = [(false, eval b X.env)] := by rfl) : PIF X tg (.Call (.Name "range" p) [a, b] [] pos) (fRng2 g) := by
  refine PI.imp (pi_range2 hg hm ha hs hs2) ?_
  rintro σ H R ⟨α, δ, L, A, S, i, L3, e, q⟩
  obtain ⟨⟨us, L1⟩, e1, e⟩ := Option.bind_eq_some_iff.mp e
  refine ⟨α, δ, L, A, S, us, L1, e1, fun xs H1 α1 g1 A1 r1 => ?_⟩
  simp only at e
  split at e
  · rename_i _ i j
    split at e
    · rename_i hj
      cases e
      obtain ⟨x, y, rfl, rx, ry⟩ := r1.two
      unfold RepU at rx ry
      subst rx
      subst ry
      exact ⟨i, j, rfl, ⟨hj.1.1, hj.1.2, hj.2.1, hj.2.2⟩, q _ H1 α1 g1 A1 (itr_rep i _)⟩
    · cases e
  · cases e
noncomputable def loopU (i : IU) (g : FG) (body : FS) : Nat → Nat → UE → UH → Option (Fl × UH)
  | 0, _, _, _ => none
  | m + 1, k, δ, L => match i.at k L with
    | none => none
    | some none => some (.nx δ, L)
    | some (some u) => (g u δ L).bind fun p => (body p.1 p.2).bind fun q => match q.1 with
      | .nx δ' => loopU i g body m (k + 1) δ' q.2
      | .ct δ' => loopU i g body m (k + 1) δ' q.2
      | .bk δ' => some (.nx δ', q.2)
      | .rt w => some (.rt w, q.2)
noncomputable def fFor (fi : FI) (g : FG) (body : FS) : FS := fun δ L => (fi δ L).bind fun p => loopU p.1 g body (p.1.size p.2 + 1) 0 δ p.2
theorem psf_for {body : List Stmt} {fi : FI} {g : FG} {fb : FS} (hp : PassesOwn (model X.prog X.w) X.A X.env X.xe) (hc : X.calm = true) (hi : PIF X tg iter fi) (hg : PGF X tg g) (hb : PSsF X body fb)
    (hs : ∀ x, foldedSetIterable iter X.env x = pure x := by intro _; rfl) : PSF X (.For tg iter body [] pos) (fFor fi g fb) := by
  refine PS.imp (ps_for hp hc hi hg hb hs) ?_
  rintro D σ H ⟨α, δ, L, A, S, fl, L', e, q⟩
  obtain ⟨⟨it, L1⟩, e1, e⟩ := Option.bind_eq_some_iff.mp e
  refine ⟨α, δ, L, A, S, it, L1, e1, fun J H1 α1 g1 A1 hJ => ?_⟩
  refine ⟨fun k m σ2 H2 => ∃ α2 δ2 L2, Gr H1 α1 H2 α2 ∧ Abs X.K H2 α2 L2 ∧ RepS X.K H2 α2 δ2 σ2 ∧ loopU it g fb m k δ2 L2 = some (fl, L') ∧ Post X.K D H2 α2 fl L', ⟨_, α1, δ, L1, .refl _ _, A1, S.mono g1, e, q.from g1⟩, ?_⟩
  rintro k m σ2 H2 ⟨α2, δ2, L2, g2, A2, S2, e2, q2⟩
  cases m with
  | zero => cases e2
  | succ m =>
    obtain ⟨hgo, hstop⟩ := hJ H2 α2 L2 g2 A2 k
    unfold loopU at e2
    cases hat : it.at k L2 with
    | none => rw [hat] at e2; cases e2
    | some o =>
      cases o with
      | none =>
        rw [hat] at e2
        cases e2
        exact .inl ⟨hstop hat, q2 σ2 H2 α2 (.refl _ _) A2 S2⟩
      | some u =>
        rw [hat] at e2
        obtain ⟨go, yld⟩ := hgo u hat
        obtain ⟨⟨δ3, L3⟩, e3, e2⟩ := Option.bind_eq_some_iff.mp e2
        obtain ⟨⟨fl4, L4⟩, e4, e2⟩ := Option.bind_eq_some_iff.mp e2
        refine .inr ⟨go, fun σ5 H5 => ∃ α5 δ5 L5, Gr H1 α1 H5 α5 ∧ Abs X.K H5 α5 L5 ∧ RepS X.K H5 α5 δ5 σ5 ∧ loopU it g fb m (k + 1) δ5 L5 = some (fl, L') ∧ Post X.K D H5 α5 fl L', fun σ5 H5 h5 => ⟨m, Nat.lt_succ_self _, h5⟩, fun x H3 y3 => ?_⟩
        obtain ⟨g3, A3, r3⟩ := yld x H3 y3
        refine ⟨α2, δ2, L2, u, A3, S2.mono g3, r3, δ3, L3, e3, fun σ4 H4 α4 g4 A4 S4 => ⟨α4, δ3, L3, A4, S4, fl4, L4, e4, ?_⟩⟩
        have gA := g2.trans (g3.trans g4)
        have gB := g3.trans g4
        cases fl4 with
        | nx δ5 => exact fun σ5 H5 α5 g5 A5 S5 => ⟨α5, δ5, L4, gA.trans g5, A5, S5, e2, q2.from (gB.trans g5)⟩
        | ct δ5 => exact fun σ5 H5 α5 g5 A5 S5 => ⟨α5, δ5, L4, gA.trans g5, A5, S5, e2, q2.from (gB.trans g5)⟩
        | bk δ5 => cases e2; exact fun σ5 H5 α5 g5 A5 S5 => q2 σ5 H5 α5 (gB.trans g5) A5 S5
        | rt w => cases e2; exact fun v H5 α5 g5 A5 r5 => q2 v H5 α5 (gB.trans g5) A5 r5
noncomputable def whileU (c : FT) (body : FS) : Nat → UE → UH → Option (Fl × UH)
  | 0, _, _ => none
  | m + 1, δ, L => (c δ L).bind fun p => if p.1 = true then (body δ p.2).bind fun q => match q.1 with
      | .nx δ' => whileU c body m δ' q.2
      | .ct δ' => whileU c body m δ' q.2
      | .bk δ' => some (.nx δ', q.2)
      | .rt w => some (.rt w, q.2)
    else some (.nx δ, p.2)
theorem psf_while {c : Expr} {body : List Stmt} {tc : FT} {fb : FS} (n : Nat) (hp : PassesOwn (model X.prog X.w) X.A X.env X.xe) (hc : PTF X c tc) (hb : PSsF X body fb) : PSF X (.While c body [] pos) (whileU tc fb n) := by
  refine PS.imp (ps_while hp hc hb) ?_
  rintro D σ H ⟨α, δ, L, A, S, fl, L', e, q⟩
  refine ⟨fun m σ2 H2 => ∃ α2 δ2 L2, Abs X.K H2 α2 L2 ∧ RepS X.K H2 α2 δ2 σ2 ∧ whileU tc fb m δ2 L2 = some (fl, L') ∧ Post X.K D H2 α2 fl L', ⟨n, α, δ, L, A, S, e, q⟩, ?_⟩
  rintro m σ2 H2 ⟨α2, δ2, L2, A2, S2, e2, q2⟩
  cases m with
  | zero => cases e2
  | succ m =>
    unfold whileU at e2
    obtain ⟨⟨b, L3⟩, e3, e2⟩ := Option.bind_eq_some_iff.mp e2
    refine ⟨α2, δ2, L2, A2, S2, b, L3, e3, fun H3 α3 g3 A3 => ?_⟩
    cases b with
    | false => cases e2; exact iteF (q2 σ2 H3 α3 g3 A3 (S2.mono g3))
    | true =>
      obtain ⟨⟨fl4, L4⟩, e4, e2⟩ := Option.bind_eq_some_iff.mp e2
      refine iteT ⟨fun σ5 H5 => ∃ α5 δ5 L5, Abs X.K H5 α5 L5 ∧ RepS X.K H5 α5 δ5 σ5 ∧ whileU tc fb m δ5 L5 = some (fl, L') ∧ Post X.K D H5 α5 fl L', fun σ5 H5 h5 => ⟨m, Nat.lt_succ_self _, h5⟩, ?_⟩
      refine ⟨α3, δ2, L3, A3, S2.mono g3, fl4, L4, e4, ?_⟩
      cases fl4 with
      | nx δ5 => exact fun σ5 H5 α5 g5 A5 S5 => ⟨α5, δ5, L4, A5, S5, e2, q2.from (g3.trans g5)⟩
      | ct δ5 => exact fun σ5 H5 α5 g5 A5 S5 => ⟨α5, δ5, L4, A5, S5, e2, q2.from (g3.trans g5)⟩
      | bk δ5 => cases e2; exact fun σ5 H5 α5 g5 A5 S5 => q2 σ5 H5 α5 (g3.trans g5) A5 S5
      | rt w => cases e2; exact fun v H5 α5 g5 A5 r5 => q2 v H5 α5 (g3.trans g5) A5 r5
end
noncomputable def fnU (n m : Nat) (body : FS) : FN := fun us L => if us.length = m then (body (us.map some ++ List.replicate (n - us.length) none) L).bind fun p => match p.1 with
  | .rt u => some (u, p.2)
  | .nx _ => some (.non, p.2)
  | _ => none
  else none
section
variable {P : Program} {w : World} {K : PySem.W.Frag} {mg : Str → Option Value} {base : Heap}
theorem Fun.okF {x qual : Str} {st : Stmt} {f : Addr} {fd : FuncData} {N ps : List Str} {k : Nat} {body : FS} (F : Fun K x qual st f fd) (S : FnScope N ps (defScope st))
    (hbody : ∀ (cdv : Value) (A : Around) (outer : List PySem.Env) (s : Shared) (H : Hp) (E : XK), Room k (A.deeper (envOfC qual (defScope st) s.heap.objs.size f cdv)) → PSsF (cxOf CX0 P w K mg base N qual (defScope st) f cdv A outer s H E).nox (defBody st) body) :
    FnOk P w K mg base CX0 (k + 1) f fd ps (spF K ps.length (fnU N.length ps.length body)) := by
  refine F.ok S (fun vs H Q E ⟨α, L, us, A, r, hl, _⟩ => by rw [← r.length]; exact hl) (fun cdv A outer s H vs Q E hr h => ?_)
  obtain ⟨α, L, us, Ab, r, hl, u, L', e, q⟩ := h
  refine ⟨_, hbody cdv A outer s H E hr, ?_⟩
  unfold fnU at e
  rw [if_pos hl] at e
  obtain ⟨⟨fl, L1⟩, e1, e⟩ := Option.bind_eq_some_iff.mp e
  refine ⟨α, _, L, Ab, RepS.start N r, fl, L1, e1, ?_⟩
  cases fl with
  | rt w => cases e; exact q
  | nx δ => cases e; exact fun σ' H' α' g' A' S' => q .non H' α' g' A' rfl
  | bk δ => cases e
  | ct δ => cases e
end
end MR
set_option Elab.async false
set_option linter.all false
set_option maxRecDepth 100000
set_option maxHeartbeats 1000000
namespace MR
open PySem PySem.Spec PyProof.Rows L2
section
variable {K : PySem.W.Frag} {H : Hp} {α : List Addr} {L : UH} {u : U} {x : V}
theorem lstAt_some {n : Nat} {us : List U} (h : lstAt L n = some us) : L[n]? = some (.lst us) := by
  unfold lstAt at h
  split at h
  · rename_i e; cases h; exact e
  · cases h
theorem lstAt_ok {n : Nat} {us : List U} (A : Abs K H α L) (h : lstAt L n = some us) : ∃ a xs, α[n]? = some a ∧ H a = some (.lst xs) ∧ RepL K H α us xs := by
  obtain ⟨a, ea, xs, e, r⟩ := A.addr (lstAt_some h)
  exact ⟨a, xs, ea, e, r⟩
theorem seqAt_ok {n : Nat} {us : List U} (A : Abs K H α L) (h : seqAt L n = some us) : ∃ a xs, α[n]? = some a ∧ SqL K H a xs ∧ RepL K H α us xs := by
  unfold seqAt at h
  split at h
  · rename_i e; cases h
    obtain ⟨a, ea, xs, e, r⟩ := A.addr e
    exact ⟨a, xs, ea, .of e, r⟩
  · rename_i e; cases h
    obtain ⟨a, ea, xs, e, r⟩ := A.addr e
    exact ⟨a, xs, ea, e.sq, r⟩
  · cases h
theorem Abs.setL {n : Nat} {a : Addr} {xs ys : List V} {us ws : List U} (A : Abs K H α L) (h : lstAt L n = some us) (ea : α[n]? = some a) (e : H a = some (.lst xs)) (r : RepL K H α ws ys) :
    Gr H α (upd H a (.lst ys)) α ∧ Abs K (upd H a (.lst ys)) α (L.set n (.lst ws)) := by
  have g : Gr H α (upd H a (.lst ys)) α := ⟨⟨[], by simp⟩, .write e (by exact trivial) _⟩
  obtain ⟨A', _⟩ := A.put (o := .lst ys) (u := .lst ws) ea (lstAt_some h) rfl rfl e (by exact trivial) ⟨ys, upd_same, r.mono g⟩
  exact ⟨g, A'⟩
theorem RepU.ref_of {n : Nat} (A : Abs K H α L) (h : RepU K H α (.ref n) x) : ∃ a, α[n]? = some a ∧ x = .ref a := by unfold RepU at h; exact h
end
noncomputable def semAdd : S2 := fun u w L => match u, w with
  | .int i, .int j => some (.int (i + j), L)
  | .str a, .str b => if small (a.length + b.length) = true then some (.str (a ++ b), L) else none
  | .tup a, .tup b => if a.isEmpty = false ∧ small (a.length + b.length) = true then some (.tup (a ++ b), L) else none
  | .ref n, .ref m => (lstAt L n).bind fun a => (lstAt L m).bind fun b => if small (a.length + b.length) = true then some (.ref L.length, L ++ [.lst (a ++ b)]) else none
  | _, _ => none
noncomputable def rAddA (K : PySem.W.Frag) : R2 := fun x y H Q => rI0 (fun i j => .int (i + j)) x y H Q ∨ (∃ i j, x = .str i ∧ y = .str j ∧ i.length + j.length ≤ sizeLine ∧ Q (.str (i ++ j)) H) ∨ rCatT K x y H Q ∨ rCat x y H Q
theorem op_addA {X : Cx} : OpR X (binaryOp .Add) (rAddA X.K) := op_add.or (op_add_str.or (op_catT.or op_cat))
theorem sem_add {K : PySem.W.Frag} : SemR2 K (rAddA K) semAdd := by
  intro H α L u w x y z L' Q A ru rw e q
  unfold semAdd at e
  split at e
  · cases e
    unfold RepU at ru rw
    exact .inl ⟨_, _, ru, rw, q _ H α (.refl _ _) A rfl⟩
  · split at e
    · rename_i h
      cases e
      unfold RepU at ru rw
      exact .inr (.inl ⟨_, _, ru, rw, small_le h, q _ H α (.refl _ _) A rfl⟩)
    · cases e
  · rename_i a b
    split at e
    · rename_i h
      cases e
      unfold RepU at ru rw
      obtain ⟨p, xs, rfl, s1, r1⟩ := ru
      obtain ⟨p2, ys, rfl, s2, r2⟩ := rw
      have e1 := r1.length
      have e2 := r2.length
      refine .inr (.inr (.inl ⟨p, p2, xs, ys, rfl, rfl, s1, s2, ?_, by rw [← e1, ← e2]; exact small_le h.2, fun hy => ?_, fun hy l hl => ?_⟩))
      · intro hx; subst hx
        cases a with
        | nil => simp at h
        | cons _ _ => simp at e1
      · subst hy
        have hb : b = [] := by
          cases b with
          | nil => rfl
          | cons _ _ => simp at e2
        subst hb
        refine q _ H α (.refl _ _) A ?_
        unfold RepU
        exact ⟨p, xs, rfl, s1, by rw [List.append_nil]; exact r1⟩
      · obtain ⟨g, A', r⟩ := A.tup (r1.append r2) hl
        exact q _ _ α g A' r
    · cases e
  · rename_i n m
    obtain ⟨a, ha, e⟩ := Option.bind_eq_some_iff.mp e
    obtain ⟨b, hb, e⟩ := Option.bind_eq_some_iff.mp e
    split at e
    · rename_i h
      cases e
      obtain ⟨p, xs, e1, h1, r1⟩ := lstAt_ok A ha
      obtain ⟨p2, ys, e2, h2, r2⟩ := lstAt_ok A hb
      obtain ⟨p', e1', rfl⟩ := ru.ref_of A
      obtain ⟨p2', e2', rfl⟩ := rw.ref_of A
      rw [e1] at e1'; cases e1'
      rw [e2] at e2'; cases e2'
      refine .inr (.inr (.inr ⟨p, p2, xs, ys, rfl, rfl, h1, h2, by rw [← r1.length, ← r2.length]; exact small_le h, fun l hl => ?_⟩))
      obtain ⟨g, A', r⟩ := A.lst (r1.append r2) hl
      exact q _ _ _ g A' r
    · cases e
  · cases e
noncomputable def semI (C : Int → Int → Bool) (g : Int → Int → U) : S2 := fun u w L => match u, w with
  | .int i, .int j => if C i j = true then some (g i j, L) else none
  | _, _ => none
theorem sem_I {K : PySem.W.Frag} {C : Int → Int → Prop} {Cb : Int → Int → Bool} {g : Int → Int → V} {g' : Int → Int → U} (hC : ∀ i j, Cb i j = true → C i j) (hg : ∀ i j H α, RepU K H α (g' i j) (g i j)) : SemR2 K (rI C g) (semI Cb g') := by
  intro H α L u w x y z L' Q A ru rw e q
  unfold semI at e
  split at e
  · split at e
    · rename_i h
      cases e
      unfold RepU at ru rw
      exact ⟨_, _, ru, rw, hC _ _ h, q _ H α (.refl _ _) A (hg _ _ _ _)⟩
    · cases e
  · cases e
noncomputable def semI0 (g : Int → Int → U) : S2 := fun u w L => match u, w with
  | .int i, .int j => some (g i j, L)
  | _, _ => none
theorem sem_I0 {K : PySem.W.Frag} {g : Int → Int → V} {g' : Int → Int → U} (hg : ∀ i j H α, RepU K H α (g' i j) (g i j)) : SemR2 K (rI0 g) (semI0 g') := by
  intro H α L u w x y z L' Q A ru rw e q
  unfold semI0 at e
  split at e
  · cases e
    unfold RepU at ru rw
    exact ⟨_, _, ru, rw, q _ H α (.refl _ _) A (hg _ _ _ _)⟩
  · cases e
noncomputable def semSub : S2 := semI0 fun i j => .int (i - j)
theorem sem_sub {K : PySem.W.Frag} : SemR2 K (rI0 fun i j => .int (i - j)) semSub := sem_I0 fun _ _ _ _ => rfl
noncomputable def mulOk (i j : Int) : Bool := (decide (-(2 ^ 64) < i) && decide (i < 2 ^ 64)) || (decide (-(2 ^ 64) < j) && decide (j < 2 ^ 64))
noncomputable def semMul : S2 := fun u w L => match u, w with
  | .int i, .int j => if mulOk i j = true then some (.int (i * j), L) else none
  | .str a, .int j => if a.length ≤ 1000 ∧ -1000 ≤ j ∧ j ≤ 1000 then some (.str (Txt.mul a j), L) else none
  | .ref n, .int k => (lstAt L n).bind fun a => if -1000000 ≤ k ∧ k ≤ 1000000 ∧ small (a.length * k.toNat) = true then some (.ref L.length, L ++ [.lst (List.replicate k.toNat a).flatten]) else none
  | _, _ => none
noncomputable def rMulA : R2 := fun x y H Q => rI CMul (fun i j => .int (i * j)) x y H Q ∨ (∃ a j, x = .str a ∧ y = .int j ∧ MulOk a j ∧ Q (.str (Txt.mul a j)) H) ∨ rRep x y H Q
theorem op_mul_str {X : Cx} : OpR X (binaryOp .Mult) (fun x y H Q => ∃ a j, x = .str a ∧ y = .int j ∧ MulOk a j ∧ Q (.str (Txt.mul a j)) H) := by
  intro pins s σ H x y v u Q I rx ry h
  obtain ⟨a, j, rfl, rfl, hok, q⟩ := h
  obtain ⟨t, rfl⟩ := rx
  obtain ⟨t', rfl⟩ := ry
  exact SB.mul hok fun t' k => ⟨.str (Txt.mul a j), H, I.tok _, ⟨_, rfl⟩, q⟩
theorem op_mulA {X : Cx} : OpR X (binaryOp .Mult) rMulA := op_mul.or (op_mul_str.or op_rep)
theorem RepL.flat {K : PySem.W.Frag} {H : Hp} {α : List Addr} {us : List U} {xs : List V} (h : RepL K H α us xs) : ∀ k : Nat, RepL K H α (List.replicate k us).flatten (List.replicate k xs).flatten
  | 0 => .nil
  | k + 1 => by rw [List.replicate_succ, List.replicate_succ, List.flatten_cons, List.flatten_cons]; exact h.append (RepL.flat h k)
theorem sem_mul {K : PySem.W.Frag} : SemR2 K rMulA semMul := by
  intro H α L u w x y z L' Q A ru rw e q
  unfold semMul at e
  split at e
  · rename_i i j
    split at e
    · rename_i h
      cases e
      unfold RepU at ru rw
      refine .inl ⟨_, _, ru, rw, ?_, q _ H α (.refl _ _) A rfl⟩
      simp only [mulOk, Bool.or_eq_true, Bool.and_eq_true, decide_eq_true_eq] at h
      exact h
    · cases e
  · rename_i a j
    split at e
    · rename_i h
      cases e
      unfold RepU at ru rw
      exact .inr (.inl ⟨_, _, ru, rw, mulOk_of 1000 1000 h.1 (by omega) (by omega) (by decide) (by decide), q _ H α (.refl _ _) A rfl⟩)
    · cases e
  · rename_i n k
    obtain ⟨a, ha, e⟩ := Option.bind_eq_some_iff.mp e
    split at e
    · rename_i h
      cases e
      obtain ⟨p, xs, e1, h1, r1⟩ := lstAt_ok A ha
      obtain ⟨p', e1', rfl⟩ := ru.ref_of A
      rw [e1] at e1'; cases e1'
      unfold RepU at rw
      refine .inr (.inr ⟨p, k, xs, rfl, rw, h1, by omega, by omega, by rw [← r1.length]; exact small_le h.2.2, fun l hl => ?_⟩)
      obtain ⟨g, A', r⟩ := A.lst (r1.flat k.toNat) hl
      exact q _ _ _ g A' r
    · cases e
  · cases e
noncomputable def CDivW (i j : Int) : Prop := 0 < j ∧ j < 1152921504606846976
theorem op_fdivW {X : Cx} : OpR X (binaryOp .FloorDiv) (rI CDivW fun i j => .int (i / j)) := opI fun i j _ _ _ _ _ hc q => by
  have h1 : (0 : Int) < j := hc.1
  have h2 : j < 1152921504606846976 := hc.2
  refine floordiv_int (by omega) (by rw [Int.fdiv_eq_ediv_of_nonneg i (by omega)]; exact q) (.inl (PyProof.noPylong_of_log2 ?_))
  have h3 : j.natAbs.log2 < 60 := (Nat.log2_lt (by omega)).mpr (by omega)
  omega
noncomputable def divOk (i j : Int) : Bool := decide (0 < j) && decide (j < 1152921504606846976)
noncomputable def semDiv : S2 := semI divOk fun i j => .int (i / j)
theorem sem_div {K : PySem.W.Frag} : SemR2 K (rI CDivW fun i j => .int (i / j)) semDiv := sem_I (fun i j h => by simpa [divOk, CDivW] using h) fun _ _ _ _ => rfl
noncomputable def semMod : S2 := semI (fun _ j => decide (0 < j)) fun i j => .int (i % j)
theorem sem_mod {K : PySem.W.Frag} : SemR2 K (rI (fun _ j => 0 < j) fun i j => .int (i % j)) semMod := sem_I (fun i j h => by simpa using h) fun _ _ _ _ => rfl
noncomputable def powOk (i j : Int) : Bool := decide (0 ≤ j) && decide (j ≤ 1000000) && decide (i.natAbs < 2 ^ 64)
noncomputable def semPow : S2 := semI powOk fun i j => .int (i ^ j.toNat)
theorem sem_pow {K : PySem.W.Frag} : SemR2 K (rI CPow fun i j => .int (i ^ j.toNat)) semPow := sem_I (fun i j h => by simp [powOk] at h; exact ⟨h.1.1, h.1.2, h.2⟩) fun _ _ _ _ => rfl
noncomputable def semLe : S2 := semI0 fun i j => .bl (decide (i ≤ j))
noncomputable def semGt : S2 := semI0 fun i j => .bl (decide (j < i))
noncomputable def semGe : S2 := semI0 fun i j => .bl (decide (j ≤ i))
noncomputable def semLt : S2 := semI0 fun i j => .bl (decide (i < j))
theorem sem_le {K : PySem.W.Frag} : SemR2 K (rI0 fun i j => .bl (decide (i ≤ j))) semLe := sem_I0 fun _ _ _ _ => rfl
theorem sem_gt {K : PySem.W.Frag} : SemR2 K (rI0 fun i j => .bl (decide (j < i))) semGt := sem_I0 fun _ _ _ _ => rfl
theorem sem_ge {K : PySem.W.Frag} : SemR2 K (rI0 fun i j => .bl (decide (j ≤ i))) semGe := sem_I0 fun _ _ _ _ => rfl
theorem sem_lt {K : PySem.W.Frag} : SemR2 K (rI0 fun i j => .bl (decide (i < j))) semLt := sem_I0 fun _ _ _ _ => rfl
noncomputable def mapO {β γ : Type} (f : β → Option γ) : List β → Option (List γ)
  | [] => some []
  | u :: r => (f u).bind fun d => (mapO f r).map fun ds => d :: ds
noncomputable def toP (L : UH) : Nat → U → Option PyData
  | 0, _ => none
  | _ + 1, .non => some .none
  | _ + 1, .bl b => some (.bool b)
  | _ + 1, .int i => some (.int i)
  | _ + 1, .str x => some (.str x)
  | n + 1, .tup l => (mapO (toP L n) l).map .tuple
  | n + 1, .ref k => (seqAt L k).bind fun l => (mapO (toP L n) l).map .list
section
variable {X : Cx} {pins : List (Addr × Obj)} {σ : L2.St} {H : Hp} {s : Shared} {α : List Addr} {L : UH}
theorem toP_all {n : Nat} (ih : ∀ (u : U) (x : V) (v : Value) (d : PyData), RepU X.K H α u x → RelV x v → toP L n u = some d → ∃ as, Reads s.heap v d as) : ∀ (l : List U) (xs : List V) (vs : List Value) (ds : List PyData), RepL X.K H α l xs → Vals xs vs → mapO (toP L n) l = some ds → ∃ as, ReadsAll s.heap vs ds as
  | [], xs, vs, ds, r, hv, e => by
    unfold RepL at r; subst r; cases hv; cases e; exact ⟨_, .nil⟩
  | u :: l, xs, vs, ds, r, hv, e => by
    unfold RepL at r
    obtain ⟨x, xr, rfl, r1, r2⟩ := r
    cases hv with
    | cons h1 h2 =>
      obtain ⟨d, e1, e⟩ := Option.bind_eq_some_iff.mp e
      obtain ⟨dr, e2, e⟩ := Option.map_eq_some_iff.mp e
      subst e
      obtain ⟨as, q1⟩ := ih u x _ d r1 h1 e1
      obtain ⟨bs, q2⟩ := toP_all ih l xr _ dr r2 h2 e2
      exact ⟨_, .cons q1 q2⟩
theorem toP_ok (I : Inv X pins σ H s) (A : Abs X.K H α L) : ∀ (n : Nat) (u : U) (x : V) (v : Value) (d : PyData), RepU X.K H α u x → RelV x v → toP L n u = some d → ∃ as, Reads s.heap v d as
  | 0, _, _, _, _, _, _, e => by cases e
  | n + 1, u, x, v, d, r, hv, e => by
    cases u with
    | non => unfold RepU at r; subst r; cases hv; cases e; exact ⟨_, .none⟩
    | bl b => unfold RepU at r; subst r; cases hv; cases e; exact ⟨_, .bool b⟩
    | int i => unfold RepU at r; subst r; obtain ⟨t, rfl⟩ := hv; cases e; exact ⟨_, .int i t⟩
    | str y => unfold RepU at r; subst r; obtain ⟨t, rfl⟩ := hv; cases e; exact ⟨_, .str y t⟩
    | tup l =>
      unfold RepU at r
      obtain ⟨a, xs, rfl, sq, r⟩ := r
      cases hv
      unfold toP at e
      obtain ⟨ds, e1, e⟩ := Option.map_eq_some_iff.mp e
      subst e
      obtain ⟨its, hv, ⟨o, h1, h2, m, h3⟩, _⟩ := I.tuple sq
      obtain ⟨as, q⟩ := toP_all (toP_ok I A n) l xs its ds r hv e1
      exact ⟨_, .tuple h1 h2 h3 (by simpa using q)⟩
    | ref k =>
      unfold RepU at r
      obtain ⟨a, ea, rfl⟩ := r
      cases hv
      unfold toP at e
      obtain ⟨l, hl, e⟩ := Option.bind_eq_some_iff.mp e
      obtain ⟨ds, e1, e⟩ := Option.map_eq_some_iff.mp e
      subst e
      obtain ⟨a', xs, ea', sq, r⟩ := seqAt_ok A hl
      rw [ea] at ea'; cases ea'
      obtain ⟨its, hv, ⟨o, m, h1, h2, _, h3⟩, _⟩ := I.list sq
      obtain ⟨as, q⟩ := toP_all (toP_ok I A n) l xs its ds r hv e1
      exact ⟨_, .list h1 h2 h3 (by simpa using q)⟩
end
noncomputable def eqP (u w : U) (L : UH) : Option Bool := (toP L 8 u).bind fun d => (toP L 8 w).bind fun e => if SeqAt.shaped d = true ∧ SeqAt.shaped e = true then some (PyData.eqv d e) else none
noncomputable def rEqU (K : PySem.W.Frag) (neg : Bool) : R2 := fun x y H Q => ∃ α L u w b, Abs K H α L ∧ RepU K H α u x ∧ RepU K H α w y ∧ eqP u w L = some b ∧ Q (.bl (if neg then !b else b)) H
theorem op_eqU {X : Cx} (hu : X.A.units + 64 < cLine) : OpR X (compareOp .Eq) (rEqU X.K false) := by
  intro pins s σ H x y v u Q I rx ry h
  obtain ⟨α, L, a, b, k, A, ra, rb, e, q⟩ := h
  obtain ⟨d, e1, e⟩ := Option.bind_eq_some_iff.mp e
  obtain ⟨d2, e2, e⟩ := Option.bind_eq_some_iff.mp e
  split at e
  · rename_i hs
    cases e
    obtain ⟨as, q1⟩ := toP_ok I A 8 a x v d ra rx e1
    obtain ⟨bs, q2⟩ := toP_ok I A 8 b y u d2 rb ry e2
    exact eq_dataH q1 q2 hs.1 hs.2 hu ⟨.bl _, H, I, rfl, q⟩
  · cases e
theorem op_neU {X : Cx} (hu : X.A.units + 64 < cLine) : OpR X (compareOp .NotEq) (rEqU X.K true) := by
  intro pins s σ H x y v u Q I rx ry h
  obtain ⟨α, L, a, b, k, A, ra, rb, e, q⟩ := h
  obtain ⟨d, e1, e⟩ := Option.bind_eq_some_iff.mp e
  obtain ⟨d2, e2, e⟩ := Option.bind_eq_some_iff.mp e
  split at e
  · rename_i hs
    cases e
    obtain ⟨as, q1⟩ := toP_ok I A 8 a x v d ra rx e1
    obtain ⟨bs, q2⟩ := toP_ok I A 8 b y u d2 rb ry e2
    exact ne_dataH q1 q2 hs.1 hs.2 hu ⟨.bl _, H, I, rfl, q⟩
  · cases e
noncomputable def semEq : S2 := fun u w L => (eqP u w L).map fun b => (.bl b, L)
noncomputable def semNe : S2 := fun u w L => (eqP u w L).map fun b => (.bl (!b), L)
theorem sem_eq {K : PySem.W.Frag} : SemR2 K (rEqU K false) semEq := by
  intro H α L u w x y z L' Q A ru rw e q
  obtain ⟨b, e1, e⟩ := Option.map_eq_some_iff.mp e
  cases e
  exact ⟨α, _, u, w, b, A, ru, rw, e1, q _ H α (.refl _ _) A rfl⟩
theorem sem_ne {K : PySem.W.Frag} : SemR2 K (rEqU K true) semNe := by
  intro H α L u w x y z L' Q A ru rw e q
  obtain ⟨b, e1, e⟩ := Option.map_eq_some_iff.mp e
  cases e
  exact ⟨α, _, u, w, b, A, ru, rw, e1, q _ H α (.refl _ _) A rfl⟩
noncomputable def semIs (neg : Bool) : S2 := fun u w L => match u, w with
  | .non, .non => some (.bl (!neg), L)
  | .bl a, .bl b => some (.bl (if neg then !(a == b) else a == b), L)
  | .int _, .non => some (.bl neg, L)
  | .bl _, .non => some (.bl neg, L)
  | .str _, .non => some (.bl neg, L)
  | .tup _, .non => some (.bl neg, L)
  | .ref _, .non => some (.bl neg, L)
  | _, _ => none
noncomputable def isSome : U → Bool
  | .non => false
  | _ => true
end MR
set_option Elab.async false
set_option linter.all false
set_option maxRecDepth 100000
set_option maxHeartbeats 1000000
namespace MR
open PySem PySem.Spec PyProof.Rows L2
theorem RepL.atI {K : PySem.W.Frag} {H : Hp} {α : List Addr} {us : List U} {xs : List V} {i : Int} {u : U} (r : RepL K H α us xs) (h : L2.atI us i = some u) : ∃ x, L2.atI xs i = some x ∧ RepU K H α u x := by
  unfold L2.atI at h ⊢
  obtain ⟨j, e1, e2⟩ := Option.bind_eq_some_iff.mp h
  obtain ⟨x, e3, r3⟩ := r.get e2
  exact ⟨x, by rw [← r.length, e1]; exact e3, r3⟩
noncomputable def semIx : S2 := fun u w L => match u, w with
  | .tup l, .int i => (L2.atI l i).map fun z => (z, L)
  | .ref n, .int i => (seqAt L n).bind fun l => (L2.atI l i).map fun z => (z, L)
  | .str x, .int i => if small x.length = true then (L2.atI x.cps.toList i).map fun c => (.str ⟨#[c]⟩, L) else none
  | _, _ => none
theorem sem_ix {K : PySem.W.Frag} : SemR2 K (rIx K) semIx := by
  intro H α L u w x y z L' Q A ru rw e q
  unfold semIx at e
  split at e
  · obtain ⟨c, e1, e⟩ := Option.map_eq_some_iff.mp e
    cases e
    unfold RepU at ru rw
    obtain ⟨a, xs, rfl, sq, r⟩ := ru
    obtain ⟨v, e2, r2⟩ := r.atI e1
    exact .inr (.inl ⟨a, xs, _, v, rfl, rw, sq, e2, q _ H α (.refl _ _) A r2⟩)
  · obtain ⟨l, hl, e⟩ := Option.bind_eq_some_iff.mp e
    obtain ⟨c, e1, e⟩ := Option.map_eq_some_iff.mp e
    cases e
    obtain ⟨a, xs, ea, sq, r⟩ := seqAt_ok A hl
    obtain ⟨a', ea', rfl⟩ := ru.ref_of A
    rw [ea] at ea'; cases ea'
    unfold RepU at rw
    obtain ⟨v, e2, r2⟩ := r.atI e1
    exact .inl ⟨a, xs, _, v, rfl, rw, sq, e2, q _ H α (.refl _ _) A r2⟩
  · split at e
    · rename_i hs
      obtain ⟨c, e1, e⟩ := Option.map_eq_some_iff.mp e
      cases e
      unfold RepU at ru rw
      exact .inr (.inr ⟨_, _, c, ru, rw, small_le hs, e1, q _ H α (.refl _ _) A rfl⟩)
    · cases e
  · cases e
noncomputable def cutU (l : List U) (lo hi : Option Int) : List U := (l.drop (HT.sIx l.length 0 lo)).take (HT.sIx l.length l.length hi - HT.sIx l.length 0 lo)
theorem RepL.cut {K : PySem.W.Frag} {H : Hp} {α : List Addr} {us : List U} {xs : List V} (r : RepL K H α us xs) (lo hi : Option Int) : RepL K H α (cutU us lo hi) (cutV xs lo hi) := by
  unfold cutU cutV
  rw [r.length]
  exact (r.drop _).take _
noncomputable def semSl : SS := fun u lo hi L => match u with
  | .tup l => if HT.sIx l.length 0 lo = 0 ∧ HT.sIx l.length l.length hi = l.length then none else some (.tup (cutU l lo hi), L)
  | .ref n => (seqAt L n).map fun l => (.ref L.length, L ++ [.lst (cutU l lo hi)])
  | _ => none
noncomputable def rSlA (K : PySem.W.Frag) : V → Option Int → Option Int → Hp → VK → Prop := fun x lo hi H Q => rSlT K x lo hi H Q ∨ rSlL K x lo hi H Q
theorem sl_all {X : Cx} : SlR X (rSlA X.K) := sl_tup.or sl_list
theorem sem_sl {K : PySem.W.Frag} : SemSl K (rSlA K) semSl := by
  intro H α L u x lo hi z L' Q A ru e q
  unfold semSl at e
  split at e
  · split at e
    · cases e
    · rename_i hn
      cases e
      unfold RepU at ru
      obtain ⟨a, xs, rfl, sq, r⟩ := ru
      refine .inl ⟨a, xs, rfl, sq, by rw [← r.length]; exact hn, fun p hp => ?_⟩
      obtain ⟨g, A', r'⟩ := A.tup (r.cut lo hi) hp
      exact q _ _ α g A' r'
  · obtain ⟨l, hl, e⟩ := Option.map_eq_some_iff.mp e
    cases e
    obtain ⟨a, xs, ea, sq, r⟩ := seqAt_ok A hl
    obtain ⟨a', ea', rfl⟩ := ru.ref_of A
    rw [ea] at ea'; cases ea'
    refine .inr ⟨a, xs, rfl, sq, fun p hp => ?_⟩
    obtain ⟨g, A', r'⟩ := A.lst (r.cut lo hi) hp
    exact q _ _ _ g A' r'
  · cases e
noncomputable def lenU (u : U) (L : UH) : Option Nat := match u with
  | .str y => if small y.length = true then some y.length else none
  | .tup l => some l.length
  | .ref n => (seqAt L n).map List.length
  | _ => none
noncomputable def semLen : SC := fun us L => match us with
  | [u] => (lenU u L).map fun (n : Nat) => (U.int (n : Int), L)
  | _ => none
theorem sem_len {K : PySem.W.Frag} : SemC K (fun xs H Q => ∃ x n, xs = [x] ∧ LenV K x H n ∧ Q (.int n) H) semLen := by
  intro H α L us xs z L' Q A r e q
  unfold semLen at e
  split at e
  · rename_i u
    obtain ⟨n, e1, e⟩ := Option.map_eq_some_iff.mp e
    cases e
    obtain ⟨x, rfl, rx⟩ := r.one
    refine ⟨x, n, rfl, ?_, q _ H α (.refl _ _) A rfl⟩
    cases u with
    | str y =>
      unfold lenU at e1
      simp only at e1
      split at e1
      · rename_i hs; cases e1; unfold RepU at rx; subst rx; exact ⟨small_le hs, rfl⟩
      · cases e1
    | tup l =>
      cases e1
      unfold RepU at rx
      obtain ⟨a, ys, rfl, sq, r2⟩ := rx
      exact .inr ⟨ys, sq, r2.length⟩
    | ref k =>
      obtain ⟨l, hl, e2⟩ := Option.map_eq_some_iff.mp e1
      subst e2
      obtain ⟨a, ys, ea, sq, r2⟩ := seqAt_ok A hl
      obtain ⟨a', ea', rfl⟩ := rx.ref_of A
      rw [ea] at ea'; cases ea'
      exact .inl ⟨ys, sq, r2.length⟩
    | _ => cases e1
  · cases e
noncomputable def toI : U → Option Int
  | .int i => some i
  | _ => none
theorem toIs_ok {K : PySem.W.Frag} {H : Hp} {α : List Addr} : ∀ {us : List U} {xs : List V} {ns : List Int}, RepL K H α us xs → mapO toI us = some ns → xs = ns.map V.int
  | [], xs, ys, r, h => by unfold RepL at r; subst r; cases h; rfl
  | u :: us, xs, ys, r, h => by
    unfold RepL at r
    obtain ⟨x, xr, rfl, r1, r2⟩ := r
    obtain ⟨y, e1, h⟩ := Option.bind_eq_some_iff.mp h
    obtain ⟨yr, e2, h⟩ := Option.map_eq_some_iff.mp h
    subst h
    cases u <;> simp only [toI] at e1 <;> first
      | (cases e1; unfold RepU at r1; subst r1; rw [toIs_ok r2 e2]; rfl)
      | cases e1
noncomputable def maxI : List Int → Int
  | [] => 0
  | [a] => a
  | a :: r => max a (maxI r)
theorem maxI_is : ∀ (ns : List Int) (M : Int), M ∈ ns → (∀ a, a ∈ ns → a ≤ M) → maxI ns = M
  | [], M, h, _ => by cases h
  | [a], M, h, _ => by simp at h; exact h.symm
  | a :: b :: r, M, h, hm => by
    show max a (maxI (b :: r)) = M
    by_cases hb : M ∈ b :: r
    · rw [maxI_is (b :: r) M hb fun c hc => hm c (List.mem_cons_of_mem _ hc)]
      have := hm a (List.mem_cons_self ..)
      omega
    · rcases List.mem_cons.mp h with rfl | h
      · have hle : ∀ (l : List Int), l ≠ [] → (∀ c, c ∈ l → c ≤ M) → maxI l ≤ M := by
          intro l
          induction l with
          | nil => intro h; exact absurd rfl h
          | cons c t ih =>
            intro _ hc
            cases t with
            | nil => exact hc c (List.mem_cons_self ..)
            | cons d t =>
              have h1 := hc c (List.mem_cons_self ..)
              have h2 := ih (by simp) fun e he => hc e (List.mem_cons_of_mem _ he)
              show max c (maxI (d :: t)) ≤ M
              omega
        have := hle (b :: r) (by simp) fun c hc => hm c (List.mem_cons_of_mem _ hc)
        omega
      · exact absurd h hb
section
variable {X : Cx}
theorem call_sumL (hc : X.calm = true) : CallR X (.builtin "sum") (fun xs H Q => ∃ (p : Addr) (ns : List Int), xs = [.ref p] ∧ SqL X.K H p (ns.map V.int) ∧ Q (.int ns.sum) H) := by
  intro pins s σ H xs us Q I r h
  obtain ⟨p, ns, rfl, hq, q⟩ := h
  obtain ⟨u, rfl, rx⟩ := vals1 r
  cases rx
  obtain ⟨its, r', pl, hz⟩ := I.list hq
  have hi : IntsAre its ns := intsAre_of r'
  obtain ⟨m, F⟩ := I.fr
  obtain ⟨xs, hx⟩ := hi.allInts.items
  have hl' : s.heap.IsList p (intItems xs) := hx ▸ pl.isList
  refine sum_intListG (I.ok.hd hc) hl' fun h' tk t' hk => ?_
  have e1 : ns = xs.toList.map (·.1) := by
    rw [← nums_intItems, ← hx]
    exact (show numsOf its.toArray.toList = ns from hi.numsOf).symm
  have e2 : preSum (numAt xs) xs.size = ns.sum := by
    rw [preSum_eq, List.take_of_length_le (by simp), e1]
  rw [e2]
  exact ⟨.int ns.sum, H, I.kept hk, ⟨_, rfl⟩, q⟩
theorem call_sumT (hc : X.calm = true) : CallR X (.builtin "sum") (fun xs H Q => ∃ (p : Addr) (ns : List Int), xs = [.ref p] ∧ SqT X.K H p (ns.map V.int) ∧ Q (.int ns.sum) H) := by
  intro pins s σ H xs us Q I r h
  obtain ⟨p, ns, rfl, hq, q⟩ := h
  obtain ⟨u, rfl, rx⟩ := vals1 r
  cases rx
  obtain ⟨its, r', pl, hz⟩ := I.tuple hq
  have hi : IntsAre its ns := intsAre_of r'
  obtain ⟨xs, hx⟩ := hi.allInts.items
  have hl' : s.heap.IsTuple p (intItems xs) := hx ▸ pl
  refine PySem.W.ktm_sumG (I.ok.hd hc) hl' fun h' tk t' hk => ?_
  have e1 : ns = xs.toList.map (·.1) := by
    rw [← nums_intItems, ← hx]
    exact (show numsOf its.toArray.toList = ns from hi.numsOf).symm
  have e2 : preSum (numAt xs) xs.size = ns.sum := by
    rw [preSum_eq, List.take_of_length_le (by simp), e1]
  rw [e2]
  exact ⟨.int ns.sum, H, I.kept hk, ⟨_, rfl⟩, q⟩
theorem call_sumA (hc : X.calm = true) : CallR X (.builtin "sum") (fun xs H Q => (∃ (p : Addr) (ns : List Int), xs = [.ref p] ∧ SqL X.K H p (ns.map V.int) ∧ Q (.int ns.sum) H) ∨ ∃ (p : Addr) (ns : List Int), xs = [.ref p] ∧ SqT X.K H p (ns.map V.int) ∧ Q (.int ns.sum) H) := (call_sumL hc).or (call_sumT hc)
theorem call_maxL (hc : X.calm = true) : CallR X (.builtin "max") (fun xs H Q => ∃ (p : Addr) (ns : List Int), xs = [.ref p] ∧ SqL X.K H p (ns.map V.int) ∧ 0 < ns.length ∧ Q (.int (maxI ns)) H) := by
  intro pins s σ H xs us Q I r h
  obtain ⟨p, ns, rfl, hq, hne, q⟩ := h
  obtain ⟨u, rfl, rx⟩ := vals1 r
  cases rx
  obtain ⟨its, r', pl, hz⟩ := I.list hq
  have hi : IntsAre its ns := intsAre_of r'
  obtain ⟨xs, e⟩ := hi.allInts.items
  have hns : ns = xs.toList.map (·.1) := by rw [← hi.numsOf, ← nums_intItems, ← e]
  have hsz : 0 < xs.size := by
    have h3 := hne; rw [hns, List.length_map, Array.length_toList] at h3; exact h3
  have hl' : s.heap.IsList p (intItems xs) := e ▸ pl.isList
  refine max_intList (I.ok.hd hc) hl' hsz fun v h' tk hv hk => ?_
  obtain ⟨t, rfl⟩ := intItems_at hv
  obtain ⟨h1, h2⟩ := argBest_gt (numAt xs) (xs.size - 1)
  have hM := maxI_is ns (numAt xs (argBest (fun i j => decide (numAt xs i > numAt xs j)) (xs.size - 1))) (by rw [hns, numAt_eq]; exact getD_mem (by rw [List.length_map, Array.length_toList]; omega)) (fun a ha => by
    rw [hns] at ha
    obtain ⟨j, hj, rfl⟩ := mem_getD ha
    rw [List.length_map, Array.length_toList] at hj
    rw [← numAt_eq]; exact h2 j (by omega))
  rw [hM] at q
  exact ⟨.int _, H, I.kept hk, ⟨_, rfl⟩, q⟩
end
noncomputable def semSum : SC := fun us L => match us with
  | [.ref n] => (seqAt L n).bind fun l => (mapO toI l).map fun ns => (.int ns.sum, L)
  | [.tup l] => (mapO toI l).map fun ns => (.int ns.sum, L)
  | _ => none
theorem refs_at {K : PySem.W.Frag} {H : Hp} {α : List Addr} {L : UH} {n : Nat} {l : List U} {x : V} (A : Abs K H α L) (hl : seqAt L n = some l) (rx : RepU K H α (.ref n) x) : ∃ a ys, x = .ref a ∧ SqL K H a ys ∧ RepL K H α l ys := by
  obtain ⟨a, ys, ea, sq, r2⟩ := seqAt_ok A hl
  obtain ⟨a', ea', rfl⟩ := rx.ref_of A
  rw [ea] at ea'; cases ea'
  exact ⟨a, ys, rfl, sq, r2⟩
theorem sem_sum {K : PySem.W.Frag} : SemC K (fun xs H Q => (∃ (p : Addr) (ns : List Int), xs = [.ref p] ∧ SqL K H p (ns.map V.int) ∧ Q (.int ns.sum) H) ∨ ∃ (p : Addr) (ns : List Int), xs = [.ref p] ∧ SqT K H p (ns.map V.int) ∧ Q (.int ns.sum) H) semSum := by
  intro H α L us xs z L' Q A r e q
  unfold semSum at e
  split at e
  · obtain ⟨l, hl, e⟩ := Option.bind_eq_some_iff.mp e
    obtain ⟨ns, e1, e⟩ := Option.map_eq_some_iff.mp e
    cases e
    obtain ⟨x, rfl, rx⟩ := r.one
    obtain ⟨a, ys, rfl, sq, r2⟩ := refs_at A hl rx
    rw [toIs_ok r2 e1] at sq
    exact .inl ⟨a, ns, rfl, sq, q _ H α (.refl _ _) A rfl⟩
  · obtain ⟨ns, e1, e⟩ := Option.map_eq_some_iff.mp e
    cases e
    obtain ⟨x, rfl, rx⟩ := r.one
    unfold RepU at rx
    obtain ⟨a, ys, rfl, sq, r2⟩ := rx
    rw [toIs_ok r2 e1] at sq
    exact .inr ⟨a, ns, rfl, sq, q _ H α (.refl _ _) A rfl⟩
  · cases e
noncomputable def semMM (g2 : Int → Int → Int) (gl : List Int → Int) : SC := fun us L => match us with
  | [.int i, .int j] => some (.int (g2 i j), L)
  | [.ref n] => (seqAt L n).bind fun l => (mapO toI l).bind fun ns => if ns.isEmpty = true then none else some (.int (gl ns), L)
  | _ => none
noncomputable def semMax : SC := semMM (fun i j => if j > i then j else i) maxI
theorem sem_MM {K : PySem.W.Frag} {g2 : Int → Int → Int} {gl : List Int → Int} : SemC K (fun xs H Q => (∃ i j, xs = [.int i, .int j] ∧ Q (.int (g2 i j)) H) ∨ ∃ (p : Addr) (ns : List Int), xs = [.ref p] ∧ SqL K H p (ns.map V.int) ∧ 0 < ns.length ∧ Q (.int (gl ns)) H) (semMM g2 gl) := by
  intro H α L us xs z L' Q A r e q
  unfold semMM at e
  split at e
  · cases e
    obtain ⟨x, y, rfl, rx, ry⟩ := r.two
    unfold RepU at rx ry
    exact .inl ⟨_, _, by rw [rx, ry], q _ H α (.refl _ _) A rfl⟩
  · obtain ⟨l, hl, e⟩ := Option.bind_eq_some_iff.mp e
    obtain ⟨ns, e1, e⟩ := Option.bind_eq_some_iff.mp e
    split at e
    · cases e
    · rename_i hne
      cases e
      obtain ⟨x, rfl, rx⟩ := r.one
      obtain ⟨a, ys, rfl, sq, r2⟩ := refs_at A hl rx
      rw [toIs_ok r2 e1] at sq
      exact .inr ⟨a, ns, rfl, sq, by cases ns <;> simp_all, q _ H α (.refl _ _) A rfl⟩
  · cases e
theorem call_maxA {X : Cx} (hc : X.calm = true) : CallR X (.builtin "max") (fun xs H Q => (∃ i j, xs = [.int i, .int j] ∧ Q (.int (if j > i then j else i)) H) ∨ ∃ (p : Addr) (ns : List Int), xs = [.ref p] ∧ SqL X.K H p (ns.map V.int) ∧ 0 < ns.length ∧ Q (.int (maxI ns)) H) := (call_max2 hc).or (call_maxL hc)
theorem sem_max {K : PySem.W.Frag} : SemC K (fun xs H Q => (∃ i j, xs = [.int i, .int j] ∧ Q (.int (if j > i then j else i)) H) ∨ ∃ (p : Addr) (ns : List Int), xs = [.ref p] ∧ SqL K H p (ns.map V.int) ∧ 0 < ns.length ∧ Q (.int (maxI ns)) H) semMax := sem_MM
noncomputable def semInt : SC := fun us L => match us with
  | [.int i] => some (.int i, L)
  | [.bl k] => some (.int (if k then 1 else 0), L)
  | _ => none
theorem sem_int {K : PySem.W.Frag} : SemC K (fun xs H Q => (∃ i, xs = [.int i] ∧ Q (.int i) H) ∨ ∃ k, xs = [.bl k] ∧ Q (.int (if k then 1 else 0)) H) semInt := by
  intro H α L us xs z L' Q A r e q
  unfold semInt at e
  split at e
  · cases e
    obtain ⟨x, rfl, rx⟩ := r.one
    unfold RepU at rx
    exact .inl ⟨_, by rw [rx], q _ H α (.refl _ _) A rfl⟩
  · cases e
    obtain ⟨x, rfl, rx⟩ := r.one
    unfold RepU at rx
    exact .inr ⟨_, by rw [rx], q _ H α (.refl _ _) A rfl⟩
  · cases e
noncomputable def semTuple : SC := fun us L => match us with
  | [.ref n] => (seqAt L n).map fun l => (.tup l, L)
  | [.tup l] => some (.tup l, L)
  | _ => none
theorem sem_tuple {K : PySem.W.Frag} : SemC K (fun xs H Q => ∃ p ys, xs = [.ref p] ∧ ((SqL K H p ys ∧ ∀ l, H l = none → Q (.ref l) (upd H l (.tup ys))) ∨ (SqT K H p ys ∧ Q (.ref p) H))) semTuple := by
  intro H α L us xs z L' Q A r e q
  unfold semTuple at e
  split at e
  · obtain ⟨l, hl, e⟩ := Option.map_eq_some_iff.mp e
    cases e
    obtain ⟨x, rfl, rx⟩ := r.one
    obtain ⟨a, ys, rfl, sq, r2⟩ := refs_at A hl rx
    refine ⟨a, ys, rfl, .inl ⟨sq, fun p hp => ?_⟩⟩
    obtain ⟨g, A', r'⟩ := A.tup r2 hp
    exact q _ _ _ g A' r'
  · cases e
    obtain ⟨x, rfl, rx⟩ := r.one
    have rx' := rx
    unfold RepU at rx
    obtain ⟨a, ys, rfl, sq, r2⟩ := rx
    exact ⟨a, ys, rfl, .inr ⟨sq, q _ H α (.refl _ _) A rx'⟩⟩
  · cases e
noncomputable def semAppend : SM := fun u us L => match u, us with
  | .ref n, [y] => (lstAt L n).bind fun l => if decide (l.length < sizeLine) = true then some (.non, L.set n (.lst (l ++ [y]))) else none
  | _, _ => none
theorem ref_lst {K : PySem.W.Frag} {H : Hp} {α : List Addr} {L : UH} {n : Nat} {l : List U} {x : V} (A : Abs K H α L) (hl : lstAt L n = some l) (rx : RepU K H α (.ref n) x) : ∃ a ys, x = .ref a ∧ α[n]? = some a ∧ H a = some (.lst ys) ∧ RepL K H α l ys := by
  obtain ⟨a, ys, ea, sq, r2⟩ := lstAt_ok A hl
  obtain ⟨a', ea', rfl⟩ := rx.ref_of A
  rw [ea] at ea'; cases ea'
  exact ⟨a, ys, rfl, ea, sq, r2⟩
theorem sem_append {K : PySem.W.Frag} : SemM K rAppend semAppend := by
  intro H α L u us x xs z L' Q A ru r e q
  unfold semAppend at e
  split at e
  · obtain ⟨l, hl, e⟩ := Option.bind_eq_some_iff.mp e
    split at e
    · rename_i hs
      cases e
      obtain ⟨y, rfl, ry⟩ := r.one
      obtain ⟨a, ys, rfl, ea, h, r2⟩ := ref_lst A hl ru
      obtain ⟨g, A'⟩ := A.setL hl ea h (r2.append (.cons ry .nil))
      exact ⟨a, ys, y, rfl, rfl, h, by rw [← r2.length]; exact of_decide_eq_true hs, q _ _ _ g A' rfl⟩
    · cases e
  · cases e
noncomputable def semPop : SM := fun u us L => match u, us with
  | .ref n, [.int i] => (lstAt L n).bind fun l => if -(2 ^ 63) ≤ i ∧ i < 2 ^ 63 then (seqIndex? i l.length).bind fun k => (l[k]?).map fun y => (y, L.set n (.lst (l.eraseIdx k))) else none
  | _, _ => none
theorem sem_pop {K : PySem.W.Frag} : SemM K rPopAt semPop := by
  intro H α L u us x xs z L' Q A ru r e q
  unfold semPop at e
  split at e
  · obtain ⟨l, hl, e⟩ := Option.bind_eq_some_iff.mp e
    split at e
    · rename_i hs
      obtain ⟨k, ek, e⟩ := Option.bind_eq_some_iff.mp e
      obtain ⟨y, ey, e⟩ := Option.map_eq_some_iff.mp e
      cases e
      obtain ⟨v, rfl, rv⟩ := r.one
      unfold RepU at rv
      subst rv
      obtain ⟨a, ys, rfl, ea, h, r2⟩ := ref_lst A hl ru
      obtain ⟨w, ew, rw⟩ := r2.get ey
      obtain ⟨g, A'⟩ := A.setL hl ea h (r2.erase k)
      exact ⟨a, ys, _, k, w, rfl, rfl, h, hs.1, hs.2, by rw [← r2.length]; exact ek, ew, q _ _ _ g A' (rw.mono g)⟩
    · cases e
  · cases e
noncomputable def gSub (fo fi : FE) : FG := fun v δ L => (fo δ L).bind fun p => (fi δ p.2).bind fun q => match p.1, q.1 with
  | .ref n, .int k => (lstAt q.2 n).bind fun l => (ixN l.length k).map fun j => (δ, q.2.set n (.lst (l.set j v)))
  | _, _ => none
theorem pgf_sub {X : Cx} {o i : Expr} {fo fi : FE} {pos : Pos} (ho : PEF X o fo) (hi : PEF X i fi) (ha : ∀ v, assign (.Subscript o i pos) X.env v = (do let ov ← holding [v] (eval o X.env); let iv ← holding [v, ov] (eval i X.env); standAt pos; holding [v, ov, iv] (setItem ov iv v); release [v, ov, iv] []) := by intro _; rfl) : PGF X (.Subscript o i pos) (MR.gSub fo fi) := by
  refine PG.imp (pg_sub ho hi set_list ha) ?_
  rintro v σ H Q ⟨α, δ, L, u, A, S, r, δ', L', e, q⟩
  obtain ⟨⟨o', L1⟩, e1, e⟩ := Option.bind_eq_some_iff.mp e
  obtain ⟨⟨i', L2⟩, e2, e⟩ := Option.bind_eq_some_iff.mp e
  refine ⟨α, δ, L, A, S, o', L1, e1, fun x H1 α1 g1 A1 r1 => ⟨α1, δ, L1, A1, S.mono g1, i', L2, e2, fun y H2 α2 g2 A2 r2 => ?_⟩⟩
  simp only at e
  split at e
  · obtain ⟨l, hl, e⟩ := Option.bind_eq_some_iff.mp e
    obtain ⟨j, ej, e⟩ := Option.map_eq_some_iff.mp e
    cases e
    unfold RepU at r2
    subst r2
    obtain ⟨a, ys, rfl, ea, h, r3⟩ := ref_lst A2 hl (r1.mono g2)
    obtain ⟨g, A'⟩ := A2.setL hl ea h (r3.set ((r.mono g1).mono g2) j)
    exact ⟨a, ys, _, j, rfl, rfl, h, by rw [← r3.length]; exact ej, q _ _ _ (g1.trans (g2.trans g)) A' (((S.mono g1).mono g2).mono g)⟩
  · cases e
end MR
set_option Elab.async false
set_option linter.all false
set_option maxRecDepth 100000
set_option maxHeartbeats 1000000
namespace MR
open PySem PySem.Spec PyProof.Rows L2
noncomputable def tyName (u : U) (L : UH) : Option String := match u with
  | .non => some "NoneType"
  | .bl _ => some "bool"
  | .int _ => some "int"
  | .str _ => some "str"
  | .tup _ => some "tuple"
  | .ref n => match L[n]? with
    | some (.lst _) => some "list"
    | some (.ro _) => some "list"
    | some (.dic _) => some "dict"
    | _ => none
noncomputable def isT (t c : String) : Bool := t == c || (t == "bool" && c == "int")
noncomputable def fIsi (c : String) (f : FE) : FE := fun δ L => (f δ L).bind fun p => (tyName p.1 p.2).map fun t => (.bl (isT t c), p.2)
end MR
namespace MR
open PySem PySem.Spec PyProof.Rows L2
theorem law_sp {K : PySem.W.Frag} {F : FN} {H : Hp} {a : Addr} {ns : List Int} {E : XK} (ho : Only H) (hS : SqL K H a (ns.map V.int)) (h : ∃ L', F [.ref 0] [.ro (ns.map U.int)] = some (.bl true, L')) : spF K 1 F [.ref a] H (fun v _ => v = .bl true) E := by
  obtain ⟨L', e⟩ := h
  have ro : RO K H a (ns.map V.int) := by
    rcases hS with (q | ⟨o, q⟩) | q
    · rcases ho a with z | ⟨o, xs, z⟩
      · rw [z] at q; cases q
      · rw [z] at q; cases q
    · exact .inl ⟨o, q⟩
    · exact .inr q
  refine ⟨[a], [.ro (ns.map U.int)], [.ref 0], ⟨rfl, fun i j b o o' e1 e2 e3 e4 => ?_, fun i b o e1 e2 => ?_⟩, .cons ?_ .nil, rfl, .bl true, L', e, fun v H' α' _ _ r => r⟩
  · cases i with
    | zero => cases j with
      | zero => exact .inl rfl
      | succ j => simp at e2
    | succ i => simp at e1
  · cases i with
    | zero => simp at e1 e2; subst e1; subst e2; exact ⟨_, ro, RepL.ints ns⟩
    | succ i => simp at e1
  · unfold RepU; exact ⟨a, rfl, rfl⟩
end MR
set_option Elab.async false
set_option linter.all false
set_option maxRecDepth 100000
set_option maxHeartbeats 2000000
namespace MR
open PySem PySem.Spec PyProof.Rows L2
theorem closure_of (env : PySem.Env) : ∀ (names : List (Str × NameKind)) (cs : List (Str × Addr)), (∀ y ∈ names, y.2 = .free → ∃ c, env.cells.lookup y.1 = some c) → (∀ x c, cs.lookup x = some c → env.cells.lookup x = some c) →
    ∃ cl : List (Str × Addr), (forIn names cs fun (x : Str × NameKind) r => if (x.2 == NameKind.free) = true then do let c ← cellOf env x.1; pure (ForInStep.yield ((x.1, c) :: r)) else pure (ForInStep.yield r) : Sem (List (Str × Addr))) = pure cl ∧
      (∀ x c, cl.lookup x = some c → env.cells.lookup x = some c) ∧ (∀ y ∈ names, y.2 = .free → ∃ c, cl.lookup y.1 = some c) ∧ ∀ x, (∃ c, cs.lookup x = some c) → ∃ c, cl.lookup x = some c
  | [], cs, _, h2 => ⟨cs, rfl, h2, (fun _ h => nomatch h), fun _ h => h⟩
  | (n, k) :: r, cs, h1, h2 => by
    cases hk : k == NameKind.free with
    | true =>
      have hk' : k = .free := by simpa using hk
      obtain ⟨c, hc⟩ := h1 (n, k) (List.mem_cons_self ..) hk'
      have look : ∀ x c', List.lookup x ((n, c) :: cs) = some c' → env.cells.lookup x = some c' := fun x c' e => by
        rw [List.lookup_cons] at e
        cases hx : x == n with
        | true => rw [hx] at e; simp at e; subst e; have : x = n := by simpa using hx
                  rw [this]; exact hc
        | false => rw [hx] at e; exact h2 x c' e
      obtain ⟨cl, e, p1, p2, p3⟩ := closure_of env r ((n, c) :: cs) (fun y hy => h1 y (List.mem_cons_of_mem _ hy)) look
      refine ⟨cl, ?_, p1, fun y hy hf => ?_, fun x hx => ?_⟩
      · rw [List.forIn_cons]
        have e0 : (cellOf env n : Sem Addr) = pure c := by unfold cellOf; rw [hc]
        simp only [hk, if_true, e0]
        exact e
      · rcases List.mem_cons.mp hy with rfl | hy
        · exact p3 n ⟨c, by simp⟩
        · exact p2 y hy hf
      · refine p3 x ?_
        rw [List.lookup_cons]
        cases hx' : x == n with
        | true => exact ⟨c, rfl⟩
        | false => exact hx
    | false =>
      obtain ⟨cl, e, p1, p2, p3⟩ := closure_of env r cs (fun y hy => h1 y (List.mem_cons_of_mem _ hy)) h2
      refine ⟨cl, ?_, p1, fun y hy hf => ?_, p3⟩
      · rw [List.forIn_cons]
        simp only [hk, Bool.false_eq_true, if_false]
        exact e
      · rcases List.mem_cons.mp hy with rfl | hy
        · rw [show k = NameKind.free from hf] at hk; cases hk
        · exact p2 y hy hf
theorem closureFor_ex {scope : Scope} {env : PySem.Env} (h : ∀ y ∈ scope.names, y.2 = .free → ∃ c, env.cells.lookup y.1 = some c) :
    ∃ cl, closureFor scope env = pure cl ∧ (∀ x c, cl.lookup x = some c → env.cells.lookup x = some c) ∧ ∀ y ∈ scope.names, y.2 = .free → ∃ c, cl.lookup y.1 = some c := by
  obtain ⟨cl, e, p1, p2, _⟩ := closure_of env scope.names [] h (fun x c e => by simp at e)
  refine ⟨cl, ?_, p1, p2⟩
  unfold closureFor
  show (forIn scope.names [] _ >>= fun cs => pure cs) = pure cl
  have : (forIn scope.names ([] : List (Str × Addr)) (fun (x : Str × NameKind) (r : List (Str × Addr)) => if (x.2 == NameKind.free) = true then do let c ← cellOf env x.1; pure (ForInStep.yield ((x.1, c) :: r)) else pure (ForInStep.yield r)) : Sem (List (Str × Addr))) >>= (fun cs => pure cs) = pure cl := by rw [e]; rfl
  exact this
end MR
set_option Elab.async false
set_option linter.all false
set_option maxRecDepth 100000
set_option maxHeartbeats 4000000
namespace MR
open PySem PySem.Spec PyProof.Rows L2
noncomputable def blk (X : Cx) (scope : Scope) (cl : List (Str × Addr)) (C : Addr) (N' : List Str) (s2 : Shared) (H2 : Hp) (fp : List Addr) (pins : List (Addr × Obj)) : Cx :=
  { X with env := compEnvC scope cl C X.env, N := N', s₀ := s2, H₀ := H2, outer := X.stack, ex := fp, fn := fun _ => false, pn := X.pn ++ pins, xe := fun _ _ => False }
theorem HOk.adopt {P : Program} {w : World} {H : Hp} {h : Heap} {a : Addr} {o : HO} (x : HOk P w H h) (hn : H a = none) (new : ObjOk P w (upd H a o) h a o) : HOk P w (upd H a o) h := fun b u e => by
  by_cases hb : b = a
  · subst hb; rw [upd_same] at e; cases e; exact new
  · rw [upd_ne hb] at e
    exact (x b u e).stay (fun c v _ q => q) (fun c q => by rw [upd_ne (ne_of_none q hn)]; exact q) fun c xs q => by rw [upd_ne (ne_of_none q hn)]; exact q
theorem Un.adopt {fs ex : List Addr} {H H1 : Hp} {h h1 : Heap} {a : Addr} {o : HO} (u : Un fs ex H H1 h h1) (hn : H1 a = none) (ha : h.get? a = none) : Un fs ex H (upd H1 a o) h h1 where
  keep := u.keep
  slot := u.slot
  free := fun b ob q n hx => by
    have : b ≠ a := fun z => by rw [z, ha] at q; cases q
    rw [upd_ne this]; exact u.free b ob q n hx
  there := u.there
  tups := fun b xs q => by have q' := u.tups b xs q; rw [upd_ne (ne_of_none q' hn)]; exact q'
  frzs := fun b ob xs q => by have q' := u.frzs b ob xs q; rw [upd_ne (ne_of_none q' hn)]; exact q'
  tbls := fun b ps q => by
    obtain ⟨m, q'⟩ := u.tbls b ps q
    exact ⟨m, by rw [upd_ne (ne_of_none q' hn)]; exact q'⟩
structure CompSc (X : Cx) (scope : Scope) (N' : List Str) (ix : List (Option Nat)) : Prop where
  kind : scope.kind = .function
  cell : (scope.names.all fun y => y.2 != .cell) = true
  loc : (scope.names.all fun y => y.2 != .local || scope.names.lookup y.1 == some .local) = true
  free : (scope.names.all fun y => y.2 != .free || (X.env.kindOf y.1 == some .cell || X.env.kindOf y.1 == some .free)) = true
  ixs : ((N'.zip ix).all fun p => match p.2 with | none => true | some i => (X.N[i]? == some p.1) && (scope.names.lookup p.1 == some .free)) = true
  len : N'.length = ix.length
noncomputable def inner (ix : List (Option Nat)) (σ : L2.St) : L2.St := ix.map fun o => o.bind fun i => (σ[i]?).join
noncomputable def CLoop (J : It) (g : TG) (tt : TT) (te : TE) (σ' : L2.St) (H : Hp) (Fin : List V → Hp → Prop) : Prop := ∃ W : Nat → Nat → List V → L2.St → Hp → Prop, (∃ m, W 0 m [] σ' H) ∧ ∀ i m acc σ1 H1, W i m acc σ1 H1 →
  (J.stop i H1 ∧ Fin acc H1) ∨ (J.go i H1 ∧ ∀ x H3, J.yld i H1 x H3 → g x σ1 H3 fun σ2 H4 => tt σ2 H4 fun b H5 =>
    if b = true then te σ2 H5 fun y H6 => acc.length < sizeLine ∧ ∃ m', m' < m ∧ W (i + 1) m' (acc ++ [y]) σ2 H6 else ∃ m', m' < m ∧ W (i + 1) m' acc σ2 H5)
section
variable {X : Cx} {scope : Scope} {N' : List Str} {ix : List (Option Nat)} {pins : List (Addr × Obj)} {σ : L2.St} {H2 : Hp} {s2 : Shared} {cl : List (Str × Addr)} {fp : List Addr}
theorem lookup_mem {β : Type} {x : Str} {v : β} : ∀ {l : List (Str × β)}, l.lookup x = some v → (x, v) ∈ l
  | [], h => by simp at h
  | (n, k) :: r, h => by
    rw [List.lookup_cons] at h
    cases hx : x == n with
    | true => rw [hx] at h; simp at h; have : x = n := by simpa using hx
              subst this; subst h; exact List.mem_cons_self ..
    | false => rw [hx] at h; exact List.mem_cons_of_mem _ (lookup_mem h)
theorem lookup_relabel {env : PySem.Env} {x : Str} : ∀ {names : List (Str × NameKind)} {k : NameKind}, (names.map fun (n, k) => if (k == NameKind.free && env.scope.kind == .function && env.kindOf n == some .cell) then (n, NameKind.cell) else (n, k)).lookup x = some k →
    names.lookup x = some k ∨ (names.lookup x = some .free ∧ k = .cell)
  | [], k, h => by simp at h
  | (n, k') :: r, k, h => by
    have ih := @lookup_relabel env x r k
    rw [List.map_cons] at h
    cases hx : x == n with
    | true =>
      rw [List.lookup_cons, hx]
      simp only at h ⊢
      split at h
      · rename_i hc
        rw [List.lookup_cons, hx] at h
        simp at h
        simp only [Bool.and_eq_true] at hc
        have : k' = .free := by simpa using hc.1.1
        subst this
        exact .inr ⟨rfl, h.symm⟩
      · rw [List.lookup_cons, hx] at h
        exact .inl h
    | false =>
      rw [List.lookup_cons, hx]
      simp only at h ⊢
      split at h
      · rw [List.lookup_cons, hx] at h; exact ih h
      · rw [List.lookup_cons, hx] at h; exact ih h
theorem lookup_relabel_free {env : PySem.Env} {x : Str} : ∀ {names : List (Str × NameKind)}, names.lookup x = some .free →
    (names.map fun (n, k) => if (k == NameKind.free && env.scope.kind == .function && env.kindOf n == some .cell) then (n, NameKind.cell) else (n, k)).lookup x = some .free ∨ (names.map fun (n, k) => if (k == NameKind.free && env.scope.kind == .function && env.kindOf n == some .cell) then (n, NameKind.cell) else (n, k)).lookup x = some .cell
  | [], h => by simp at h
  | (n, k') :: r, h => by
    have ih := @lookup_relabel_free env x r
    rw [List.map_cons]
    cases hx : x == n with
    | true =>
      rw [List.lookup_cons, hx] at h
      simp at h
      subst h
      simp only
      split
      · right; rw [List.lookup_cons, hx]
      · left; rw [List.lookup_cons, hx]
    | false =>
      rw [List.lookup_cons, hx] at h
      have := ih h
      simp only
      split
      · rw [List.lookup_cons, hx]; exact this
      · rw [List.lookup_cons, hx]; exact this
theorem blk_start (S : CompSc X scope N' ix) (hcalm : X.calm = true) (I2 : Inv X pins σ H2 s2) (hcl : ∀ x c, cl.lookup x = some c → X.env.cells.lookup x = some c) (hcl2 : ∀ y ∈ scope.names, y.2 = .free → ∃ c, cl.lookup y.1 = some c)
    (f2 : ∀ b ∈ fp, FpOk X pins H2 b) (hfp : ∀ b ∈ fp, b < s2.heap.objs.size) {C : Addr} {h4 : Heap} {m : Str → Option Value} {t4 : Nat} (hC : s2.heap.objs.size ≤ C) (hns : h4.Ns C m) (keep : ∀ b o, s2.heap.get? b = some o → h4.get? b = some o) :
    Inv (blk X scope cl C N' s2 H2 fp pins) [] (inner ix σ) H2 { s2 with heap := h4, toks := t4 } := by
  have hkindC : (relabel scope X.env).kind = .function := S.kind
  have ok : (blk X scope cl C N' s2 H2 fp pins).Ok :=
    { mod := I2.ok.mod
      kind := hkindC
      glob := I2.ok.glob
      blt := I2.ok.blt
      above := hC
      inj := fun x y c e1 e2 => I2.ok.inj x y c (hcl x c e1) (hcl y c e2)
      has := fun x h => by
        have h' : (relabel scope X.env).names.lookup x = some .cell ∨ (relabel scope X.env).names.lookup x = some .free := h
        have hfree : scope.names.lookup x = some .free := by
          rcases h' with h' | h'
          · rcases lookup_relabel h' with q | ⟨q, _⟩
            · have := List.all_eq_true.mp S.cell _ (lookup_mem q)
              simp at this
            · exact q
          · rcases lookup_relabel h' with q | ⟨q, z⟩
            · exact q
            · cases z
        exact hcl2 _ (lookup_mem hfree) rfl
      cab := fun x c h => by cases h
      hd := fun _ => I2.ok.hd hcalm
      frames := I2.ok.frames
      stk := .inl rfl
      exf := fun b hb => ⟨Nat.ne_of_lt (Nat.lt_of_lt_of_le (hfp b hb) hC), fun x c e => (f2 b hb).2.2.2.2.1 x c (hcl x c e)⟩
      bs := fun b o e => I2.bs b o e
      bsz := Nat.le_trans I2.ok.bsz I2.sz
      noex := fun b o e hb => by
        rcases (f2 b hb).2.2.2.1 with z | z
        · exact I2.ok.noex b o e z
        · exact absurd (Nat.lt_of_lt_of_le (Heap.lt_size (I2.ok.bs b o e).1) z) (Nat.lt_irrefl _)
      exfs := fun b hb z => by
        rcases List.mem_cons.mp (I2.stkSub b z) with q | q
        · exact (f2 b hb).2.1 q
        · exact (f2 b hb).2.2.1 q
      funs := I2.stack
      frf := I2.stkFree }
  obtain ⟨m0, hn0, hl0⟩ := id I2.loc
  refine ⟨ok, rfl, I2.bare, Un.kept keep, ⟨m, hns, fun j x v e1 e2 e3 => ?_⟩, fun x c e => ?_, I2.hok.fresh hC, fun x c e => I2.freeC x c (hcl x c e), fun p hp => ?_, I2.hok.kept keep, ?_⟩
  · -- a name that the block takes along
    have e1' : N'[j]? = some x := e1
    have e2' : (inner ix σ)[j]? = some (some v) := e2
    unfold inner at e2'
    rw [List.getElem?_map] at e2'
    cases hx : ix[j]? with
    | none => rw [hx] at e2'; simp at e2'
    | some o =>
      rw [hx] at e2'
      cases o with
      | none => simp at e2'
      | some i =>
        simp at e2'
        have hz : (x, some i) ∈ N'.zip ix := List.mem_of_getElem? (i := j) (by rw [List.getElem?_zip_eq_some]; exact ⟨e1', hx⟩)
        have hz' := List.all_eq_true.mp S.ixs _ hz
        simp only [Bool.and_eq_true, beq_iff_eq] at hz'
        obtain ⟨hXN, hfr⟩ := hz'
        have hσ : σ[i]? = some (some v) := by
          cases q : σ[i]? with
          | none => rw [q] at e2'; simp at e2'
          | some o => rw [q] at e2'; simp at e2'; rw [e2']
        have hk := List.all_eq_true.mp S.free _ (lookup_mem hfr)
        simp at hk
        have hvis : Vis X.env.scope x := by
          rcases hk with q | q
          · exact .inr (.inl q)
          · exact .inr (.inr q)
        obtain ⟨u, r, look⟩ := hl0 i x v hXN hσ hvis
        rcases look with ⟨q, _⟩ | ⟨_, c, ec, hc⟩
        · rcases hk with z | z
          · rw [z] at q; cases q
          · rw [z] at q; cases q
        · obtain ⟨c', ec'⟩ := hcl2 _ (lookup_mem hfr) rfl
          have : c' = c := by have := hcl x c' ec'; rw [ec] at this; cases this; rfl
          subst this
          refine ⟨u, r, .inr ⟨?_, c', ec', ?_⟩⟩
          · rcases lookup_relabel_free (env := X.env) hfr with q | q
            · exact .inr q
            · exact .inl q
          · obtain ⟨oc, ho, hd⟩ := hc
            exact ⟨oc, keep _ _ ho, hd⟩
  · obtain ⟨v, oc, ho, hd⟩ := I2.cell x c (hcl x c e)
    exact ⟨v, oc, keep _ _ ho, hd⟩
  · have hp' : p ∈ X.pn ++ pins := by simpa [blk] using hp
    obtain ⟨q1, q2, q3, q4, q5⟩ := I2.pin p hp'
    refine ⟨keep _ _ q1, q2, Nat.ne_of_lt (Nat.lt_of_lt_of_le (Heap.lt_size q1) hC), fun z => ?_, q5⟩
    rcases List.mem_cons.mp (I2.stkSub p.1 z) with q | q
    · exact q3 q
    · exact q4 q
  · show (inner ix σ).length = N'.length
    rw [S.len]; simp [inner]
end
end MR
set_option Elab.async false
set_option linter.all false
set_option maxRecDepth 100000
set_option maxHeartbeats 4000000
namespace MR
open PySem PySem.Spec PyProof.Rows L2
section
variable {X : Cx} {scope : Scope} {N' : List Str} {ix : List (Option Nat)} {pins : List (Addr × Obj)} {σ : L2.St} {H2 : Hp} {s2 : Shared} {cl : List (Str × Addr)} {fp : List Addr}
noncomputable def Tests (X' : Cx) (ifs : List Expr) (tt : TT) : Prop := ∀ (pins : List (Addr × Obj)) (s : Shared) (σ : L2.St) (H : Hp) (Q : Bool → Hp → Prop) (E : Value → Shared → Prop), Inv X' pins σ H s → tt σ H Q → (∀ e s, X'.xe e s → E e s) →
  wpAny (model X'.prog X'.w) X'.A (forIn ifs true fun c r => if r = true then do let ok ← isTrue c X'.env (eval c X'.env); pure (ForInStep.yield ok) else pure (ForInStep.yield r)) (TP X' pins σ Q) E s
noncomputable def tYes : TT := fun _ H Q => Q true H
theorem tests_nil {X' : Cx} : Tests X' [] tYes := fun pins s σ H Q E I h _ => wpAny_tests_nil ⟨H, I, h⟩
theorem tests_one {X' : Cx} {c : Expr} {tt : TT} (h : PT X' c tt) : Tests X' [c] tt := fun pins s σ H Q E I q hE => wpAny_tests_one (wpAny_mono (h pins s σ H Q I q) (fun _ _ z => z) hE)
noncomputable def accObj (its : List Value) (n : Nat) : Obj := { cls := .type "list", data := .seq its.toArray n }
theorem comp_loop {elt tg iter : Expr} {ifs : List Expr} {pos : Pos} {it D C : Addr} {J : It} {tn : Nat → Heap → Prop} {g : TG} {tt : TT} {te : TE} {Fin : List V → Hp → Prop} {R : Result → Shared → Prop} {X' : Cx}
    (hX : X'.A = X.A ∧ X'.prog = X.prog ∧ X'.w = X.w ∧ X'.K = X.K ∧ X'.calm = true ∧ ∀ e s, ¬ X'.xe e s) (T : Turn X.prog X.w X.K tg J fp it tn) (hg : PG X' tg g) (ht : Tests X' ifs tt) (he : PE X' elt te)
    (hD1 : s2.heap.objs.size ≤ D) (hDC : D ≠ C) (hC : s2.heap.objs.size ≤ C) (hfp : ∀ b ∈ fp, FpOk X' [] H2 b ∧ b ≠ D) (hDf : ∀ H, H D = none → FpOk X' [] H D)
    {s : Shared} {σ1 : L2.St} {H1 : Hp} {n0 : Nat} (I : Inv X' [(D, accObj [] n0)] σ1 H1 s) (st : tn 0 s.heap) (fr : ∀ b ∈ fp, H1 b = none) (hloop : CLoop J g tt te σ1 H1 Fin)
    (hR : ∀ (s' : Shared) (σ' : L2.St) (H' : Hp) (acc : List V) (its : List Value) (n : Nat), Inv X' [(D, accObj its n)] σ' H' s' → Vals acc its → acc.length ≤ sizeLine → Fin acc H' → R (.ok .next) s') :
    codeAny (model X.prog X.w) X.A (.compLoop (.ListComp elt [⟨tg, iter, ifs, 0⟩] scope pos) 0 (.ref it) (.ref D) X'.env) R s := by
  obtain ⟨W, ⟨m0, w0⟩, turn⟩ := hloop
  obtain ⟨hXA, hXp, hXw, hXK, hXc, hxe⟩ := hX
  have hfpo : ∀ (o : Obj) (H : Hp), (∀ b ∈ fp, H b = none) → ∀ b ∈ fp, FpOk X' [(D, o)] H b := fun o H hn b hb => by
    obtain ⟨⟨_, q1, q2, q3, q4, q5⟩, q6⟩ := hfp b hb
    refine ⟨hn b hb, q1, q2, q3, q4, fun p hp => ?_⟩
    rcases List.mem_append.mp hp with z | z
    · exact q5 p (List.mem_append_left _ z)
    · have : p = (D, o) := by simpa using z
      rw [this]; exact fun z => q6 z.symm
  refine codeAny_loop rfl (fun n s => ∃ i acc its k σ1 H1, Inv X' [(D, accObj its k)] σ1 H1 s ∧ Vals acc its ∧ acc.length ≤ sizeLine ∧ tn i s.heap ∧ (∀ b ∈ fp, H1 b = none) ∧ W i n acc σ1 H1) (fun n s hI => ?_) m0 ⟨0, [], [], n0, σ1, H1, I, .nil, Nat.zero_le _, st, fr, w0⟩
  show wpAny _ X.A ((compTurn (.ListComp elt [⟨tg, iter, ifs, 0⟩] scope pos) 0 (.ref it) (.ref D) X'.env).onRaise (fun x => do noteFrame x X'.env; theTreesLotGoes x)) _ _ s
  refine wpAny_noted ?_
  rw [compTurn_list]
  obtain ⟨i, acc, its, k, σ1, H1, I, hv, hz, st, fr, w1⟩ := hI
  refine wpAny_bind (wpAny_standAt (wpAny_bind ?_))
  rcases turn i n acc σ1 H1 w1 with ⟨stop, fin⟩ | ⟨go, step⟩
  · have h := T.done X' hXp hXw hXK hXc i _ s σ1 H1 (notedBy (model X.prog X.w) X.A X'.env fun e s' => R (.error e) s') I (hfpo _ H1 fr) st stop
    rw [hXA] at h
    refine thn h fun r s4 ⟨hr, I4⟩ => ?_
    subst hr
    exact wpAny_pure (hR s4 σ1 H1 acc its k I4 hv hz fin)
  · have h := T.item X' hXp hXw hXK hXc i _ s σ1 H1 (notedBy (model X.prog X.w) X.A X'.env fun e s' => R (.error e) s') I (hfpo _ H1 fr) st go
    rw [hXA] at h
    refine thn h fun r s4 ⟨u, hr, h4⟩ => ?_
    subst hr
    refine wpAny_bind (thn h4 fun _ s5 ⟨x, H5, I5, r5, y5, st5, fr5⟩ => ?_)
    have I5' := I5.pinned (hfpo _ H5 fr5) (T.obj _ _ st5)
    have hg5 := hg _ s5 σ1 H5 x u _ I5' r5 (step x H5 y5)
    rw [hXp, hXw, hXA] at hg5
    refine wpAny_bind (wpAny_mono hg5 (fun _ s6 ⟨σ6, H6, I6, q6⟩ => ?_) fun e s z => absurd z (hxe e s))
    have ht6 := ht _ s6 σ6 H6 _ (notedBy (model X.prog X.w) X.A X'.env fun e s' => R (.error e) s') I6 q6 (fun e s z => absurd z (hxe e s))
    rw [hXp, hXw, hXA] at ht6
    refine wpAny_bind (thn ht6 fun b s7 ⟨H7, I7, q7⟩ => ?_)
    have back : ∀ {σ8 : L2.St} {H8 : Hp} {s8 : Shared}, Inv X' ([(D, accObj its k)] ++ pinsAt fp s5.heap) σ8 H8 s8 → tn (i + 1) s8.heap ∧ (∀ b ∈ fp, H8 b = none) ∧ s8.heap.get? D = some (accObj its k) ∧ H8 D = none := fun {σ8 H8 s8} I8 => by
      refine ⟨T.keep _ _ _ st5 fun b hb o e => (I8.pin (b, o) (List.mem_append_right _ (List.mem_append_right _ (mem_pinsAt hb e)))).1, fun b hb => ?_, ?_, ?_⟩
      · obtain ⟨o, e, d⟩ := T.obj _ _ st5 b hb
        exact (I8.pin (b, o) (List.mem_append_right _ (List.mem_append_right _ (mem_pinsAt hb e)))).2.1
      · exact (I8.pin (D, accObj its k) (List.mem_append_right _ (List.mem_append_left _ (List.mem_singleton.mpr rfl)))).1
      · exact (I8.pin (D, accObj its k) (List.mem_append_right _ (List.mem_append_left _ (List.mem_singleton.mpr rfl)))).2.1
    cases b with
    | false =>
      obtain ⟨m', hm, w8⟩ := (q7 : if false = true then _ else _)
      obtain ⟨st8, fr8, _, _⟩ := back I7
      refine wpAny_pure ⟨rfl, m', hm, i + 1, acc, its, k, σ6, H7, ?_, hv, hz, st8, fr8, w8⟩
      exact I7.pins_of fun p hp => I7.pin p (List.mem_append_right _ (List.mem_append_left _ hp))
    | true =>
      have q7' : te σ6 H7 fun y H6 => acc.length < sizeLine ∧ ∃ m', m' < n ∧ W (i + 1) m' (acc ++ [y]) σ6 H6 := q7
      have he7 := he _ s7 σ6 H7 _ I7 q7'
      rw [hXp, hXw, hXA] at he7
      refine wpAny_bind (wpAny_bind (wpAny_mono he7 (fun y s8 ⟨v, H8, I8, r8, hlt, m', hm, w8⟩ => ?_) fun e s z => absurd z (hxe e s)))
      obtain ⟨st8, fr8, hDo, hDn⟩ := back I8
      have hlen := hv.length
      have hisl : s8.heap.IsList D its.toArray := ⟨_, hDo, rfl, k, rfl⟩
      refine wpAny_bind ?_
      obtain ⟨k', hd'⟩ : ∃ k', Obj.mapSeq (·.push y) (accObj its k) = accObj (its ++ [y]) k' := ⟨_, by simp [accObj, Obj.mapSeq]; rfl⟩
      refine wpAny_call_entry slot_list_append hisl.typeIs entry_list_append ?_ (args_list_append _ _)
      show wpAny _ _ (updateSeq D (·.push y) >>= fun _ => ret .none) _ _ s8
      refine wpAny_bind (wpAny_updateSeq hDo rfl (wpAny_pure ⟨.none, rfl, ?_⟩))
      have hk9 : ∀ b o, b ≠ D → s8.heap.get? b = some o → (s8.heap.update D (Obj.mapSeq (·.push y))).get? b = some o := fun b o hb e => (Heap.SameBut.update (h := s8.heap) (a := D) ..).2 b hb |>.trans e
      have hD9 : (s8.heap.update D (Obj.mapSeq (·.push y))).get? D = some (accObj (its ++ [y]) k') := by
        rw [← hd']; exact Heap.get?_update_self _ hDo (by rw [hd']; exact Obj.isFreed_of_seq (xs := (its ++ [y]).toArray) (n := k') rfl)
      have I8' : Inv X' [] σ6 H8 s8 := I8.pins_of fun p hp => by cases hp
      obtain ⟨d0, d1, d2, d3, d4, d5⟩ := hDf H8 hDn
      have I9 : Inv X' [] σ6 H8 { s8 with heap := s8.heap.update D (Obj.mapSeq (·.push y)) } := I8'.turned (t' := s8.toks) hk9 hDn d1 d3 d4 d5
      have I10 := I9.pins_of (pins' := [(D, accObj (its ++ [y]) k')]) fun p hp => by
        have : p = (D, accObj (its ++ [y]) k') := by simpa using hp
        subst this
        exact ⟨hD9, hDn, d1, d2, fun v z => by simp [accObj] at z⟩
      refine wpAny_pure (wpAny_pure ⟨rfl, m', hm, i + 1, acc ++ [v], its ++ [y], k', σ6, H8, I10, Vals.append hv (.cons r8 .nil), by rw [List.length_append]; simp; omega, ?_, fr8, w8⟩)
      refine T.keep _ _ _ st8 fun b hb o e => hk9 b o (hfp b hb).2 e
end
end MR
set_option Elab.async false
set_option linter.all false
set_option maxRecDepth 100000
set_option maxHeartbeats 4000000
namespace MR
open PySem PySem.Spec PyProof.Rows L2
section
variable {X : Cx} {scope : Scope} {N' : List Str} {ix : List (Option Nat)}
noncomputable def tComp (ix : List (Option Nat)) (wi : TI) (g : TG) (tt : TT) (te : TE) : TE := fun σ H Q => wi σ H fun J H1 => CLoop J g tt te (inner ix σ) H1 fun acc H2 => ∀ p, H2 p = none → Q (.ref p) (upd H2 p (.lst acc))
theorem comp_core {elt tg iter : Expr} {ifs : List Expr} {pos : Pos} {g : TG} {tt : TT} {te : TE} {pins : List (Addr × Obj)} {σ : L2.St} {H2 : Hp} {s2 : Shared} {cl : List (Str × Addr)} {fp : List Addr} {it : Addr} {J : It} {tn : Nat → Heap → Prop} {E : Value → Shared → Prop} {Fin : List V → Hp → Prop} {RR : Value → Addr → Result → Shared → Prop}
    (S : CompSc X scope N' ix) (hcalm : X.calm = true) (hcl : ∀ x c, cl.lookup x = some c → X.env.cells.lookup x = some c) (hcl2 : ∀ y ∈ scope.names, y.2 = .free → ∃ c, cl.lookup y.1 = some c)
    (hg : ∀ C, PG (blk X scope cl C N' s2 H2 fp pins) tg g) (ht : ∀ C, Tests (blk X scope cl C N' s2 H2 fp pins) ifs tt) (he : ∀ C, PE (blk X scope cl C N' s2 H2 fp pins) elt te)
    (I2 : Inv X pins σ H2 s2) (T : Turn X.prog X.w X.K tg J fp it tn) (st2 : tn 0 s2.heap) (f2 : ∀ b ∈ fp, FpOk X pins H2 b) (hloop : CLoop J g tt te (inner ix σ) H2 Fin)
    (hRR : ∀ (D C : Addr) (s' : Shared) (H' : Hp) (acc : List V), Inv X pins σ (upd H' D (.lst acc)) s' → H' D = none → (∃ m, s'.heap.Ns C m) → (upd H' D (.lst acc)) C = none → FpOk X pins (upd H' D (.lst acc)) C → Fin acc H' → RR (.ref D) C (.ok .next) s') :
    wpAny (model X.prog X.w) X.A (newList []) (fun acc s₃ => wpAny (model X.prog X.w) X.A (newFunctionEnv scope X.env.globals cl [] X.env.qual none .none (some X.env)) (fun cenv s₄ =>
      codeAny (model X.prog X.w) X.A (.compStart (.ListComp elt [⟨tg, iter, ifs, 0⟩] scope pos) 0 (.ref it) acc { cenv with scope := relabel scope X.env }) (RR acc cenv.locals) s₄) E s₃) E s2 := by
  have hcell : ∀ y ∈ scope.names, y.2 ≠ .cell := fun y hy z => by
    have := List.all_eq_true.mp S.cell y hy
    rw [z] at this; simp at this
  refine wpAny_newObj_type (wpAny_newFunctionEnv hcell (by intro y hy; simp at hy) (fun h₁ hns₁ hsb₁ => ?_) S.kind)
  dsimp only at hns₁ hsb₁ ⊢
  generalize hH2 : s2.heap.push { cls := .type "list", dict := none, data := .seq ([] : List Value).toArray } = HP at hns₁ hsb₁ ⊢
  have hCs : HP.objs.size = s2.heap.objs.size + 1 := by rw [← hH2, Heap.size_push]
  have hDC : s2.heap.objs.size ≠ HP.objs.size := by rw [hCs]; exact Nat.ne_of_lt (Nat.lt_succ_self _)
  have hCle : s2.heap.objs.size ≤ HP.objs.size := by rw [hCs]; exact Nat.le_succ _
  have old : ∀ b o, s2.heap.get? b = some o → h₁.get? b = some o := fun b o e => hsb₁.extBut b o (Nat.ne_of_lt (Nat.lt_of_lt_of_le (Heap.lt_size e) hCle)) (Heap.get?_push_of_some _ (hH2 ▸ Heap.get?_push_of_some _ e))
  have hacc : h₁.get? s2.heap.objs.size = some (accObj [] 0) := hsb₁.extBut _ _ hDC (Heap.get?_push_of_some _ (hH2 ▸ Heap.get?_push_size _ rfl))
  have hfp : ∀ b ∈ fp, b < s2.heap.objs.size := fun b hb => by
    obtain ⟨o, e, _⟩ := T.obj _ _ st2 b hb
    exact Heap.lt_size e
  generalize hDg : s2.heap.objs.size = D at hDC hacc
  generalize hCg : HP.objs.size = C at *
  have hDle : s2.heap.objs.size ≤ D := Nat.le_of_eq hDg
  have hD2 : s2.heap.get? D = none := by
    cases q : s2.heap.get? D with
    | none => rfl
    | some o => exact absurd (Nat.lt_of_lt_of_le (Heap.lt_size q) hDle) (Nat.lt_irrefl _)
  have I4 := blk_start (t4 := s2.toks + ([] : List (Str × Value)).length) S hcalm I2 hcl hcl2 f2 hfp hCle hns₁ old
  have above : ∀ a, s2.heap.objs.size ≤ a → a ∉ frs X.stack ∧ (∀ x c, X.env.cells.lookup x = some c → c ≠ a) ∧ (∀ p ∈ X.pn ++ pins, p.1 ≠ a) ∧ a ≠ X.env.locals := fun a ha => by
    refine ⟨fun z => ?_, fun x c e z => ?_, fun p hp z => ?_, ?_⟩
    · rcases List.mem_cons.mp (I2.stkSub a z) with q | q
      · exact absurd (Nat.lt_of_lt_of_le I2.lt (q ▸ ha)) (Nat.lt_irrefl _)
      · exact I2.nofs ha q
    · obtain ⟨v, q⟩ := I2.cell x c e
      exact absurd (Nat.lt_of_lt_of_le q.lt (z ▸ ha)) (Nat.lt_irrefl _)
    · exact absurd (Nat.lt_of_lt_of_le (Heap.lt_size (I2.pin p hp).1) (z ▸ ha)) (Nat.lt_irrefl _)
    · intro z; exact absurd (Nat.lt_of_lt_of_le I2.lt (z ▸ ha)) (Nat.lt_irrefl _)
  have hfpX : ∀ b ∈ fp, FpOk (blk X scope cl C N' s2 H2 fp pins) [] H2 b ∧ b ≠ D := fun b hb => by
    obtain ⟨q0, q1, q2, q3, q4, q5⟩ := f2 b hb
    have hlt := hfp b hb
    refine ⟨⟨q0, Nat.ne_of_lt (Nat.lt_of_lt_of_le hlt hCle), fun z => ?_, .inl hb, fun x c e => q4 x c (hcl x c e), fun p hp => q5 p (by simpa [blk] using hp)⟩, Nat.ne_of_lt (Nat.lt_of_lt_of_le hlt hDle)⟩
    rcases List.mem_cons.mp (I2.stkSub b z) with q | q
    · exact q1 q
    · exact q2 q
  have hDf : ∀ H : Hp, H D = none → FpOk (blk X scope cl C N' s2 H2 fp pins) [] H D := fun H hn => by
    obtain ⟨a1, a2, a3, a4⟩ := above D hDle
    exact ⟨hn, hDC, a1, .inr hDle, fun x c e => a2 x c (hcl x c e), fun p hp => a3 p (by simpa [blk] using hp)⟩
  have hDn2 : H2 D = none := I2.hok.fresh hDle
  have I5 : Inv (blk X scope cl C N' s2 H2 fp pins) [(D, accObj [] 0)] (inner ix σ) H2 { s2 with heap := h₁, toks := s2.toks + ([] : List (Str × Value)).length } := I4.pins_of fun p hp => by
    have : p = (D, accObj [] 0) := by simpa using hp
    subst this
    obtain ⟨_, d1, d2, _⟩ := hDf H2 hDn2
    exact ⟨hacc, hDn2, d1, d2, fun v z => by simp [accObj] at z⟩
  have st5 : tn 0 h₁ := T.keep _ _ _ st2 fun b _ o e => old b o e
  have loop : codeAny (model X.prog X.w) X.A (.compLoop (.ListComp elt [⟨tg, iter, ifs, 0⟩] scope pos) 0 (.ref it) (.ref D) (blk X scope cl C N' s2 H2 fp pins).env) (RR (.ref D) C) { s2 with heap := h₁, toks := s2.toks + ([] : List (Str × Value)).length } := by
    refine comp_loop (X' := blk X scope cl C N' s2 H2 fp pins) ⟨rfl, rfl, rfl, rfl, hcalm, fun _ _ z => z⟩ T (hg C) (ht C) (he C) hDle hDC hCle hfpX hDf I5 st5 (fun b hb => (f2 b hb).1) hloop ?_
    intro s' σ' H' acc its n I hv hz fin
    obtain ⟨hDo, hDn, _⟩ := I.pin (D, accObj its n) (List.mem_append_right _ (List.mem_singleton.mpr rfl))
    have hbase : Un (frs X.stack) fp H2 H' s2.heap s'.heap := I.base
    have hok : HOk X.prog X.w (upd H' D (.lst acc)) s'.heap := HOk.adopt I.hok hDn ⟨hz, its, n, hv, hDo⟩
    have IX : Inv X pins σ (upd H' D (.lst acc)) s' := I2.call' I.os (Un.adopt hbase hDn hD2) hok I.bare fun b hb => ⟨(f2 b hb).2.2.2.1, (f2 b hb).2.1, (f2 b hb).2.2.2.2.1, (f2 b hb).2.2.2.2.2⟩
    obtain ⟨m, hm, _⟩ := I.loc
    have hCn : (upd H' D (.lst acc)) C = none := by rw [upd_ne (Ne.symm hDC)]; exact I.free
    obtain ⟨a1, a2, a3, a4⟩ := above C hCle
    refine hRR D C s' H' acc IX hDn ⟨m, hm⟩ hCn ⟨hCn, a4, fun z => ?_, .inr (Nat.le_trans I2.sz hCle), a2, a3⟩ fin
    exact I2.nofs hCle z
  have e1 : ({ newEnv scope C X.env.globals cl X.env.qual none .none (some X.env) builtinsNs with scope := relabel scope X.env } : PySem.Env) = (blk X scope cl C N' s2 H2 fp pins).env := rfl
  exact codeAny_compStart_list loop (T.self _ 0 _ _ _ st5 loop)
theorem CompSc.names {scope : Scope} (S : CompSc X scope N' ix) : ∀ x ∈ scope.names, x.2 = .local → scope.names.lookup x.1 = some .local := fun x hx hl => by
  have := List.all_eq_true.mp S.loc x hx
  rw [hl] at this
  simpa using this
theorem CompSc.clos {scope : Scope} (S : CompSc X scope N' ix) (ok : X.Ok) : ∃ cl, closureFor scope X.env = pure cl ∧ (∀ x c, cl.lookup x = some c → X.env.cells.lookup x = some c) ∧ ∀ y ∈ scope.names, y.2 = .free → ∃ c, cl.lookup y.1 = some c := by
  refine closureFor_ex fun y hy hf => ?_
  have := List.all_eq_true.mp S.free y hy
  rw [hf] at this
  simp at this
  exact ok.has y.1 this
theorem pe_comp {elt tg iter : Expr} {ifs : List Expr} {pos : Pos} {wi : TI} {g : TG} {tt : TT} {te : TE} (S : CompSc X scope N' ix) (hcalm : X.calm = true) (hi : PI X tg iter wi)
    (hg : ∀ cl C s2 H2 fp pins, PG (blk X scope cl C N' s2 H2 fp pins) tg g) (ht : ∀ cl C s2 H2 fp pins, Tests (blk X scope cl C N' s2 H2 fp pins) ifs tt) (he : ∀ cl C s2 H2 fp pins, PE (blk X scope cl C N' s2 H2 fp pins) elt te)
    (hs : ∀ x, foldedSetIterable iter X.env x = pure x := by intro _; rfl) : PE X (.ListComp elt [⟨tg, iter, ifs, 0⟩] scope pos) (tComp ix wi g tt te) := by
  intro pins s σ H Q I h
  obtain ⟨cl, hclos, hcl, hcl2⟩ := S.clos I.ok
  rw [eval_ListComp]
  refine wpAny_comprehension_free (use := none) rfl hs hclos S.kind S.names (thn (hi pins s σ H _ I h) fun v s1 h1 => thn h1 fun itv s2 h2 => ?_)
  obtain ⟨it, fp, tn, J, H2, e, I2, T, st2, f2, loop⟩ := h2
  subst e
  refine comp_core (RR := fun acc C => compPost (model X.prog X.w) X.A X.xe none (EP X pins σ Q) acc C) S hcalm hcl hcl2 (fun C => hg cl C s2 H2 fp pins) (fun C => ht cl C s2 H2 fp pins) (fun C => he cl C s2 H2 fp pins) I2 T st2 f2 loop ?_
  intro D C s' H' acc IX hDn ⟨m, hm⟩ hCn hC fin
  refine ⟨m, hm, fun h' hsb => ?_⟩
  obtain ⟨c0, c1, c2, c3, c4, c5⟩ := hC
  exact ⟨.ref D, _, IX.turned (t' := s'.toks) (fun b o hb e => hsb.2 b hb |>.trans e) c0 c1 c3 c4 c5, rfl, fin D hDn⟩
end
end MR
set_option Elab.async false
set_option linter.all false
set_option maxRecDepth 100000
set_option maxHeartbeats 4000000
namespace MR
open PySem PySem.Spec PyProof.Rows L2
noncomputable def testU (tt : Option FT) : FT := fun δ L => match tt with
  | none => some (true, L)
  | some f => f δ L
noncomputable def compU (it : IU) (g : FG) (tt : Option FT) (fe : FE) : Nat → Nat → List U → UE → UH → Option (List U × UH)
  | 0, _, _, _, _ => none
  | m + 1, k, acc, δ, L => match it.at k L with
    | none => none
    | some none => some (acc, L)
    | some (some u) => (g u δ L).bind fun p => (testU tt p.1 p.2).bind fun q => if q.1 = true then (fe p.1 q.2).bind fun r => if decide (acc.length < sizeLine) = true then compU it g tt fe m (k + 1) (acc ++ [r.1]) p.1 r.2 else none
      else compU it g tt fe m (k + 1) acc p.1 q.2
noncomputable def innerU (ix : List (Option Nat)) (δ : UE) : UE := ix.map fun o => o.bind fun i => (δ[i]?).join
noncomputable def fComp (ix : List (Option Nat)) (fi : FI) (g : FG) (tt : Option FT) (fe : FE) : FE := fun δ L => (fi δ L).bind fun p => (compU p.1 g tt fe (p.1.size p.2 + 1) 0 [] (innerU ix δ) p.2).map fun q => (.ref q.2.length, q.2 ++ [.lst q.1])
theorem RepS.inner {K : PySem.W.Frag} {H : Hp} {α : List Addr} {δ : UE} {σ : L2.St} (S : RepS K H α δ σ) (ix : List (Option Nat)) : RepS K H α (innerU ix δ) (MR.inner ix σ) := by
  refine ⟨by simp [innerU, MR.inner], fun j u e => ?_⟩
  unfold innerU at e
  unfold MR.inner
  rw [List.getElem?_map] at e ⊢
  cases hx : ix[j]? with
  | none => rw [hx] at e; simp at e
  | some o =>
    rw [hx] at e
    cases o with
    | none => simp at e
    | some i =>
      simp at e
      have : δ[i]? = some (some u) := by
        cases q : δ[i]? with
        | none => rw [q] at e; simp at e
        | some o => rw [q] at e; simp at e; rw [e]
      obtain ⟨v, hv, r⟩ := S.at_ i u this
      exact ⟨v, by simp [hv], r⟩
noncomputable def lTo (K : PySem.W.Frag) (tt : Option FT) : TT := match tt with
  | none => tYes
  | some f => lT K f
theorem lE_comp {K : PySem.W.Frag} {ix : List (Option Nat)} {fi : FI} {g : FG} {tt : Option FT} {fe : FE} : ∀ σ H Q, lE K (fComp ix fi g tt fe) σ H Q → tComp ix (lI K fi) (lG K g) (lTo K tt) (lE K fe) σ H Q := by
  rintro σ H Q ⟨α, δ, L, A, S, z, L3, e, q⟩
  obtain ⟨⟨it, L1⟩, e1, e⟩ := Option.bind_eq_some_iff.mp e
  obtain ⟨⟨ys, L2⟩, e2, e⟩ := Option.map_eq_some_iff.mp e
  cases e
  refine ⟨α, δ, L, A, S, it, L1, e1, fun J H1 α1 g1 A1 hJ => ?_⟩
  refine ⟨fun k m acc σ2 H2 => ∃ α2 δ2 M us, Gr H1 α1 H2 α2 ∧ Abs K H2 α2 M ∧ RepS K H2 α2 δ2 σ2 ∧ RepL K H2 α2 us acc ∧ compU it g tt fe m k us δ2 M = some (ys, L2), ⟨_, α1, _, L1, [], .refl _ _, A1, (S.mono g1).inner ix, .nil, e2⟩, ?_⟩
  rintro k m acc σ2 H2 ⟨α2, δ2, M, us, g2, A2, S2, r2, e3⟩
  cases m with
  | zero => cases e3
  | succ m =>
    obtain ⟨hgo, hstop⟩ := hJ H2 α2 M g2 A2 k
    unfold compU at e3
    cases hat : it.at k M with
    | none => rw [hat] at e3; cases e3
    | some o =>
      cases o with
      | none =>
        rw [hat] at e3
        cases e3
        refine .inl ⟨hstop hat, fun p hp => ?_⟩
        obtain ⟨g3, A3, r3⟩ := A2.lst r2 hp
        exact q _ _ _ (g1.trans (g2.trans g3)) A3 r3
      | some u =>
        rw [hat] at e3
        obtain ⟨go, yld⟩ := hgo u hat
        obtain ⟨⟨δ3, L3⟩, e4, e3⟩ := Option.bind_eq_some_iff.mp e3
        obtain ⟨⟨b, L4⟩, e5, e3⟩ := Option.bind_eq_some_iff.mp e3
        refine .inr ⟨go, fun x H3 y3 => ?_⟩
        obtain ⟨g3, A3, r3⟩ := yld x H3 y3
        refine ⟨α2, δ2, M, u, A3, S2.mono g3, r3, δ3, L3, e4, fun σ4 H4 α4 g4 A4 S4 => ?_⟩
        have after : ∀ H5 α5, Gr H4 α4 H5 α5 → Abs K H5 α5 L4 → (if b = true then lE K fe σ4 H5 (fun y H6 => acc.length < sizeLine ∧ ∃ m', m' < m + 1 ∧ ∃ α2 δ2 M us, Gr H1 α1 H6 α2 ∧ Abs K H6 α2 M ∧ RepS K H6 α2 δ2 σ4 ∧ RepL K H6 α2 us (acc ++ [y]) ∧ compU it g tt fe m' (k + 1) us δ2 M = some (ys, L2)) else ∃ m', m' < m + 1 ∧ ∃ α2 δ2 M us, Gr H1 α1 H5 α2 ∧ Abs K H5 α2 M ∧ RepS K H5 α2 δ2 σ4 ∧ RepL K H5 α2 us acc ∧ compU it g tt fe m' (k + 1) us δ2 M = some (ys, L2)) := fun H5 α5 g5 A5 => by
          have gA := g2.trans (g3.trans (g4.trans g5))
          have gB := g3.trans (g4.trans g5)
          cases b with
          | false => exact iteF ⟨m, Nat.lt_succ_self _, α5, δ3, L4, us, gA, A5, S4.mono g5, r2.mono gB, e3⟩
          | true =>
            obtain ⟨⟨w, L5⟩, e6, e3⟩ := Option.bind_eq_some_iff.mp e3
            simp only at e3
            split at e3
            · rename_i hlt
              refine iteT ⟨α5, δ3, L4, A5, S4.mono g5, w, L5, e6, fun y H6 α6 g6 A6 r6 => ?_⟩
              exact ⟨by rw [← r2.length]; exact of_decide_eq_true hlt, m, Nat.lt_succ_self _, α6, δ3, L5, us ++ [w], gA.trans g6, A6, (S4.mono g5).mono g6, (r2.mono (gB.trans g6)).append (.cons r6 .nil), e3⟩
            · cases e3
        cases tt with
        | none =>
          cases e5
          exact after H4 α4 (.refl _ _) A4
        | some f => exact ⟨α4, δ3, L3, A4, S4, b, L4, e5, fun H5 α5 g5 A5 => after H5 α5 g5 A5⟩
section
variable {X : Cx} {scope : Scope} {N' : List Str} {ix : List (Option Nat)} {elt tg iter c : Expr} {pos : Pos} {fi : FI} {g : FG} {ft : FT} {fe : FE}
theorem pf_comp (S : CompSc X scope N' ix) (hcalm : X.calm = true) (hi : PIF X tg iter fi) (hg : ∀ cl C s2 H2 fp pins, PGF (blk X scope cl C N' s2 H2 fp pins) tg g) (he : ∀ cl C s2 H2 fp pins, PEF (blk X scope cl C N' s2 H2 fp pins) elt fe)
    (hs : ∀ x, foldedSetIterable iter X.env x = pure x := by intro _; rfl) : PEF X (.ListComp elt [⟨tg, iter, [], 0⟩] scope pos) (fComp ix fi g none fe) :=
  PE.imp (pe_comp (g := lG X.K g) (te := lE X.K fe) (tt := tYes) S hcalm hi hg (fun _ _ _ _ _ _ => tests_nil) he hs) lE_comp
theorem pf_compT (S : CompSc X scope N' ix) (hcalm : X.calm = true) (hi : PIF X tg iter fi) (hg : ∀ cl C s2 H2 fp pins, PGF (blk X scope cl C N' s2 H2 fp pins) tg g) (ht : ∀ cl C s2 H2 fp pins, PTF (blk X scope cl C N' s2 H2 fp pins) c ft) (he : ∀ cl C s2 H2 fp pins, PEF (blk X scope cl C N' s2 H2 fp pins) elt fe)
    (hs : ∀ x, foldedSetIterable iter X.env x = pure x := by intro _; rfl) : PEF X (.ListComp elt [⟨tg, iter, [c], 0⟩] scope pos) (fComp ix fi g (some ft) fe) :=
  PE.imp (pe_comp (g := lG X.K g) (te := lE X.K fe) (tt := lT X.K ft) S hcalm hi hg (fun _ _ _ _ _ _ => tests_one (ht _ _ _ _ _ _)) he hs) (lE_comp (tt := some ft))
end
end MR
set_option Elab.async false
set_option linter.all false
set_option maxRecDepth 100000
set_option maxHeartbeats 4000000
namespace MR
open PySem PySem.Spec PyProof.Rows L2
section
variable {X : Cx} {pins : List (Addr × Obj)} {σ : L2.St} {H : Hp} {s : Shared} {h' : Heap}
theorem Inv.turnNew {ch : List Addr} {p : Addr} {o : HO} {t' : Nat} (I : L2.Inv X pins σ H s) (hch : ∀ b ∈ ch, FpOk X pins H b) (k : ∀ b o, b ∉ ch → s.heap.get? b = some o → h'.get? b = some o) (hp : s.heap.objs.size ≤ p) (new : ObjOk X.prog X.w (upd H p o) h' p o) :
    L2.Inv X pins σ (upd H p o) { s with heap := h', toks := t' } := by
  have hn : H p = none := I.hok.fresh hp
  have nch : ∀ b u, H b = some u → b ∉ ch := fun b u e hb => by rw [(hch b hb).1] at e; cases e
  have st := Stay.new hn o
  refine I.step (g' := s.gens) (d' := s.drawn) (ch := ch) (fun b hb => ?_) (fun b o _ _ hc e _ => k b o hc e) (fun b o _ _ hc e _ => ⟨o.slots, k b o hc e⟩) (fun b u hc e n => ?_) (fun b u hc e => ⟨u, k b u hc e⟩) st.1 st.2 (fun b ps e => ⟨#[], ?_⟩) (fun m hm => ?_) (fun b u e => ?_) I.bare
  · obtain ⟨_, f1, _, f3, f4, f5⟩ := hch b hb
    exact ⟨f3, f1, f4, f5⟩
  · rw [upd_ne (Nat.ne_of_lt (Nat.lt_of_lt_of_le (Heap.lt_size e) hp))]; exact n
  · rw [upd_ne (ne_of_none e hn), e]; simp
  · obtain ⟨o1, es, ep, ho, r⟩ := hm
    exact ⟨o1, es, ep, k _ o1 (fun z => (hch _ z).2.1 rfl) ho, r⟩
  · by_cases hb : b = p
    · subst hb; rw [upd_same] at e; cases e; exact new
    · rw [upd_ne hb] at e
      refine (I.hok b u e).stay (fun c v hc q => k c v ?_ q) (fun c q => by rw [upd_ne (ne_of_none q hn)]; exact q) fun c xs q => by rw [upd_ne (ne_of_none q hn)]; exact q
      rcases hc with z | z
      · rw [z]; exact nch b u e
      · exact nch c _ z
end
noncomputable def Ite (K : PySem.W.Frag) (a : Addr) : It :=
  ⟨fun i H => ∃ xs x, SqL K H a xs ∧ xs[i]? = some x, fun i H x H' => ∃ p v, H p = none ∧ x = .ref p ∧ H' = upd H p (.tup [.int i, v]) ∧ ∀ xs, SqL K H a xs → xs[i]? = some v, fun i H => ∃ xs, SqL K H a xs ∧ xs.length ≤ i⟩
theorem turn_enum {P : Program} {w : World} {K : PySem.W.Frag} {elts : List Expr} {x1} {pos : Pos} (a e it : Addr) (hne : e ≠ it) : Turn P w K (.Tuple elts x1 pos) (Ite K a) [e, it] e (fun i h => (∃ old, IsEnum h e it i old) ∧ h.IsListIter it a i) where
  mem := by simp
  obj := fun i h st b hb => by
    obtain ⟨⟨old, he⟩, o, ho, hc, hd⟩ := st
    rcases List.mem_cons.mp hb with rfl | hb
    · exact ⟨_, he, fun v z => by simp at z⟩
    · have : b = it := by simpa using hb
      subst this
      exact ⟨o, ho, fun v z => by rw [hd] at z; cases z⟩
  keep := fun i h h' st k => by
    obtain ⟨⟨old, he⟩, o, ho, hc, hd⟩ := st
    exact ⟨⟨old, k e (by simp) _ he⟩, o, k it (by simp) _ ho, hc, hd⟩
  item := by
    intro X hP hw hK hc i pins s σ H E I hf st hg
    subst hP hw hK
    obtain ⟨⟨old, he⟩, hit⟩ := st
    obtain ⟨xs, v, sq, hx⟩ := hg
    obtain ⟨its, hv, pl, hz⟩ := I.list sq
    obtain ⟨u, hu, r⟩ := hv.get hx
    refine wpAny_pyNext_enum_item he hit pl.isList (by simpa using hu) hne fun h' o1 o2 o3 o4 o5 => ?_
    refine ⟨_, rfl, ?_⟩
    have hfr : H s.heap.objs.size = none := I.hok.fresh (Nat.le_refl _)
    have I1 : L2.Inv X pins σ (upd H s.heap.objs.size (.tup [.int i, v])) { s with heap := h', toks := s.toks + 1 } :=
      Inv.turnNew (ch := [e, it]) I hf (fun b o hb q => o5 b o (fun z => hb (by simp [z])) (fun z => hb (by simp [z])) q) (Nat.le_refl _)
        (show ObjOk X.prog X.w _ h' _ (.tup [.int i, v]) from ⟨by show 2 ≤ sizeLine; decide, [.int i s.toks, u], .cons ⟨_, rfl⟩ (.cons r .nil), ⟨_, o3, rfl, _, rfl⟩⟩)
    refine wpAny_letOwnedTupleGo_enum o1 fun h2 e2 sb2 => ?_
    have hne2 : ∀ b ∈ [e, it], b ≠ s.heap.objs.size := fun b hb z => by
      rcases List.mem_cons.mp hb with q | q
      · have := Heap.lt_size he; rw [← q, z] at this; exact Nat.lt_irrefl _ this
      · have q : b = it := by simpa using q
        obtain ⟨o, ho, _⟩ := hit
        have := Heap.lt_size ho; rw [← q, z] at this; exact Nat.lt_irrefl _ this
    have hnone : ∀ b ∈ [e, it], (upd H s.heap.objs.size (.tup [.int i, v])) b = none := fun b hb => by rw [upd_ne (hne2 b hb)]; exact (hf b hb).1
    obtain ⟨f0, f1, f2, f3, f4, f5⟩ := hf e (by simp)
    have I2 := I1.turned (t' := s.toks + 1) (h' := h2) (it := e) (fun b o hb q => sb2.2 b hb |>.trans q) (hnone e (by simp)) f1 f3 f4 f5
    obtain ⟨oi, hoi, hci, hdi⟩ := o2
    refine ⟨.ref s.heap.objs.size, _, I2, rfl, ⟨_, v, hfr, rfl, rfl, fun ys sq' => ?_⟩, ⟨⟨_, e2⟩, oi, (sb2.2 it (Ne.symm hne)).trans hoi, hci, hdi⟩, hnone⟩
    rw [I.list_inj sq' sq]; exact hx
  done := by
    intro X hP hw hK hc i pins s σ H E I hf st hg
    subst hP hw hK
    obtain ⟨⟨old, he⟩, hit⟩ := st
    obtain ⟨xs, sq, hx⟩ := hg
    obtain ⟨its, hv, pl, hz⟩ := I.list sq
    obtain ⟨f0, f1, f2, f3, f4, f5⟩ := hf it (by simp)
    have hlen := hv.length
    refine wpAny_pyNext_enum_end (I.ok.hd hc) he hit pl.isList (by simp; omega) fun h' eb => ⟨rfl, I.turned (t' := s.toks) (fun b o hb q => eb b o hb q) f0 f1 f3 f4 f5⟩
  self := fun _ _ _ _ _ st h => by obtain ⟨⟨old, he⟩, _⟩ := st; exact wpAny_pyIter_enum he h
section
variable {X : Cx} {elts : List Expr} {x1 : Nat} {tpos : Pos}
theorem boot_enum : bootBuiltins "enumerate" = some (.type "enumerate") := by decide +kernel
noncomputable def iEnum (K : PySem.W.Frag) (ta : TA) : TI := fun σ H R => ta σ H fun vs H1 => ∃ a xs, vs = [.ref a] ∧ SqL K H1 a xs ∧ R (Ite K a) H1
theorem pi_enum {a : Expr} {ta : TA} {p pos : Pos} (hg : Gl X "enumerate") (hm : X.mg "enumerate" = none) (ha : PA X [a] ta) (hs : starEach [a] X.env = [(false, eval a X.env)] := by rfl) : PI X (.Tuple elts x1 tpos) (.Call (.Name "enumerate" p) [a] [] pos) (iEnum X.K ta) := by
  intro pins s σ H R I h
  refine Call_ (ld_blt I hg hm boot_enum (PyProof.Rows.callWith_type1 (thn (ha pos pins s σ H _ I h) fun us s1 ⟨vs, H1, I1, r1, q1⟩ => ?_) hs rfl))
  obtain ⟨l, xs, rfl, sq, q⟩ := q1
  obtain ⟨u, rfl, ru⟩ := vals1 r1
  cases ru
  obtain ⟨its, hv, pl, hz⟩ := I1.list sq
  refine call_enumerate_list pl.isList fun h' o1 o2 o3 o4 => ?_
  have I2 : L2.Inv X pins σ H1 { s1 with heap := h' } := I1.kept (t' := s1.toks) o4
  refine wpAny_pyIter_enum o1 ⟨_, _, _, _, H1, rfl, I2, turn_enum l (s1.heap.objs.size + 1) s1.heap.objs.size (Nat.ne_of_gt (Nat.lt_succ_self _)), ⟨⟨_, o1⟩, o2⟩, fun b hb => ?_, q⟩
  have hb' : s1.heap.objs.size ≤ b := by
    simp only [List.mem_cons, List.not_mem_nil, or_false] at hb
    rcases hb with rfl | rfl
    · exact Nat.le_succ _
    · exact Nat.le_refl _
  exact L2.Inv.fpOk I1 hb' (I1.hok.fresh hb')
noncomputable def fEnum (g : FA) : FI := fun δ L => (g δ L).bind fun p => match p.1 with
  | [.ref n] => (seqAt p.2 n).map fun _ => (.enm n, p.2)
  | _ => none
noncomputable def fZip (g : FA) : FI := fun δ L => (g δ L).bind fun p => match p.1 with
  | [.ref n, .ref m] => (seqAt p.2 n).bind fun _ => (seqAt p.2 m).map fun _ => (.zip2 n m, p.2)
  | _ => none
theorem seqAt_addr {K : PySem.W.Frag} {H : Hp} {α : List Addr} {L : UH} {n : Nat} {a : Addr} {us : List U} (A : Abs K H α L) (ea : α[n]? = some a) (h : seqAt L n = some us) : ∃ xs, SqL K H a xs ∧ RepL K H α us xs := by
  obtain ⟨a', xs, ea', sq, r⟩ := seqAt_ok A h
  rw [ea] at ea'; cases ea'
  exact ⟨xs, sq, r⟩
theorem ite_rep {K : PySem.W.Frag} {H : Hp} {α : List Addr} {n : Nat} {a : Addr} (hinj : ∀ (H : Hp) xs ys, SqL K H a xs → SqL K H a ys → True) (ea : α[n]? = some a) : ItRep K (Ite K a) (.enm n) H α := by
  intro H2 α2 L2 g A2 k
  have ea2 := g.at ea
  refine ⟨fun u eu => ?_, fun eu => ?_⟩
  · obtain ⟨us, hs, eu⟩ := Option.map_eq_some_iff.mp eu
    obtain ⟨xs, sq, r⟩ := seqAt_addr A2 ea2 hs
    obtain ⟨w, hw, eu⟩ := Option.map_eq_some_iff.mp eu
    subst eu
    obtain ⟨x, hx, rx⟩ := r.get hw
    refine ⟨⟨xs, x, sq, hx⟩, ?_⟩
    rintro y H3 ⟨p, v, hp, rfl, rfl, hy⟩
    have := hy xs sq
    rw [hx] at this; cases this
    exact A2.tup (.cons rfl (.cons rx .nil)) hp
  · obtain ⟨us, hs, eu⟩ := Option.map_eq_some_iff.mp eu
    obtain ⟨xs, sq, r⟩ := seqAt_addr A2 ea2 hs
    have : us[k]? = none := by simpa using eu
    exact ⟨xs, sq, by rw [← r.length]; exact List.getElem?_eq_none_iff.mp this⟩
end
end MR
set_option Elab.async false
set_option linter.all false
set_option maxRecDepth 100000
set_option maxHeartbeats 4000000
namespace MR
open PySem PySem.Spec PyProof.Rows L2
theorem fm_congr {β γ : Type} {f g : β → Option γ} : ∀ {l : List β}, (∀ x ∈ l, f x = g x) → l.filterMap f = l.filterMap g
  | [], _ => rfl
  | a :: l, h => by rw [List.filterMap_cons, List.filterMap_cons, h a (List.mem_cons_self ..), fm_congr fun x hx => h x (List.mem_cons_of_mem _ hx)]
theorem back_aux {β : Type} : ∀ r : List β, ((List.range r.length).map fun (k : Nat) => (((r.length : Int) - 1 + -1 * (k : Int)).toNat)).filterMap (r.reverse[·]?) = r
  | [] => rfl
  | a :: r => by
    have ih := back_aux r
    rw [List.length_cons, List.range_succ_eq_map, List.map_cons, List.filterMap_cons]
    have h0 : (a :: r).reverse[(((r.length + 1 : Nat) : Int) - 1 + -1 * ((0 : Nat) : Int)).toNat]? = some a := by
      have : (((r.length + 1 : Nat) : Int) - 1 + -1 * ((0 : Nat) : Int)).toNat = r.reverse.length := by rw [List.length_reverse]; omega
      rw [this, List.reverse_cons, List.getElem?_append_right (Nat.le_refl _)]
      simp
    rw [h0]
    simp only
    congr 1
    rw [List.map_map, List.filterMap_map]
    rw [List.filterMap_map] at ih
    refine Eq.trans (fm_congr fun k hk => ?_) ih
    have hk := List.mem_range.mp hk
    simp only [Function.comp]
    have : (((r.length + 1 : Nat) : Int) - 1 + -1 * ((k.succ : Nat) : Int)).toNat = ((r.length : Int) - 1 + -1 * (k : Int)).toNat := by simp only [Nat.succ_eq_add_one]; omega
    rw [this, List.reverse_cons, List.getElem?_append_left (by rw [List.length_reverse]; omega)]
theorem slicePick_back (its : List Value) : slicePick its.toArray none none (some (-1)) = its.reverse.toArray := by
  unfold slicePick
  have e : sliceBounds none none (some (-1)) its.toArray.size = ((its.length : Int) - 1, -1, -1) := by simp [sliceBounds]
  rw [e]
  have e2 : sliceRange ((its.length : Int) - 1) (-1) (-1) = (List.range its.length).map fun (k : Nat) => (((its.length : Int) - 1 + -1 * (k : Int)).toNat) := by
    unfold sliceRange
    have : (if (-1 : Int) > 0 then (if ((its.length : Int) - 1) < -1 then (-1 - ((its.length : Int) - 1) + -1 - 1) / -1 else 0) else (if ((its.length : Int) - 1) > -1 then (((its.length : Int) - 1) - -1 - -1 - 1) / (- -1) else 0)).toNat = its.length := by
      rw [if_neg (by decide)]
      split
      · have : (its.length : Int) - 1 - -1 - -1 - 1 = its.length := by omega
        rw [this]
        simp
      · simp; omega
    simp only [this]
  simp only
  rw [e2]
  have := back_aux its.reverse
  rw [List.length_reverse, List.reverse_reverse] at this
  have h2 : (List.filterMap (fun x => its.toArray[x]?) (List.map (fun (k : Nat) => (((its.length : Int) - 1 + -1 * (k : Int)).toNat)) (List.range its.length))) = its.reverse := by
    rw [← this]
    simp
  rw [h2]
theorem Vals.rev {xs : List V} {us : List Value} (h : Vals xs us) : Vals xs.reverse us.reverse := by
  induction h with
  | nil => exact .nil
  | cons h1 _ ih => rw [List.reverse_cons, List.reverse_cons]; exact ih.append (.cons h1 .nil)
theorem RepL.rev {K : PySem.W.Frag} {H : Hp} {α : List Addr} : ∀ {us : List U} {xs : List V}, RepL K H α us xs → RepL K H α us.reverse xs.reverse
  | [], xs, r => by unfold RepL at r; subst r; exact .nil
  | u :: us, xs, r => by
    unfold RepL at r
    obtain ⟨x, xr, rfl, r1, r2⟩ := r
    rw [List.reverse_cons, List.reverse_cons]
    exact (RepL.rev r2).append (.cons r1 .nil)
end MR
namespace HT
open PySem PySem.Spec PyProof.Rows
section
variable {prog : Program} {w : World} {A : Around} {E : Value → Shared → Prop} {s : Shared}
theorem sliceApplied_back {sl : Addr} {vs : Value} {n : Nat} {Q : Int × Int × Nat → Shared → Prop} (hs : s.heap.IsSliceOf sl .none .none vs) (pu : IsPart vs (some (-1)))
    (h : Q ((n : Int) - 1, -1, n) s) : wpAny (model prog w) A (Builtin.Slice.sliceApplied (.ref sl) (pure (n : Int))) Q E s := by
  obtain ⟨os, hos, hcs, hds⟩ := id hs
  unfold Builtin.Slice.sliceApplied Builtin.Slice.sliceFields
  refine wpAny_bind (wpAny_bind (wpAny_field hos hds (x := .none) rfl (wpAny_bind (wpAny_field hos hds (x := .none) rfl (wpAny_bind (wpAny_field hos hds (x := vs) rfl (wpAny_pure ?_)))))))
  refine wpAny_bind (slicePart_ pu ?_)
  show wpAny _ _ (if ((-1 : Int) == 0) = true then _ else _) _ _ s
  rw [if_neg (by decide)]
  refine wpAny_bind (slicePart_ .none (wpAny_bind (slicePart_ .none (wpAny_bind (wpAny_pure ?_)))))
  show wpAny _ _ (match Builtin.Slice.sliceAdjust none none (-1) (n : Int) with | (lo, hi) => pure (lo, (-1 : Int), Builtin.Slice.slicePlaces lo hi (-1))) _ _ s
  have e1 : Builtin.Slice.sliceAdjust none none (-1) (n : Int) = ((n : Int) - 1, -1) := rfl
  rw [e1]
  show wpAny _ _ (pure ((n : Int) - 1, (-1 : Int), Builtin.Slice.slicePlaces ((n : Int) - 1) (-1) (-1))) _ _ s
  have e2 : Builtin.Slice.slicePlaces ((n : Int) - 1) (-1) (-1) = n := by
    unfold Builtin.Slice.slicePlaces
    rw [if_neg (by decide)]
    split
    · simp
    · simp; omega
  rw [e2]
  exact wpAny_pure h
theorem pick_back (xs : List Value) : ((List.range xs.length).filterMap fun (m : Nat) => xs.toArray[((xs.length : Int) - 1 + (m : Int) * -1).toNat]?).toArray = xs.reverse.toArray := by
  have := MR.back_aux xs.reverse
  rw [List.length_reverse, List.reverse_reverse, List.filterMap_map] at this
  rw [← this]
  congr 1
  refine MR.fm_congr fun k _ => ?_
  simp only [Function.comp]
  have : ((xs.length : Int) - 1 + (k : Int) * -1) = ((xs.length : Int) - 1 + -1 * (k : Int)) := by omega
  rw [this]
  simp
theorem getItem_tuple_back {t sl : Addr} {its : List Value} {vs : Value} {Q : Value → Shared → Prop} (ht : IsTup s.heap t its.toArray) (hs : s.heap.IsSliceOf sl .none .none vs) (pu : IsPart vs (some (-1)))
    (h : Q (.ref s.heap.objs.size) { s with heap := s.heap.push { cls := .type "tuple", data := .seq its.reverse.toArray } })
    (hsz : its.length ≤ sizeLine) : wpAny (model prog w) A (getItem (.ref t) (.ref sl)) Q E s := by
  have htake : sizeOk (.seq its.reverse.toArray) := by
    show its.reverse.toArray.size ≤ sizeLine
    rw [List.size_toArray, List.length_reverse]; exact hsz
  obtain ⟨os, hos, hcs, hds⟩ := id hs
  have hTs : s.TypeIs (.ref sl) "slice" := ⟨os, hos, hcs⟩
  unfold getItem
  try with_reducible refine wpAny_holding ?_
  first | refine wpAny_bind (wpAny_pure ?_) | skip
  refine wpAny_bind (wpAny_sequenceKey ht.typeIs (by decide) ?_)
  refine wpAny_bind (wpAny_callSpecial?_slot (name := Str.ofString "__getitem__") ht.typeIs PyProof.Rows.slot_tuple_getitem
    (wpAny_call_entry PyProof.Rows.slot_tuple_getitem ht.typeIs entry_tuple_getitem ?_ (args_tuple_getitem _ _)))
  show wpAny _ _ (Builtin.Tuple.tupleItemsOf (.ref t) >>= _) _ _ s
  refine wpAny_bind (tupleItemsOf_ ht ?_)
  refine wpAny_bind (wpAny_typeOf hTs ?_)
  rw [if_pos (by decide)]
  refine wpAny_bind (sliceApplied_back hs pu ?_)
  show wpAny _ _ (if ((((its.toArray.size : Nat) : Int) - 1) == 0 && (-1 : Int) == 1 && its.toArray.size == its.toArray.size) = true then _ else _) _ _ s
  have hno : ¬ (((((its.toArray.size : Nat) : Int) - 1) == 0 && (-1 : Int) == 1 && its.toArray.size == its.toArray.size) = true) := by simp
  rw [if_neg hno]
  have e : ((List.range its.toArray.size).filterMap fun (m : Nat) => its.toArray[((its.toArray.size : Int) - 1 + (m : Int) * -1).toNat]?).toArray = its.reverse.toArray := by
    have := pick_back its
    simpa using this
  first
    | (rw [e]
       first
        | exact wpAny_bind (m := Builtin.Tuple.tupleExact _) (wpAny_newObj_type (wpAny_pure ⟨_, rfl, wpAny_pure h⟩) htake)
        | exact wpAny_bind (m := Builtin.Tuple.tupleExact _) (wpAny_newObj_type (wpAny_bind (wpAny_pure (wpAny_pure ⟨_, rfl, wpAny_pure h⟩))) htake)
        | exact wpAny_bind (wpAny_bind (m := Builtin.Tuple.tupleExact _) (wpAny_newObj_type (wpAny_pure (wpAny_pure ⟨_, rfl, wpAny_pure h⟩)) htake))
        | exact wpAny_bind (wpAny_bind (m := Builtin.Tuple.tupleExact _) (wpAny_newObj_type (wpAny_pure ⟨_, rfl, wpAny_pure h⟩) htake)))
end
end HT
namespace MR
open PySem PySem.Spec PyProof.Rows L2
section
variable {X : Cx} {e st : Expr} {fa fs : FE} {p2 pos : Pos}
noncomputable def fRev (f : FE) : FE := fun δ L => (f δ L).bind fun p => match p.1 with | .ref n => (seqAt p.2 n).map fun l => (.ref p.2.length, p.2 ++ [.lst l.reverse]) | .tup l => some (.tup l.reverse, p.2) | _ => none
theorem pf_rev (he : PEF X e fa) {q1 q2 : Pos} {k : Nat} : PEF X (.Subscript e (.Slice none none (some (.UnaryOp .USub (.Constant (.int 1) k q1) q2)) p2) pos) (fRev fa) := by
  rintro pins s σ H Q I ⟨α, δ, L, A, S, z, L3, ee, q⟩
  obtain ⟨⟨u, L1⟩, e1, ee⟩ := Option.bind_eq_some_iff.mp ee
  refine Subscript_ (thn (he pins s σ H (fun x H1 => ∃ α1, Gr H α H1 α1 ∧ Abs X.K H1 α1 L1 ∧ RepU X.K H1 α1 u x) I ⟨α, δ, L, A, S, u, L1, e1, fun x H1 α1 g1 A1 r1 => ⟨α1, g1, A1, r1⟩⟩) fun v s1 ⟨x, H1, I1, r1, α1, g1, A1, ru⟩ => ?_)
  cases u with
  | ref n =>
    obtain ⟨l, hl, ee⟩ := Option.map_eq_some_iff.mp ee
    cases ee
    obtain ⟨a, xs, ea, sq, r⟩ := seqAt_ok A1 hl
    obtain ⟨a', ea', rfl⟩ := ru.ref_of A1
    rw [ea] at ea'; cases ea'
    cases r1
    have ps : POF X (some (.UnaryOp .USub (.Constant (.int 1) k q1) q2)) (fPart (fNeg (fC (.int 1)))) := pof_some (pf_neg pf_int)
    refine wpAny_Slice ?_
    rw [evalPart_none]
    refine wpAny_pure (wpAny_pure ?_)
    refine thn (ps pins s1 σ H1 (fun o H' => o = some (-1) ∧ ∃ α2, Gr H1 α1 H' α2 ∧ Abs X.K H' α2 L1) I1 ⟨α1, δ, L1, A1, S.mono g1, some (-1), L1, rfl, fun H2 α2 g2 A2 => ⟨rfl, α2, g2, A2⟩⟩) fun vs s3 ⟨o, H3, I3, pu, ho, α3, g3, A3⟩ => ?_
    subst ho
    have I4 : L2.Inv X pins σ H3 { s3 with heap := s3.heap.push { cls := .type "slice", data := .fields #[.none, .none, vs] } } := I3.kept (t' := s3.toks) fun b ob q => Heap.get?_push_of_some _ q
    obtain ⟨a3, xs3, ea3, sq3, r3⟩ := seqAt_ok A3 hl
    have : a3 = a := by
      obtain ⟨ys, hy⟩ := g3.1
      rw [hy, List.getElem?_append_left (List.getElem?_eq_some_iff.mp ea).1, ea] at ea3
      exact (Option.some.inj ea3).symm
    subst this
    obtain ⟨its, rv, ht, hz⟩ := I4.list sq3
    have hlen := rv.length
    show wpAny (model X.prog X.w) X.A (subscriptTail e (.Slice none none _ p2) (.ref _) (.ref s3.heap.objs.size)) (EP X pins σ Q) X.xe { s3 with heap := s3.heap.push { cls := .type "slice", data := .fields #[.none, .none, vs] } }
    refine tail_any (ops := [.ref _, .ref s3.heap.objs.size]) ht.isList.typeIs slot_list_getitem.lookup ?_ (by with_unfolding_all rfl)
    refine wpAny_getItem_list_slice ht.isList (Heap.IsSliceOf.new ..) .none .none pu (by simp) ?_ (by rw [List.size_toArray] <;> omega)
    rw [slicePick_back]
    obtain ⟨g4, A4, r4⟩ := A3.lst r3.rev (I4.hok.fresh (Nat.le_refl _))
    refine ⟨.ref _, _, I4.laid (t' := s3.toks) (o := .lst xs3.reverse) (fun b ob q => Heap.get?_push_of_some _ q) (Nat.le_refl _) ?_, rfl, q _ _ _ (g1.trans (g3.trans g4)) A4 r4⟩
    exact ⟨by rw [List.length_reverse]; exact hz, _, 0, Vals.rev rv, Heap.get?_push_size _ rfl⟩
  | tup l =>
    cases ee
    unfold RepU at ru
    obtain ⟨a, xs, rfl, sq, r⟩ := ru
    cases r1
    have ps : POF X (some (.UnaryOp .USub (.Constant (.int 1) k q1) q2)) (fPart (fNeg (fC (.int 1)))) := pof_some (pf_neg pf_int)
    refine wpAny_Slice ?_
    rw [evalPart_none]
    refine wpAny_pure (wpAny_pure ?_)
    refine thn (ps pins s1 σ H1 (fun o H' => o = some (-1) ∧ ∃ α2, Gr H1 α1 H' α2 ∧ Abs X.K H' α2 L1) I1 ⟨α1, δ, L1, A1, S.mono g1, some (-1), L1, rfl, fun H2 α2 g2 A2 => ⟨rfl, α2, g2, A2⟩⟩) fun vs s3 ⟨o, H3, I3, pu, ho, α3, g3, A3⟩ => ?_
    subst ho
    have I4 : L2.Inv X pins σ H3 { s3 with heap := s3.heap.push { cls := .type "slice", data := .fields #[.none, .none, vs] } } := I3.kept (t' := s3.toks) fun b ob q => Heap.get?_push_of_some _ q
    have rr : RepU X.K H3 α3 (.tup l) (.ref a) := (show RepU X.K H1 α1 (.tup l) (.ref a) by unfold RepU; exact ⟨a, xs, rfl, sq, r⟩).mono g3
    unfold RepU at rr
    obtain ⟨a3, xs3, ha3, sq3, r3⟩ := rr
    cases ha3
    obtain ⟨its, rv, ht, hz⟩ := I4.tuple sq3
    have hlen := rv.length
    show wpAny (model X.prog X.w) X.A (subscriptTail e (.Slice none none _ p2) (.ref _) (.ref s3.heap.objs.size)) (EP X pins σ Q) X.xe { s3 with heap := s3.heap.push { cls := .type "slice", data := .fields #[.none, .none, vs] } }
    refine tail_any (ops := [.ref _, .ref s3.heap.objs.size]) ht.typeIs PyProof.Rows.slot_tuple_getitem.lookup ?_ (by with_unfolding_all rfl)
    refine HT.getItem_tuple_back ht (Heap.IsSliceOf.new ..) pu ?_ (by omega)
    obtain ⟨g4, A4, r4⟩ := A3.tup r3.rev (I4.hok.fresh (Nat.le_refl _))
    refine ⟨.ref _, _, I4.laid (t' := s3.toks) (o := .tup xs3.reverse) (fun b ob q => Heap.get?_push_of_some _ q) (Nat.le_refl _) ?_, rfl, q _ _ _ (g1.trans (g3.trans g4)) A4 r4⟩
    exact ⟨by rw [List.length_reverse]; exact hz, _, Vals.rev rv, IsTup.new _ _⟩
  | _ => cases ee
end
end MR
set_option Elab.async false
set_option linter.all false
set_option maxRecDepth 100000
set_option maxHeartbeats 4000000
namespace MR
open PySem PySem.Spec PyProof.Rows L2
structure ClsF (K : PySem.W.Frag) (C : Str) (Ca : Addr) : Prop where
  ns : PySem.W.nsIn K mainGlobals C = some (some (.ref Ca))
  cl : Cls K Ca
theorem ClsF.eq {K : PySem.W.Frag} {C : Str} {Ca Cb : Addr} (T : ClsF K C Ca) (h : PySem.W.nsIn K mainGlobals C = some (some (.ref Cb))) : Cb = Ca := by
  have := T.ns.symm.trans h
  simpa using this.symm
section
variable {X : Cx} {o e value : Expr} {es : List Expr} {f m C x : Str} {p pos pos' apos : Pos} {Ca fa : Addr} {fd : FuncData} {ps : List Str} {k n : Nat} {F : FN} {fe fo fv : FE} {g : FA}
end
end MR
set_option Elab.async false
set_option linter.all false
set_option maxRecDepth 100000
set_option maxHeartbeats 4000000
namespace ZT
open PySem PySem.Spec PyProof.Rows
open Sem (wp)
noncomputable def SqK (b : Bool) (h : Heap) (l : Addr) (xs : Array Value) : Prop := match b with
  | true => h.IsList l xs
  | false => h.IsTuple l xs
noncomputable def ItK (b : Bool) (h : Heap) (jt l : Addr) (k : Nat) : Prop := match b with
  | true => h.IsListIter jt l k
  | false => h.IsTupleIter jt l k
theorem SqK.keep {b : Bool} {h h' : Heap} {l : Addr} {xs : Array Value} (x : SqK b h l xs) (e : ∀ o, h.get? l = some o → h'.get? l = some o) : SqK b h' l xs := by
  cases b with
  | true => obtain ⟨o, ho, r⟩ := x; exact ⟨o, e _ ho, r⟩
  | false => obtain ⟨o, ho, r⟩ := x; exact ⟨o, e _ ho, r⟩
theorem ItK.keep {b : Bool} {h h' : Heap} {jt l : Addr} {k : Nat} (x : ItK b h jt l k) (e : ∀ o, h.get? jt = some o → h'.get? jt = some o) : ItK b h' jt l k := by
  cases b with
  | true => obtain ⟨o, ho, r⟩ := x; exact ⟨o, e _ ho, r⟩
  | false => obtain ⟨o, ho, r⟩ := x; exact ⟨o, e _ ho, r⟩
theorem ItK.lt {b : Bool} {h : Heap} {jt l : Addr} {k : Nat} (x : ItK b h jt l k) : jt < h.objs.size := by
  cases b with
  | true => obtain ⟨o, ho, r⟩ := x; exact Heap.lt_size ho
  | false => obtain ⟨o, ho, r⟩ := x; exact Heap.lt_size ho
theorem ItK.obj {b : Bool} {h : Heap} {jt l : Addr} {k : Nat} (x : ItK b h jt l k) : ∃ o, h.get? jt = some o ∧ o.data = .fields #[.ref l, .int k 0] := by
  cases b with
  | true => obtain ⟨o, ho, _, r⟩ := x; exact ⟨o, ho, r⟩
  | false => obtain ⟨o, ho, _, r⟩ := x; exact ⟨o, ho, r⟩
section
variable {prog : Program} {w : World} {A : Around} {E : Value → Shared → Prop} {s : Shared}
theorem next_tup {jt t : Addr} {k : Nat} {its : Array Value} {v : Value} {Q : Value → Shared → Prop} (hj : s.heap.IsTupleIter jt t k) (ht : s.heap.IsTuple t its) (hv : its[k]? = some v)
    (hQ : ∀ h', h'.IsTupleIter jt t (k + 1) → Heap.SameBut jt s.heap h' → Q v { s with heap := h' }) : wpAny (model prog w) A (Builtin.SmallTypes.nextOf (.ref jt)) Q E s := by
  obtain ⟨ob, hob, hcl, hda⟩ := id hj
  obtain ⟨ot, hot, _, nt, hdt⟩ := ht
  unfold Builtin.SmallTypes.nextOf
  refine wpAny_bind (wpAny_callSpecial?_slot (name := Str.ofString "__next__") hj.typeIs F.slot_tuple_iterator_next (wpAny_call_entry F.slot_tuple_iterator_next hj.typeIs F.entry_tuple_iterator_next ?_ (F.args_tuple_iterator_next_1 _)))
  show wpAny _ _ (field (.ref jt) 0 >>= _) _ _ s
  refine wpAny_bind (wpAny_field hob hda (x := .ref t) rfl ?_)
  show wpAny _ _ (if (Value.ref t == Value.none) = true then _ else _) _ _ s
  rw [if_neg (show ¬ ((Value.ref t == Value.none) = true) from (fun z => Bool.false_ne_true z))]
  show wpAny _ _ (field (.ref jt) 1 >>= _) _ _ s
  refine wpAny_bind (wpAny_field hob hda (x := .int k 0) rfl ?_)
  show wpAny _ _ (seqItems? (.ref t) >>= fun z => _) _ _ s
  refine wpAny_bind (wpAny_seqItems hot hdt ?_)
  simp only [Int.toNat_natCast, hv]
  refine wpAny_bind (wpAny_setField hob hda (by simp) (wpAny_pure ⟨v, rfl, wpAny_pure (hQ _ ?_ (Heap.SameBut.update ..))⟩))
  exact ⟨_, Heap.get?_update_self _ hob (Obj.isFreed_of_fields (Obj.data_mapFields hda _)), (Obj.cls_mapFields ..).trans hcl, by rw [Obj.data_mapFields hda]; simp [rawInt]⟩
theorem stop_tup {jt t : Addr} {k : Nat} {its : Array Value} {Q : Value → Shared → Prop} (hh : A.handled = none) (hj : s.heap.IsTupleIter jt t k) (ht : s.heap.IsTuple t its) (hv : its[k]? = none)
    (hE : ∀ h' e, Heap.ExtBut jt s.heap h' → (∃ ob, h'.get? e = some ob ∧ ob.cls = .type "StopIteration") → E (.ref e) { s with heap := h' }) : wpAny (model prog w) A (Builtin.SmallTypes.nextOf (.ref jt)) Q E s := by
  obtain ⟨ob, hob, hcl, hda⟩ := id hj
  obtain ⟨ot, hot, _, nt, hdt⟩ := ht
  unfold Builtin.SmallTypes.nextOf
  refine wpAny_bind (wpAny_callSpecial?_slot (name := Str.ofString "__next__") hj.typeIs F.slot_tuple_iterator_next (wpAny_call_entry F.slot_tuple_iterator_next hj.typeIs F.entry_tuple_iterator_next ?_ (F.args_tuple_iterator_next_1 _)))
  show wpAny _ _ (field (.ref jt) 0 >>= _) _ _ s
  refine wpAny_bind (wpAny_field hob hda (x := .ref t) rfl ?_)
  show wpAny _ _ (if (Value.ref t == Value.none) = true then _ else _) _ _ s
  rw [if_neg (show ¬ ((Value.ref t == Value.none) = true) from (fun z => Bool.false_ne_true z))]
  show wpAny _ _ (field (.ref jt) 1 >>= _) _ _ s
  refine wpAny_bind (wpAny_field hob hda (x := .int k 0) rfl ?_)
  show wpAny _ _ (seqItems? (.ref t) >>= fun z => _) _ _ s
  refine wpAny_bind (wpAny_seqItems hot hdt ?_)
  simp only [Int.toNat_natCast, hv]
  refine wpAny_bind (wpAny_rule (wpAny_bind (wpAny_setField hob hda (by simp) ?_)))
  show wpAny _ _ (newExc (.type "StopIteration") [] >>= fun z => _) _ _ _
  refine wpAny_bind ?_
  simp only [newExc, newTuple]; refine wpAny_bind (wpAny_newObj_type ?_ (by size_fits))
  refine wpAny_bind (m := firstArgMember _ _) (wpAny_of_eq (a := Value.none) (by first | rfl | (simp only [firstArgMember]; rfl)) (wpAny_newObj_type ?_ (by size_fits)))
  simp only [raiseNew]; refine wpAny_bind (wpAny_handled ?_)
  first | rw [show A.in1.handled = none from hh] | (rw [hh])
  exact wpAny_bind (wpAny_pure (wpAny_throw (hE _ _ (((Heap.SameBut.update ..).extBut.push _).push _) ⟨_, Heap.get?_push_size _ rfl, rfl⟩)))
theorem SqK.but {b : Bool} {h h' : Heap} {l c : Addr} {xs : Array Value} (x : SqK b h l xs) (e : Heap.ExtBut c h h') (hne : l ≠ c) : SqK b h' l xs := x.keep fun o q => e l o hne q
theorem ItK.but {b : Bool} {h h' : Heap} {jt l c : Addr} {k : Nat} (x : ItK b h jt l k) (e : Heap.ExtBut c h h') (hne : jt ≠ c) : ItK b h' jt l k := x.keep fun o q => e jt o hne q
variable {b1 b2 : Bool} {z TI TO j1 j2 l1 l2 : Addr} {k1 k2 : Nat} {xs ys : Array Value} {a b : Value}
end
end ZT
set_option Elab.async false
set_option linter.all false
set_option maxRecDepth 100000
set_option maxHeartbeats 4000000
namespace ZT
open PySem PySem.Spec PyProof.Rows
open Sem (wp)
section
variable {prog : Program} {w : World} {A : Around} {E : Value → Shared → Prop} {s : Shared}
end
end ZT
namespace MR
open PySem PySem.Spec PyProof.Rows L2
noncomputable def SK (bb : Bool) (K : PySem.W.Frag) (H : Hp) (a : Addr) (xs : List V) : Prop := match bb with
  | true => SqL K H a xs
  | false => SqT K H a xs
theorem SK.at {X : Cx} {pins : List (Addr × Obj)} {σ : L2.St} {H : Hp} {s : Shared} {bb : Bool} {a : Addr} {xs : List V} (I : L2.Inv X pins σ H s) (h : SK bb X.K H a xs) : ∃ its : List Value, Vals xs its ∧ ZT.SqK bb s.heap a its.toArray ∧ xs.length ≤ sizeLine := by
  cases bb with
  | true => obtain ⟨its, r, p, z⟩ := I.list h; exact ⟨its, r, p.isList, z⟩
  | false => obtain ⟨its, r, p, z⟩ := I.tuple h; exact ⟨its, r, p, z⟩
theorem SK.inj {X : Cx} {pins : List (Addr × Obj)} {σ : L2.St} {H : Hp} {s : Shared} {bb : Bool} {a : Addr} {xs ys : List V} (I : L2.Inv X pins σ H s) (h : SK bb X.K H a xs) (h' : SK bb X.K H a ys) : xs = ys := by
  cases bb with
  | true => exact I.list_inj h h'
  | false => exact I.tuple_inj h h'
section
variable {X : Cx} {elts : List Expr} {x1 : Nat} {tpos : Pos}
end
end MR
set_option Elab.async false
set_option linter.all false
set_option maxRecDepth 100000
set_option maxHeartbeats 4000000
namespace MR
open PySem PySem.Spec PyProof.Rows PySem.Calls L2
section
variable {X : Cx}
end
end MR
set_option Elab.async false
set_option linter.all false
set_option maxRecDepth 100000
set_option maxHeartbeats 4000000
namespace MR
open PySem PySem.Spec PyProof.Rows PySem.Calls L2
section
variable {X : Cx}
end
end MR
set_option Elab.async false
set_option linter.all false
set_option maxRecDepth 100000
set_option maxHeartbeats 4000000
namespace ZT
open PySem PySem.Spec PyProof.Rows
open Sem (wp)
theorem meets_enumerate_newT (l : Addr) (items : Array Value) :
    Meets (Builtin.«enumerate.__new__» ⟨[.type "enumerate", .ref l], []⟩) (fun _ R s => s.heap.IsTuple l items ∧
      R (.ok (.ret (.ref (s.heap.push { cls := .type "tuple_iterator", data := .fields #[.ref l, .int 0 0] }).objs.size)))
        { s with heap := (s.heap.push { cls := .type "tuple_iterator", data := .fields #[.ref l, .int 0 0] }).push { cls := .type "enumerate", data := .fields #[.none, .bool false, .ref s.heap.objs.size, rawInt 0, .none, .none] } }) :=
  .of_wp fun prog w A R s h => by
    obtain ⟨hp, g, d, tk, os⟩ := s; obtain ⟨hl, h⟩ := h
    have hsub := sub_enumerate
    have hL : Heap.IsTuple (Shared.heap ⟨hp, g, d, tk, os⟩) l items := hl
    wp_walk using wpAny_pyIter_tuple hL
    refine wpAny_stack_any fun st => wpAny_pure ?_
    split
    · rename_i c _ _ _ _ _
      cases (c == Value.type "enumerate")
      · wp_walk using wpAny_pyIter_tuple hL
        exact ⟨_, rfl, h⟩
      · wp_walk using wpAny_pyIter_tuple hL
        exact ⟨_, rfl, h⟩
    · wp_walk using wpAny_pyIter_tuple hL
      exact ⟨_, rfl, h⟩
section
variable {prog : Program} {w : World} {A : Around} {E : Value → Shared → Prop} {s : Shared}
theorem call_enumerate_tuple {l : Addr} {items : Array Value} {Q : Value → Shared → Prop} (hL : s.heap.IsTuple l items)
    (h : ∀ h', IsEnum h' (s.heap.objs.size + 1) s.heap.objs.size 0 .none → h'.IsTupleIter s.heap.objs.size l 0 → h'.objs.size = s.heap.objs.size + 2 →
      (∀ b o, s.heap.get? b = some o → h'.get? b = some o) → Q (.ref (s.heap.objs.size + 1)) { s with heap := h' }) :
    wpAny (model prog w) A (call (.type "enumerate") [.ref l]) Q E s := by
  refine callType_new F.called_enumerate (by decide) (F.typeCall_enumerate_1 _) (F.newCall_enumerate_1 _) (fun obj => F.args_object_init_2 obj _) F.entry_enumerate_new
    (meets_enumerate_newT l items) ⟨hL, ?_⟩
  have hz : (s.heap.push { cls := .type "tuple_iterator", data := .fields #[.ref l, .int 0 0] }).objs.size = s.heap.objs.size + 1 := Heap.size_push ..
  show _ ∧ _
  rw [hz]
  have he : IsEnum ((s.heap.push { cls := .type "tuple_iterator", data := .fields #[.ref l, .int 0 0] }).push
      { cls := .type "enumerate", data := .fields #[.none, .bool false, .ref s.heap.objs.size, rawInt 0, .none, .none] }) (s.heap.objs.size + 1) s.heap.objs.size 0 .none := by
    have := Heap.get?_push_size (s.heap.push { cls := .type "tuple_iterator", data := .fields #[.ref l, .int 0 0] })
      (o := { cls := .type "enumerate", data := .fields #[.none, .bool false, .ref s.heap.objs.size, rawInt 0, .none, .none] }) rfl
    rw [hz] at this; exact this
  refine ⟨⟨_, he, rfl⟩, h _ he ⟨_, Heap.get?_push_of_some _ (Heap.get?_push_size _ rfl), rfl, rfl⟩ (by rw [Heap.size_push, hz]) fun b o x => Heap.get?_push_of_some _ (Heap.get?_push_of_some _ x)⟩
end
theorem draws_tuple {prog : Program} {w : World} {A : Around} (hh : A.handled = none) (it l : Addr) (hne : l ≠ it) (items : Array Value) :
    Draws prog w A it [it, l] items.size (fun i v => items[i]? = some v) (fun i h => h.IsTupleIter it l i ∧ h.IsTuple l items) where
  live := fun _ _ st => let ⟨o, ho, _⟩ := st.1; ⟨o, ho⟩
  frame := fun _ _ _ st hk => ⟨st.1.at fun o e => hk it (by simp) o e, st.2.at fun o e => hk l (by simp) o e⟩
  item := fun i s Q E hi st hQ => by
    refine next_tup st.1 st.2 (v := items[i]) (by simp [hi]) fun h' hit' hs' => ?_
    exact hQ _ h' s.toks (by simp [hi]) ⟨hit', st.2.extBut hs'.extBut hne⟩ hs'
  done := fun s Q E st hE => stop_tup hh st.1 st.2 (by simp) hE
section
variable {prog : Program} {w : World} {A : Around} {E : Value → Shared → Prop} {s : Shared}
theorem enum_end_tup {e it l : Addr} {n : Nat} {i : Int} {items : Array Value} {old : Value} {Q : Option Value → Shared → Prop} (hh : A.handled = none)
    (he : IsEnum s.heap e it i old) (hit : s.heap.IsTupleIter it l n) (hl : s.heap.IsTuple l items) (hn : items.size ≤ n)
    (hQ : ∀ h', Heap.ExtBut it s.heap h' → Q none { s with heap := h' }) : wpAny (model prog w) A (pyNext (.ref e)) Q E s := by
  have hT : s.TypeIs (.ref e) "enumerate" := ⟨_, he, rfl⟩
  unfold pyNext
  refine wpAny_bind (wpAny_attempt (wpAny_callSpecial?_slot (name := Str.ofString "__next__") hT F.slot_enumerate_next
    (wpAny_call_entry F.slot_enumerate_next hT F.entry_enumerate_next ?_ (F.args_enumerate_next_1 _))))
  show wpAny _ _ (field (.ref e) 2 >>= _) _ _ _
  refine wpAny_bind (wpAny_field he rfl (x := .ref it) rfl ?_)
  refine wpAny_bind (stop_tup (A := Around.in1 A) hh hit hl (by simp; omega) fun h' x he' hx' => ?_)
  obtain ⟨o, ho, hc⟩ := hx'
  refine wpAny_bind (wpAny_isInstance (T := "StopIteration") (b := true) ⟨o, ho, hc⟩ isSubtype_stop ?_)
  exact wpAny_pure (hQ _ he')
end
end ZT
namespace MR
open PySem PySem.Spec PyProof.Rows L2
noncomputable def IteT (K : PySem.W.Frag) (a : Addr) : It :=
  ⟨fun i H => ∃ xs x, SqT K H a xs ∧ xs[i]? = some x, fun i H x H' => ∃ p v, H p = none ∧ x = .ref p ∧ H' = upd H p (.tup [.int i, v]) ∧ ∀ xs, SqT K H a xs → xs[i]? = some v, fun i H => ∃ xs, SqT K H a xs ∧ xs.length ≤ i⟩
theorem turn_enumT {P : Program} {w : World} {K : PySem.W.Frag} {elts : List Expr} {x1} {pos : Pos} (a e it : Addr) (hne : e ≠ it) : Turn P w K (.Tuple elts x1 pos) (IteT K a) [e, it] e (fun i h => (∃ old, IsEnum h e it i old) ∧ h.IsTupleIter it a i) where
  mem := by simp
  obj := fun i h st b hb => by
    obtain ⟨⟨old, he⟩, o, ho, hc, hd⟩ := st
    rcases List.mem_cons.mp hb with rfl | hb
    · exact ⟨_, he, fun v z => by simp at z⟩
    · have : b = it := by simpa using hb
      subst this
      exact ⟨o, ho, fun v z => by rw [hd] at z; cases z⟩
  keep := fun i h h' st k => by
    obtain ⟨⟨old, he⟩, o, ho, hc, hd⟩ := st
    exact ⟨⟨old, k e (by simp) _ he⟩, o, k it (by simp) _ ho, hc, hd⟩
  item := by
    intro X hP hw hK hc i pins s σ H E I hf st hg
    subst hP hw hK
    obtain ⟨⟨old, he⟩, hit⟩ := st
    obtain ⟨xs, v, sq, hx⟩ := hg
    obtain ⟨its, hv, pl, hz⟩ := I.tuple sq
    obtain ⟨u, hu, r⟩ := hv.get hx
    have hae : e ≠ a := fun q => by
      subst q
      obtain ⟨o, ho, hc, _⟩ := pl
      have : some o = some _ := ho.symm.trans he
      cases this
      simp at hc
    have hai : a ≠ it := fun q => by
      subst q
      obtain ⟨o, ho, hc, _⟩ := pl
      obtain ⟨o', ho', hc', _⟩ := hit
      have : some o = some o' := ho.symm.trans ho'
      cases this
      rw [hc] at hc'; simp at hc'
    have hlt : i < its.toArray.size := by
      have := (List.getElem?_eq_some_iff.mp hu).1
      simpa using this
    refine wpAny_pyNext_enum_itemD (ZT.draws_tuple (A := Around.in1 _) (I.ok.hd hc) it a hai its.toArray) he ⟨hit, pl⟩ hlt hne (by simp [hne, hae]) fun x h' tk px o1 o2 o3 o4 o5 => ?_
    have hxu : x = u := by
      have : its[i]? = some x := by simpa using px
      rw [hu] at this; cases this; rfl
    subst hxu
    refine ⟨_, rfl, ?_⟩
    have hfr : H s.heap.objs.size = none := I.hok.fresh (Nat.le_refl _)
    have I1 : L2.Inv X pins σ (upd H s.heap.objs.size (.tup [.int i, v])) { s with heap := h', toks := tk + 1 } :=
      Inv.turnNew (ch := [e, it]) I hf (fun b o hb q => o5 b o (fun z => hb (by simp [z])) (fun z => hb (by simp [z])) q) (Nat.le_refl _)
        (show ObjOk X.prog X.w _ h' _ (.tup [.int i, v]) from ⟨by show 2 ≤ sizeLine; decide, [.int i tk, x], .cons ⟨_, rfl⟩ (.cons r .nil), ⟨_, o3, rfl, _, rfl⟩⟩)
    refine wpAny_letOwnedTupleGo_enum o1 fun h2 e2 sb2 => ?_
    have hne2 : ∀ b ∈ [e, it], b ≠ s.heap.objs.size := fun b hb z => by
      rcases List.mem_cons.mp hb with q | q
      · have := Heap.lt_size he; rw [← q, z] at this; exact Nat.lt_irrefl _ this
      · have q : b = it := by simpa using q
        obtain ⟨o, ho, _⟩ := hit
        have := Heap.lt_size ho; rw [← q, z] at this; exact Nat.lt_irrefl _ this
    have hnone : ∀ b ∈ [e, it], (upd H s.heap.objs.size (.tup [.int i, v])) b = none := fun b hb => by rw [upd_ne (hne2 b hb)]; exact (hf b hb).1
    obtain ⟨f0, f1, f2, f3, f4, f5⟩ := hf e (by simp)
    have I2 := I1.turned (t' := tk + 1) (h' := h2) (it := e) (fun b o hb q => sb2.2 b hb |>.trans q) (hnone e (by simp)) f1 f3 f4 f5
    obtain ⟨oi, hoi, hci, hdi⟩ := o2.1
    refine ⟨.ref s.heap.objs.size, _, I2, rfl, ⟨_, v, hfr, rfl, rfl, fun ys sq' => ?_⟩, ⟨⟨_, e2⟩, oi, (sb2.2 it (Ne.symm hne)).trans hoi, hci, hdi⟩, hnone⟩
    rw [I.tuple_inj sq' sq]; exact hx
  done := by
    intro X hP hw hK hc i pins s σ H E I hf st hg
    subst hP hw hK
    obtain ⟨⟨old, he⟩, hit⟩ := st
    obtain ⟨xs, sq, hx⟩ := hg
    obtain ⟨its, hv, pl, hz⟩ := I.tuple sq
    obtain ⟨f0, f1, f2, f3, f4, f5⟩ := hf it (by simp)
    have hlen := hv.length
    exact ZT.enum_end_tup (I.ok.hd hc) he hit pl (by simp; omega) fun h' eb => ⟨rfl, I.turned (t' := s.toks) (fun b o hb q => eb b o hb q) f0 f1 f3 f4 f5⟩
  self := fun _ _ _ _ _ st h => by obtain ⟨⟨old, he⟩, _⟩ := st; exact wpAny_pyIter_enum he h
section
variable {X : Cx} {elts : List Expr} {x1 : Nat} {tpos : Pos}
noncomputable def iEnumT (K : PySem.W.Frag) (ta : TA) : TI := fun σ H R => ta σ H fun vs H1 => ∃ a xs, vs = [.ref a] ∧ SqT K H1 a xs ∧ R (IteT K a) H1
theorem pi_enumT {a : Expr} {ta : TA} {p pos : Pos} (hg : Gl X "enumerate") (hm : X.mg "enumerate" = none) (ha : PA X [a] ta) (hs : starEach [a] X.env = [(false, eval a X.env)] := by rfl) : PI X (.Tuple elts x1 tpos) (.Call (.Name "enumerate" p) [a] [] pos) (iEnumT X.K ta) := by
  intro pins s σ H R I h
  refine Call_ (ld_blt I hg hm boot_enum (PyProof.Rows.callWith_type1 (thn (ha pos pins s σ H _ I h) fun us s1 ⟨vs, H1, I1, r1, q1⟩ => ?_) hs rfl))
  obtain ⟨l, xs, rfl, sq, q⟩ := q1
  obtain ⟨u, rfl, ru⟩ := vals1 r1
  cases ru
  obtain ⟨its, hv, pl, hz⟩ := I1.tuple sq
  refine ZT.call_enumerate_tuple pl fun h' o1 o2 o3 o4 => ?_
  have I2 : L2.Inv X pins σ H1 { s1 with heap := h' } := I1.kept (t' := s1.toks) o4
  refine wpAny_pyIter_enum o1 ⟨_, _, _, _, H1, rfl, I2, turn_enumT l (s1.heap.objs.size + 1) s1.heap.objs.size (Nat.ne_of_gt (Nat.lt_succ_self _)), ⟨⟨_, o1⟩, o2⟩, fun b hb => ?_, q⟩
  have hb' : s1.heap.objs.size ≤ b := by
    simp only [List.mem_cons, List.not_mem_nil, or_false] at hb
    rcases hb with rfl | rfl
    · exact Nat.le_succ _
    · exact Nat.le_refl _
  exact L2.Inv.fpOk I1 hb' (I1.hok.fresh hb')
noncomputable def enumU (us : List U) : List U := us.mapIdx fun i u => .tup [.int i, u]
noncomputable def fEnumA (g : FA) : FI := fun δ L => (g δ L).bind fun p => match p.1 with
  | [.ref n] => (seqAt p.2 n).map fun _ => (.enm n, p.2)
  | [.tup us] => some (.seq (enumU us), p.2)
  | _ => none
theorem iteT_rep {K : PySem.W.Frag} {H : Hp} {α : List Addr} {a : Addr} {us : List U} {xs : List V} (sq : SqT K H a xs) (r : RepL K H α us xs) : ItRep K (IteT K a) (.seq (enumU us)) H α := by
  intro H2 α2 L2 g A2 k
  have m := (show RepU K H α (.tup us) (.ref a) by unfold RepU; exact ⟨a, xs, rfl, sq, r⟩).mono g
  unfold RepU at m
  obtain ⟨c', xs, e, sq2, r2⟩ := m
  cases e
  refine ⟨fun u eu => ?_, fun eu => ?_⟩
  · have eu : (enumU us)[k]? = some u := by simpa [IU.at] using eu
    unfold enumU at eu
    rw [List.getElem?_mapIdx] at eu
    obtain ⟨w, hw, eu⟩ := Option.map_eq_some_iff.mp eu
    subst eu
    obtain ⟨x, hx, rx⟩ := r2.get hw
    refine ⟨⟨xs, x, sq2, hx⟩, ?_⟩
    rintro y H3 ⟨p, v, hp, rfl, rfl, hy⟩
    have := hy xs sq2
    rw [hx] at this; cases this
    exact A2.tup (.cons rfl (.cons rx .nil)) hp
  · have eu : (enumU us)[k]? = none := by simpa [IU.at] using eu
    unfold enumU at eu
    rw [List.getElem?_mapIdx] at eu
    have : us[k]? = none := by simpa using eu
    exact ⟨xs, sq2, by rw [← r2.length]; exact List.getElem?_eq_none_iff.mp this⟩
theorem pif_enumA {a : Expr} {g : FA} {p pos : Pos} (hg : Gl X "enumerate") (hm : X.mg "enumerate" = none) (ha : PAF X [a] g) (hs : starEach [a] X.env = [(false, eval a X.env)] := by rfl) : PIF X (.Tuple elts x1 tpos) (.Call (.Name "enumerate" p) [a] [] pos) (fEnumA g) := by
  refine PI.imp (PI.or (pi_enum hg hm ha hs) (pi_enumT hg hm ha hs)) ?_
  rintro σ H R ⟨α, δ, L, A, S, i, L3, e, q⟩
  obtain ⟨⟨us, L1⟩, e1, e⟩ := Option.bind_eq_some_iff.mp e
  simp only at e
  split at e
  · obtain ⟨l, hl, e⟩ := Option.map_eq_some_iff.mp e
    cases e
    refine .inl ⟨α, δ, L, A, S, _, _, e1, fun xs H1 α1 g1 A1 r1 => ?_⟩
    obtain ⟨x, rfl, rx⟩ := r1.one
    obtain ⟨a', ys, rfl, sq, r2⟩ := refs_at A1 hl rx
    obtain ⟨a2, ea, ha2⟩ := rx.ref_of A1
    cases ha2
    exact ⟨a', ys, rfl, sq, q _ H1 α1 g1 A1 (ite_rep (fun _ _ _ _ _ => trivial) ea)⟩
  · cases e
    refine .inr ⟨α, δ, L, A, S, _, _, e1, fun xs H1 α1 g1 A1 r1 => ?_⟩
    obtain ⟨x, rfl, rx⟩ := r1.one
    unfold RepU at rx
    obtain ⟨a', ys, rfl, sq, r2⟩ := rx
    exact ⟨a', ys, rfl, sq, q _ H1 α1 g1 A1 (iteT_rep sq r2)⟩
  · cases e
end
end MR
set_option Elab.async false
set_option linter.all false
set_option maxRecDepth 100000
set_option maxHeartbeats 4000000
namespace MR
open PySem PySem.Spec PyProof.Rows L2
structure CompScC (X : Cx) (scope : Scope) (N' : List Str) (ix : List (Option Nat)) : Prop where
  kind : scope.kind = .function
  own : (scope.names.all fun y => scope.names.lookup y.1 == some y.2) = true
  free : (scope.names.all fun y => y.2 != .free || (X.env.kindOf y.1 == some .cell || X.env.kindOf y.1 == some .free)) = true
  ixs : ((N'.zip ix).all fun p => match p.2 with | none => true | some i => (X.N[i]? == some p.1) && (scope.names.lookup p.1 == some .free)) = true
  len : N'.length = ix.length
section
variable {X : Cx} {scope : Scope} {N' : List Str} {ix : List (Option Nat)} {pins : List (Addr × Obj)} {σ : L2.St} {H2 : Hp} {s2 : Shared} {cl : List (Str × Addr)} {fp : List Addr}
theorem CompScC.lk (S : CompScC X scope N' ix) {x : Str} {k : NameKind} (h : (x, k) ∈ scope.names) : scope.names.lookup x = some k := by
  have := List.all_eq_true.mp S.own _ h
  simpa using this
theorem CompScC.names (S : CompScC X scope N' ix) : ∀ x ∈ scope.names, x.2 = .local → scope.names.lookup x.1 = some .local := fun x hx hl => by
  have := S.lk (x := x.1) (k := x.2) hx
  rw [hl] at this
  exact this
theorem CompScC.clos (S : CompScC X scope N' ix) (ok : X.Ok) : ∃ cl, closureFor scope X.env = pure cl ∧ (∀ x c, cl.lookup x = some c → X.env.cells.lookup x = some c) ∧ ∀ y ∈ scope.names, y.2 = .free → ∃ c, cl.lookup y.1 = some c := by
  refine closureFor_ex fun y hy hf => ?_
  have := List.all_eq_true.mp S.free y hy
  rw [hf] at this
  simp at this
  exact ok.has y.1 this
end
section
variable {X : Cx} {scope : Scope} {N' : List Str} {ix : List (Option Nat)} {elt tg iter c : Expr} {pos : Pos} {fi : FI} {g : FG} {ft : FT} {fe : FE}
end
end MR
set_option Elab.async false
set_option linter.all false
set_option maxRecDepth 100000
set_option maxHeartbeats 4000000
namespace MR
open PySem PySem.Spec PyProof.Rows L2
section
variable {X : Cx} {tg : Expr}
end
end MR
set_option Elab.async false
set_option linter.all false
set_option maxRecDepth 100000
set_option maxHeartbeats 4000000
namespace ZT
open PySem PySem.Spec PyProof.Rows
open Sem (wp)
theorem nolen_lri : typeLookup (.type "list_reverseiterator") "__len__" = pure none := by rw [typeLookup_type, builtinLookup_eq_fast]; kernel_rfl
theorem hint_lri : typeLookup (.type "list_reverseiterator") "__length_hint__" = pure (some (.builtin "list_reverseiterator.__length_hint__")) := by rw [typeLookup_type, builtinLookup_eq_fast]; kernel_rfl
section
variable {prog : Program} {w : World} {A : Around} {s : Shared} {R : Result → Shared → Prop}
variable {I : Addr} {fp wr : List Addr} {G : Array GenState → Array GenState → Prop} {n : Nat} {P : Nat → Value → Prop} {St : Nat → Shared → Prop}
theorem extend_rev (W : WalksS prog w A.in1 I fp wr G n P St) (hT : ∀ i s, St i s → s.TypeIs (.ref I) "list_reverseiterator") (S : Addr) (res : Value) (c₀ : Nat) (hst : St 0 s) (hSf : S ∉ fp) (hI : I ∈ fp)
    (hS : s.heap.get? S = some { cls := .type "list", data := .seq #[] c₀ })
    (hR : ∀ s' acc' c', Moved (S :: wr) G s s' → s'.heap.get? S = some { cls := .type "list", dict := none, data := .seq acc' c', slots := #[] } → ItemsOf P acc' n → R (.ok (.ret res)) s') (hn : n ≤ sizeLine) :
    wpAny (model prog w) A.in1 (Builtin.List.listExtendWith (.ref S) (.ref I) res)
      (fun fin s' => match fin with | .done f => R (.ok f) s' | .again c' => c'.quiet = true ∧ codeAny (model prog w) A c' R s') (fun e s' => R (.error e) s') s := by
  have hSI : S ≠ I := fun e => hSf (e ▸ hI)
  unfold Builtin.List.listExtendWith
  refine wpAny_bind (wpAny_typeOf (hT 0 _ hst) ?_)
  have h1 : Builtin.List.listSameRef (.ref S) (.ref I) = false := by simp [Builtin.List.listSameRef, hSI]
  have h2 : (Value.type "list_reverseiterator" == Value.type "list") = false := by decide
  have h3 : (Value.type "list_reverseiterator" == Value.type "tuple") = false := by decide
  simp only [h1, h2, h3, Bool.or_false, Bool.false_eq_true, if_false]
  refine wpAny_bind (W.self 0 _ _ _ hst ?_)
  refine wpAny_bind (wpAny_holding ?_)
  unfold Builtin.List.listLengthHint
  refine wpAny_bind (wpAny_specialOf (hT 0 _ hst) nolen_lri ?_)
  show wpAny _ A.in1 (specialOf (Value.ref I) (Str.ofString "__length_hint__") >>= _) _ _ _
  refine wpAny_bind (wpAny_specialOf (hT 0 _ hst) hint_lri ?_)
  generalize hid : ("list_reverseiterator.__length_hint__" : String) = id0
  wp_delta
  rw [show splitId id0 = some ("list_reverseiterator", "__length_hint__") from by subst hid; decide +kernel]
  subst hid
  refine wpAny_bind (wpAny_isInstance (b := true) (hT 0 _ hst) (by rw [isSubtype_type]; kernel_rfl) ?_)
  refine wpAny_pure ?_
  rw [if_neg (by decide)]
  refine wpAny_pure ⟨plainId_quiet F.plain_extend_loop _, codeAny_extend_loopS W hn _ hSf _ n 0 _ _ _ rfl (Nat.zero_le _) hst hS (ItemsOf.nil P) fun s' acc' c' hm hS' hacc => hR s' acc' c' hm hS' hacc⟩
theorem list_init_rev (W : WalksS prog w A.in1 I fp wr G n P St) (hT : ∀ i s, St i s → s.TypeIs (.ref I) "list_reverseiterator") (S : Addr) (hst : St 0 s) (hSf : S ∉ fp) (hI : I ∈ fp)
    (hS : s.heap.get? S = some { cls := .type "list", data := .seq #[] })
    (hR : ∀ s' acc' c', Moved (S :: wr) G s s' → s'.heap.get? S = some { cls := .type "list", dict := none, data := .seq acc' c', slots := #[] } → ItemsOf P acc' n → R (.ok (.ret .none)) s') (hn : n ≤ sizeLine) :
    wpAny (model prog w) A.in1 (Builtin.«list.__init__» ⟨[.ref S, .ref I], []⟩)
      (fun fin s' => match fin with | .done f => R (.ok f) s' | .again c' => c'.quiet = true ∧ codeAny (model prog w) A c' R s') (fun e s' => R (.error e) s') s := by
  show wpAny _ A.in1 (do let old ← Builtin.List.listItems (.ref S); Builtin.List.listUpdate (.ref S) (fun _ => #[]); letGo old.toList.reverse; Builtin.List.listExtendWith (.ref S) (.ref I) .none) _ _ s
  refine wpAny_bind ?_
  unfold Builtin.List.listItems
  refine wpAny_bind (wpAny_seqItems hS rfl (wpAny_pure ?_))
  show wpAny _ A.in1 (updateSeq S (fun _ => #[]) >>= fun _ => letGo (#[] : Array Value).toList.reverse >>= fun _ => Builtin.List.listExtendWith (.ref S) (.ref I) .none) _ _ s
  refine wpAny_bind (wpAny_updateSeq hS rfl ?_)
  have hS₂ := Heap.get?_update_self (Obj.mapSeq (fun _ => (#[] : Array Value))) hS rfl
  have oth : ∀ b o, b ≠ S → s.heap.get? b = some o → (s.heap.update S (Obj.mapSeq (fun _ => (#[] : Array Value)))).get? b = some o :=
    fun b o hb e => (Heap.get?_update_other _ _ (Ne.symm hb)).trans e
  refine wpAny_bind (wpAny_letGo ?_)
  refine extend_rev (hn := hn) W hT S .none _ (W.frame 0 s _ s.toks hst (Nat.le_refl _) fun b hb o e => oth b o (fun h => hSf (h ▸ hb)) e) hSf hI hS₂ fun s' acc' c' hm hS' hacc => ?_
  exact hR s' acc' c' (Moved.trans W.gtrans ((Moved.refl W.grefl).then_heap (Nat.le_refl _) fun b o hb e => oth b o (fun h => hb (h ▸ List.mem_cons_self)) e) hm) hS' hacc
end
section
variable {prog : Program} {w : World} {A : Around} {E : Value → Shared → Prop} {s : Shared}
variable {I : Addr} {fp wr : List Addr} {G : Array GenState → Array GenState → Prop} {n : Nat} {P : Nat → Value → Prop} {St : Nat → Shared → Prop}
theorem call_list_rev {Q : Value → Shared → Prop} (W : WalksS prog w A.in1.in1 I fp wr G n P St) (hT : ∀ i s, St i s → s.TypeIs (.ref I) "list_reverseiterator") (hst : St 0 s) (hfp : ∀ b ∈ fp, b < s.heap.objs.size) (hI : I ∈ fp)
    (hQ : ∀ s' acc' c', Moved (s.heap.objs.size :: wr) G { s with heap := s.heap.push { cls := .type "list", data := .seq #[] } } s' →
      s'.heap.get? s.heap.objs.size = some { cls := .type "list", dict := none, data := .seq acc' c', slots := #[] } → ItemsOf P acc' n → Q (.ref s.heap.objs.size) s') (hn : n ≤ sizeLine) :
    wpAny (model prog w) A (call (.type "list") [.ref I]) Q E s := by
  have hSf : s.heap.objs.size ∉ fp := fun hm => Nat.lt_irrefl _ (hfp _ hm)
  refine callType_codes (Q₁ := fun obj s₁ => obj = .ref s.heap.objs.size ∧ s₁ = { s with heap := s.heap.push { cls := .type "list", data := .seq #[] } }) F.called_list (F.typeCall_list_1 _) F.entry_list_init
    (code_list_new _ ⟨rfl, rfl⟩) fun obj s₁ h₁ => ?_
  obtain ⟨rfl, rfl⟩ := h₁
  have hS : (s.heap.push { cls := .type "list", data := .seq #[] }).get? s.heap.objs.size = some { cls := .type "list", data := .seq #[] } := Heap.get?_push_size _ rfl
  refine ⟨⟨_, hS, rfl⟩, F.args_list_init_2 _ _, list_init_rev (hn := hn) W hT _ (W.frame 0 s _ s.toks hst (Nat.le_refl _) fun b _ o e => Heap.get?_push_of_some _ e) hSf hI hS fun s' acc' c' hm hS' hacc => ?_⟩
  exact ⟨rfl, hQ s' acc' c' hm hS' hacc⟩
theorem collect_rev {Q : List Value → Shared → Prop}
    (W : WalksS prog w A.in1 I fp wr G n P St) (hT : ∀ i s, St i s → s.TypeIs (.ref I) "list_reverseiterator") (hst : St 0 s) (hfp : ∀ b ∈ fp, b < s.heap.objs.size) (hI : I ∈ fp)
    (hQ : ∀ s' acc, Moved wr G s s' → ItemsOf P acc n → Q acc.toList s') (hn : n ≤ sizeLine) : wpAny (model prog w) A (collect (.ref I)) Q E s := by
  have hSf : s.heap.objs.size ∉ fp := fun hm => Nat.lt_irrefl _ (hfp _ hm)
  unfold collect
  refine wpAny_bind (wpAny_runValue (codeAny_builtin F.entry_proto_collect ?_))
  rw [Around.under_plainId F.plain_proto_collect _]
  show wpAny _ A.in1 (newList [] >>= fun l => again (.builtin "list.__iadd__" ⟨[l, .ref I], []⟩)) _ _ s
  refine wpAny_bind (wpAny_newObj_type ?_)
  refine wpAny_pure ⟨plainId_quiet F.plain_list_iadd _, codeAny_builtin F.entry_list_iadd ?_⟩
  rw [Around.under_plainId F.plain_list_iadd _]
  have hst₁ := W.frame 0 s (s.heap.push { cls := .type "list", data := .seq ([] : List Value).toArray }) s.toks hst (Nat.le_refl _) fun b _ o e => Heap.get?_push_of_some _ e
  have hS₁ : (s.heap.push { cls := .type "list", data := .seq ([] : List Value).toArray }).get? s.heap.objs.size = some { cls := .type "list", data := .seq ([] : List Value).toArray } := Heap.get?_push_size _ rfl
  show wpAny _ A.in1 (Builtin.List.listExtendWith (.ref s.heap.objs.size) (.ref I) (.ref s.heap.objs.size)) _ _ _
  have hSI : s.heap.objs.size ≠ I := fun e => hSf (e ▸ hI)
  unfold Builtin.List.listExtendWith
  refine wpAny_bind (wpAny_typeOf (hT 0 _ hst₁) ?_)
  have h1 : Builtin.List.listSameRef (.ref s.heap.objs.size) (.ref I) = false := by simp [Builtin.List.listSameRef, hSI]
  have h2 : (Value.type "list_reverseiterator" == Value.type "list") = false := by decide
  have h3 : (Value.type "list_reverseiterator" == Value.type "tuple") = false := by decide
  simp only [h1, h2, h3, Bool.or_false, Bool.false_eq_true, if_false]
  refine wpAny_bind (W.self 0 _ _ _ hst₁ ?_)
  refine wpAny_bind (wpAny_holding ?_)
  unfold Builtin.List.listLengthHint
  refine wpAny_bind (wpAny_specialOf (hT 0 _ hst₁) nolen_lri ?_)
  show wpAny _ A.in1 (specialOf (Value.ref I) (Str.ofString "__length_hint__") >>= _) _ _ _
  refine wpAny_bind (wpAny_specialOf (hT 0 _ hst₁) hint_lri ?_)
  generalize hid : ("list_reverseiterator.__length_hint__" : String) = id0
  wp_delta
  rw [show splitId id0 = some ("list_reverseiterator", "__length_hint__") from by subst hid; decide +kernel]
  subst hid
  refine wpAny_bind (wpAny_isInstance (b := true) (hT 0 _ hst₁) (by rw [isSubtype_type]; kernel_rfl) ?_)
  refine wpAny_pure ?_
  rw [if_neg (by decide)]
  refine wpAny_pure ⟨plainId_quiet F.plain_extend_loop _, codeAny_extend_loopS W hn _ hSf _ n 0 _ _ _ rfl (Nat.zero_le _) hst₁ hS₁ (ItemsOf.nil P) fun s' acc' c' hm hS' hacc => ?_⟩
  show wpAny _ A (load s.heap.objs.size >>= _) _ _ s'
  refine wpAny_bind (wpAny_load hS' ?_)
  exact wpAny_pure (hQ s' acc' (Moved.drop_new (o := { cls := .type "list", data := .seq ([] : List Value).toArray }) (tk := s.toks) hm (Nat.le_refl _)) hacc)
theorem code_tuple_new_rev {Q₁ : Value → Shared → Prop} (W : WalksS prog w A.in1.in1 I fp wr G n P St) (hT : ∀ i s, St i s → s.TypeIs (.ref I) "list_reverseiterator") (hst : St 0 s) (hfp : ∀ b ∈ fp, b < s.heap.objs.size) (hI : I ∈ fp)
    (h : ∀ s' acc, Moved wr G s s' → ItemsOf P acc n → Q₁ (.ref s'.heap.objs.size) { s' with heap := s'.heap.push { cls := .type "tuple", data := .seq acc } }) (hsz : n ≤ sizeLine) :
    codeAny (model prog w) A (.call (.builtin "tuple.__new__") ⟨[.type "tuple", .ref I], []⟩) (wants Q₁ E) s := by
  refine codeAny_of_tree ?_
  show wpAny _ A.in1 (do checkBuiltinCall "tuple.__new__" ⟨[.type "tuple", .ref I], []⟩; again (.builtin "tuple.__new__" ⟨[.type "tuple", .ref I], []⟩)) _ _ s
  refine wpAny_bind (wpAny_of_eq (F.newCall_tuple_1 _) (wpAny_pure ⟨plainId_quiet F.plain_tuple_new _, codeAny_builtin F.entry_tuple_new ?_⟩))
  rw [Around.under_plainId F.plain_tuple_new _]
  have hsub := sub_tuple_self
  have hinit := init_tuple_lookup
  have hmh := madeHere_tuple
  have hTI := hT 0 s hst
  wp_walk using wpAny_typeOf hTI, collect_rev (hn := hsz) W hT hst hfp hI
  intro s' acc hm hacc
  show wpAny _ _ (Builtin.Tuple.tupleExact acc.toList.toArray >>= fun v => ret v) _ _ _
  unfold Builtin.Tuple.tupleExact
  refine wpAny_bind (wpAny_newObj_type ?_ (by show acc.toList.toArray.size ≤ sizeLine; simp only [Array.toArray_toList]; rw [hacc.1]; exact hsz))
  refine wpAny_pure ?_
  have e : acc.toList.toArray = acc := by simp
  rw [e]
  exact h s' acc hm hacc
theorem call_tuple_rev {Q : Value → Shared → Prop} (W : WalksS prog w A.in1.in1.in1 I fp wr G n P St) (hT : ∀ i s, St i s → s.TypeIs (.ref I) "list_reverseiterator") (hst : St 0 s) (hfp : ∀ b ∈ fp, b < s.heap.objs.size) (hI : I ∈ fp)
    (hQ : ∀ s' acc, Moved wr G s s' → ItemsOf P acc n → Q (.ref s'.heap.objs.size) { s' with heap := s'.heap.push { cls := .type "tuple", data := .seq acc } }) (hsz : n ≤ sizeLine) :
    wpAny (model prog w) A (call (.type "tuple") [.ref I]) Q E s := by
  refine callType_codes (Q₁ := fun obj s₁ => s₁.TypeIs obj "tuple" ∧ Q obj s₁) F.called_tuple (F.typeCall_tuple_1 _) F.entry_object_init
    (code_tuple_new_rev (hsz := hsz) W hT hst hfp hI fun s' acc hm hacc => ⟨⟨_, Heap.get?_push_size _ rfl, rfl⟩, hQ s' acc hm hacc⟩) fun obj s₁ h₁ => ?_
  exact ⟨h₁.1, F.args_object_init_2 obj _, object_init_meets F.called_tuple.init.lookup F.called_tuple.made (by decide) prog w A.in1 _ s₁ ⟨h₁.1, rfl, h₁.2⟩⟩
end
end ZT
set_option Elab.async false
set_option linter.all false
set_option maxRecDepth 100000
set_option maxHeartbeats 4000000
namespace MR
open PySem PySem.Spec PyProof.Rows PySem.Calls L2
section
variable {X : Cx}
theorem boot_reversed : bootBuiltins "reversed" = some (.type "reversed") := by decide +kernel
theorem boot_listT : bootBuiltins "list" = some (.type "list") := by decide +kernel
theorem boot_tupleT : bootBuiltins "tuple" = some (.type "tuple") := by decide +kernel
theorem rev_items {its : List Value} {acc : Array Value} (h : ItemsOf (fun i v => its.toArray[its.toArray.size - 1 - i]? = some v) acc its.toArray.size) : acc.toList = its.reverse := by
  obtain ⟨h1, h2⟩ := h
  apply List.ext_getElem?
  intro i
  have hz : its.toArray.size = its.length := by simp
  by_cases hi : i < its.length
  · have hs : i < acc.size := by rw [h1, hz]; exact hi
    have := h2 i acc[i] (Array.getElem?_eq_getElem hs)
    rw [hz, List.getElem?_toArray] at this
    rw [Array.getElem?_toList, Array.getElem?_eq_getElem hs, List.getElem?_reverse hi, this]
  · rw [List.getElem?_eq_none (by simp; omega), List.getElem?_eq_none (by simp; omega)]
noncomputable def tLRev (K : PySem.W.Frag) (ta : TA) : TE := fun σ H Q => ta σ H fun vs H1 => ∃ q ys, vs = [.ref q] ∧ SqL K H1 q ys ∧ ∀ l, H1 l = none → Q (.ref l) (upd H1 l (.lst ys.reverse))
noncomputable def tTRev (K : PySem.W.Frag) (ta : TA) : TE := fun σ H Q => ta σ H fun vs H1 => ∃ q ys, vs = [.ref q] ∧ SqL K H1 q ys ∧ ∀ l, H1 l = none → Q (.ref l) (upd H1 l (.tup ys.reverse))
theorem pe_lrev {a : Expr} {ta : TA} {p p' pos pos' : Pos} (hc : X.calm = true) (hgL : Gl X "list") (hmL : X.mg "list" = none) (hg : Gl X "reversed") (hm : X.mg "reversed" = none) (ha : PA X [a] ta) (hs : starEach [a] X.env = [(false, eval a X.env)] := by rfl)
    (hs2 : starEach [.Call (.Name "reversed" p') [a] [] pos'] X.env = [(false, eval (.Call (.Name "reversed" p') [a] [] pos') X.env)] := by rfl) : PE X (.Call (.Name "list" p) [.Call (.Name "reversed" p') [a] [] pos'] [] pos) (tLRev X.K ta) := by
  intro pins s σ H Q I h
  refine wpAny_Call_Name_kw (ld_blt I hgL hmL boot_listT ?_)
  refine PyProof.Rows.callWith_type1 ?_ hs2 rfl
  rw [hs2]
  refine Calls.spliced_cons ?_
  refine wpAny_Call_Name_kw (ld_blt I hg hm boot_reversed (PyProof.Rows.callWith_type1 (thn (ha pos' pins s σ H _ I h) fun us s1 ⟨vs, H1, I1, r1, q1⟩ => ?_) hs rfl))
  obtain ⟨l, ys, rfl, sq, q⟩ := q1
  obtain ⟨u, rfl, ru⟩ := vals1 r1
  cases ru
  obtain ⟨its, hv, pl, hz⟩ := I1.list sq
  have hlt : l < s1.heap.objs.size := by obtain ⟨_, e, _⟩ := pl.isList; exact Heap.lt_size e
  refine call_reversed_list pl.isList ?_
  refine Calls.spliced_nil ?_
  have hlen := hv.length
  refine ZT.call_list_rev (n := its.toArray.size) ((Walks.listRev (A := Around.in1 (Around.in1 X.A)) (I1.ok.hd hc) s1.heap.objs.size l (Nat.ne_of_lt hlt) its.toArray).toS) (fun i s st => st.2.1.typeIs)
    ⟨Nat.zero_le _, ⟨_, Heap.get?_push_size _ rfl, rfl, by simp [revObj]⟩, pl.isList.push _⟩ (fun b hb => ?_) (by simp) (fun s' acc c' hm' hS hacc => ?_) (by simp; omega)
  · simp only [List.mem_cons, List.not_mem_nil, or_false] at hb
    have hz2 : (s1.heap.push (revObj l ((its.toArray.size : Int) - 1))).objs.size = s1.heap.objs.size + 1 := Heap.size_push ..
    show b < (s1.heap.push (revObj l ((its.toArray.size : Int) - 1))).objs.size
    rw [hz2]
    rcases hb with rfl | rfl
    · exact Nat.lt_succ_self _
    · exact Nat.lt_succ_of_lt hlt
  · have hz2 : (s1.heap.push (revObj l ((its.toArray.size : Int) - 1))).objs.size = s1.heap.objs.size + 1 := Heap.size_push ..
    obtain ⟨h', g', d', tk', os'⟩ := s'
    have e1 : g' = s1.gens := hm'.gens
    have e2 : d' = s1.drawn := hm'.drawn
    have e3 : os' = s1.os := hm'.os
    subst e1 e2 e3
    have hS' : h'.get? (s1.heap.push (revObj l ((its.toArray.size : Int) - 1))).objs.size = some { cls := .type "list", dict := none, data := .seq acc c', slots := #[] } := hS
    have kp : ∀ b o, s1.heap.get? b = some o → h'.get? b = some o := fun b o e => hm'.heap b o (fun hb => by
      have hb' : b < s1.heap.objs.size := Heap.lt_size e
      simp only [List.mem_cons, List.not_mem_nil, or_false] at hb
      rcases hb with z | z
      · have z' : b = (s1.heap.push (revObj l ((its.toArray.size : Int) - 1))).objs.size := z
        rw [hz2] at z'; rw [z'] at hb'; exact absurd (Nat.lt_of_succ_lt hb') (Nat.lt_irrefl _)
      · rw [z] at hb'; exact absurd hb' (Nat.lt_irrefl _)) (Heap.get?_push_of_some _ (Heap.get?_push_of_some _ e))
    have hle : s1.heap.objs.size ≤ (s1.heap.push (revObj l ((its.toArray.size : Int) - 1))).objs.size := by rw [hz2]; exact Nat.le_succ _
    have hacc' := rev_items hacc
    have hacc2 : acc = its.reverse.toArray := by rw [← hacc']
    have new : ObjOk X.prog X.w (upd H1 (s1.heap.push (revObj l ((its.toArray.size : Int) - 1))).objs.size (.lst ys.reverse)) h' (s1.heap.push (revObj l ((its.toArray.size : Int) - 1))).objs.size (.lst ys.reverse) :=
      ⟨by rw [List.length_reverse]; exact hz, its.reverse, c', Vals.reverse hv, by rw [hS', hacc2]⟩
    exact ⟨.ref (s1.heap.push (revObj l ((its.toArray.size : Int) - 1))).objs.size, _, I1.laid (t' := tk') kp hle new, rfl, q _ (I1.hok.fresh hle)⟩
theorem pe_trev {a : Expr} {ta : TA} {p p' pos pos' : Pos} (hc : X.calm = true) (hgL : Gl X "tuple") (hmL : X.mg "tuple" = none) (hg : Gl X "reversed") (hm : X.mg "reversed" = none) (ha : PA X [a] ta) (hs : starEach [a] X.env = [(false, eval a X.env)] := by rfl)
    (hs2 : starEach [.Call (.Name "reversed" p') [a] [] pos'] X.env = [(false, eval (.Call (.Name "reversed" p') [a] [] pos') X.env)] := by rfl) : PE X (.Call (.Name "tuple" p) [.Call (.Name "reversed" p') [a] [] pos'] [] pos) (tTRev X.K ta) := by
  intro pins s σ H Q I h
  refine wpAny_Call_Name_kw (ld_blt I hgL hmL boot_tupleT ?_)
  refine PyProof.Rows.callWith_type1 ?_ hs2 rfl
  rw [hs2]
  refine Calls.spliced_cons ?_
  refine wpAny_Call_Name_kw (ld_blt I hg hm boot_reversed (PyProof.Rows.callWith_type1 (thn (ha pos' pins s σ H _ I h) fun us s1 ⟨vs, H1, I1, r1, q1⟩ => ?_) hs rfl))
  obtain ⟨l, ys, rfl, sq, q⟩ := q1
  obtain ⟨u, rfl, ru⟩ := vals1 r1
  cases ru
  obtain ⟨its, hv, pl, hz⟩ := I1.list sq
  have hlt : l < s1.heap.objs.size := by obtain ⟨_, e, _⟩ := pl.isList; exact Heap.lt_size e
  refine call_reversed_list pl.isList ?_
  refine Calls.spliced_nil ?_
  have hlen := hv.length
  refine ZT.call_tuple_rev (n := its.toArray.size) ((Walks.listRev (A := Around.in1 (Around.in1 (Around.in1 X.A))) (I1.ok.hd hc) s1.heap.objs.size l (Nat.ne_of_lt hlt) its.toArray).toS) (fun i s st => st.2.1.typeIs)
    ⟨Nat.zero_le _, ⟨_, Heap.get?_push_size _ rfl, rfl, by simp [revObj]⟩, pl.isList.push _⟩ (fun b hb => ?_) (by simp) (fun s' acc hm' hacc => ?_) (by simp; omega)
  · simp only [List.mem_cons, List.not_mem_nil, or_false] at hb
    have hz2 : (s1.heap.push (revObj l ((its.toArray.size : Int) - 1))).objs.size = s1.heap.objs.size + 1 := Heap.size_push ..
    show b < (s1.heap.push (revObj l ((its.toArray.size : Int) - 1))).objs.size
    rw [hz2]
    rcases hb with rfl | rfl
    · exact Nat.lt_succ_self _
    · exact Nat.lt_succ_of_lt hlt
  · obtain ⟨h', g', d', tk', os'⟩ := s'
    have e1 : g' = s1.gens := hm'.gens
    have e2 : d' = s1.drawn := hm'.drawn
    have e3 : os' = s1.os := hm'.os
    subst e1 e2 e3
    have kp : ∀ b o, s1.heap.get? b = some o → h'.get? b = some o := fun b o e => hm'.heap b o (fun hb => by
      have hb' : b < s1.heap.objs.size := Heap.lt_size e
      simp only [List.mem_cons, List.not_mem_nil, or_false] at hb
      rw [hb] at hb'; exact absurd hb' (Nat.lt_irrefl _)) (Heap.get?_push_of_some _ e)
    have hacc' := rev_items hacc
    have hacc2 : acc = its.reverse.toArray := by rw [← hacc']
    have I2 : L2.Inv X pins σ H1 { s1 with heap := h', toks := tk' } := I1.kept (t' := tk') kp
    have I3 : L2.Inv X pins σ (upd H1 h'.objs.size (.tup ys.reverse)) { s1 with heap := h'.push { cls := .type "tuple", data := .seq acc }, toks := tk' } :=
      I2.laid (t' := tk') (fun b o e => Heap.get?_push_of_some _ e) (Nat.le_refl _) (show ObjOk X.prog X.w _ _ _ (.tup ys.reverse) from ⟨by rw [List.length_reverse]; exact hz, its.reverse, Vals.reverse hv, by rw [hacc2]; exact IsTup.new _ _⟩)
    exact ⟨.ref h'.objs.size, _, I3, rfl, q _ (I2.hok.fresh (Nat.le_refl _))⟩
noncomputable def fLRev (g : FA) : FE := fun δ L => (g δ L).bind fun p => match p.1 with
  | [.ref n] => (seqAt p.2 n).map fun l => (.ref p.2.length, p.2 ++ [.lst l.reverse])
  | _ => none
noncomputable def fTRev (g : FA) : FE := fun δ L => (g δ L).bind fun p => match p.1 with
  | [.ref n] => (seqAt p.2 n).map fun l => (.tup l.reverse, p.2)
  | _ => none
theorem pf_lrev {a : Expr} {g : FA} {p p' pos pos' : Pos} (hc : X.calm = true) (hgL : Gl X "list") (hmL : X.mg "list" = none) (hg : Gl X "reversed") (hm : X.mg "reversed" = none) (ha : PAF X [a] g) (hs : starEach [a] X.env = [(false, eval a X.env)] := by rfl)
    (hs2 : starEach [.Call (.Name "reversed" p') [a] [] pos'] X.env = [(false, eval (.Call (.Name "reversed" p') [a] [] pos') X.env)] := by rfl) : PEF X (.Call (.Name "list" p) [.Call (.Name "reversed" p') [a] [] pos'] [] pos) (fLRev g) := by
  refine PE.imp (pe_lrev hc hgL hmL hg hm ha hs hs2) ?_
  rintro σ H Q ⟨α, δ, L, A, S, u, L3, e, q⟩
  obtain ⟨⟨us, L1⟩, e1, e⟩ := Option.bind_eq_some_iff.mp e
  refine ⟨α, δ, L, A, S, us, L1, e1, fun xs H1 α1 g1 A1 r1 => ?_⟩
  simp only at e
  split at e
  · obtain ⟨l, hl, e⟩ := Option.map_eq_some_iff.mp e
    cases e
    obtain ⟨x, rfl, rx⟩ := r1.one
    obtain ⟨a', ys, rfl, sq, r2⟩ := refs_at A1 hl rx
    refine ⟨a', ys, rfl, sq, fun p hp => ?_⟩
    obtain ⟨g', A', r'⟩ := A1.lst (RepL.reverse r2) hp
    exact q _ _ _ (g1.trans g') A' r'
  · cases e
theorem pf_trev {a : Expr} {g : FA} {p p' pos pos' : Pos} (hc : X.calm = true) (hgL : Gl X "tuple") (hmL : X.mg "tuple" = none) (hg : Gl X "reversed") (hm : X.mg "reversed" = none) (ha : PAF X [a] g) (hs : starEach [a] X.env = [(false, eval a X.env)] := by rfl)
    (hs2 : starEach [.Call (.Name "reversed" p') [a] [] pos'] X.env = [(false, eval (.Call (.Name "reversed" p') [a] [] pos') X.env)] := by rfl) : PEF X (.Call (.Name "tuple" p) [.Call (.Name "reversed" p') [a] [] pos'] [] pos) (fTRev g) := by
  refine PE.imp (pe_trev hc hgL hmL hg hm ha hs hs2) ?_
  rintro σ H Q ⟨α, δ, L, A, S, u, L3, e, q⟩
  obtain ⟨⟨us, L1⟩, e1, e⟩ := Option.bind_eq_some_iff.mp e
  refine ⟨α, δ, L, A, S, us, L1, e1, fun xs H1 α1 g1 A1 r1 => ?_⟩
  simp only at e
  split at e
  · obtain ⟨l, hl, e⟩ := Option.map_eq_some_iff.mp e
    cases e
    obtain ⟨x, rfl, rx⟩ := r1.one
    obtain ⟨a', ys, rfl, sq, r2⟩ := refs_at A1 hl rx
    refine ⟨a', ys, rfl, sq, fun p hp => ?_⟩
    obtain ⟨g', A', r'⟩ := A1.tup (RepL.reverse r2) hp
    exact q _ _ _ (g1.trans g') A' r'
  · cases e
end
noncomputable def Itd (hi : Int) (n : Nat) : It := ⟨fun i _ => i < n, fun i H x H' => H' = H ∧ x = .int (hi - i), fun i _ => n ≤ i⟩
theorem turn_down {P : Program} {w : World} {K : PySem.W.Frag} {tg : Expr} (it : Addr) (hi : Int) (n : Nat) : Turn P w K tg (Itd hi n) [it] it (fun i h => IsRangeIter h it (hi + (i : Nat) * (-1)) ((n : Int) - (i : Nat)) (-1)) where
  mem := by simp
  obj := fun i h st b hb => by
    have e : b = it := by simpa using hb
    subst e
    exact ⟨_, st, fun v z => by
      have z' : Data.fields _ = Data.cell v := z
      cases z'⟩
  keep := fun i h h' st k => k it (by simp) _ st
  item := by
    intro X hP hw hK hc i pins s σ H E I hf st hg
    subst hP hw hK
    obtain ⟨f0, f1, f2, f3, f4, f5⟩ := hf it (by simp)
    have W := Walks.range (prog := X.prog) (w := X.w) (I.ok.hd hc) it hi (-1) n
    refine W.item i s _ _ hg st fun v h' tk hv st' kk => ?_
    obtain ⟨t, rfl⟩ := hv
    have I1 : L2.Inv X pins σ H { s with heap := h', toks := tk } := I.turned (fun b o hb e => kk b o (by simpa using hb) e) f0 f1 f3 f4 f5
    refine ⟨_, rfl, go_of (s := { s with heap := h', toks := tk }) (n := "range_iterator") st' rfl rfl (by decide) ⟨.int (hi - i), H, I1, ⟨t, ?_⟩, ⟨rfl, rfl⟩, st', fun b hb => (hf b hb).1⟩⟩
    have : hi + (i : Int) * (-1) = hi - i := by omega
    rw [this]
  done := by
    intro X hP hw hK hc i pins s σ H E I hf st hg
    subst hP hw hK
    obtain ⟨f0, f1, f2, f3, f4, f5⟩ := hf it (by simp)
    exact wpAny_pyNext_range_end (I.ok.hd hc) st (by have : n ≤ i := hg; omega) fun h' eb => ⟨rfl, I.turned (t' := s.toks) (fun b o hb e => eb b o hb e) f0 f1 f3 f4 f5⟩
  self := fun _ _ _ _ _ st h => wpAny_pyIter_rangeiter st h
end MR
set_option Elab.async false
set_option linter.all false
set_option maxRecDepth 100000
set_option maxHeartbeats 4000000
namespace ZT
open PySem PySem.Spec PyProof.Rows HT
section
variable {prog : Program} {w : World} {A : Around} {E : Value → Shared → Prop} {s : Shared}
theorem getItem_tuple_whole {t sl : Addr} {items : Array Value} {vl vu : Value} {lo hi : Option Int} {Q : Value → Shared → Prop} (ht : IsTup s.heap t items) (hs : s.heap.IsSliceOf sl vl vu .none) (pl : IsPart vl lo) (pu : IsPart vu hi)
    (hw : sIx items.size 0 lo = 0 ∧ sIx items.size items.size hi = items.size) (h : Q (.ref t) s) : wpAny (model prog w) A (getItem (.ref t) (.ref sl)) Q E s := by
  obtain ⟨os, hos, hcs, hds⟩ := id hs
  have hTs : s.TypeIs (.ref sl) "slice" := ⟨os, hos, hcs⟩
  unfold getItem
  try with_reducible refine wpAny_holding ?_
  first | refine wpAny_bind (wpAny_pure ?_) | skip
  refine wpAny_bind (wpAny_sequenceKey ht.typeIs (by decide) ?_)
  refine wpAny_bind (wpAny_callSpecial?_slot (name := Str.ofString "__getitem__") ht.typeIs PyProof.Rows.slot_tuple_getitem
    (wpAny_call_entry PyProof.Rows.slot_tuple_getitem ht.typeIs entry_tuple_getitem ?_ (args_tuple_getitem _ _)))
  show wpAny _ _ (Builtin.Tuple.tupleItemsOf (.ref t) >>= _) _ _ s
  refine wpAny_bind (tupleItemsOf_ ht ?_)
  refine wpAny_bind (wpAny_typeOf hTs ?_)
  rw [if_pos (by decide)]
  refine wpAny_bind (sliceApplied_gen hs pl pu ?_)
  have hyes : ((((sIx items.size 0 lo : Nat) : Int) == 0 && (1 : Int) == 1 && (sIx items.size items.size hi - sIx items.size 0 lo) == items.size) = true) := by
    rw [hw.1, hw.2]; simp
  show wpAny _ _ (if (((sIx items.size 0 lo : Nat) : Int) == 0 && (1 : Int) == 1 && (sIx items.size items.size hi - sIx items.size 0 lo) == items.size) = true then _ else _) _ _ s
  rw [if_pos hyes]
  unfold Builtin.Tuple.tupleIsExact
  refine wpAny_bind (wpAny_bind (wpAny_typeOf ht.typeIs (wpAny_pure ?_)))
  rw [if_pos (by decide)]
  refine wpAny_bind (wpAny_rule ?_)
  first
    | exact wpAny_pure ⟨_, rfl, wpAny_pure h⟩
    | exact wpAny_bind (wpAny_pure ⟨_, rfl, wpAny_pure h⟩)
    | exact wpAny_bind (wpAny_pure (wpAny_pure ⟨_, rfl, wpAny_pure h⟩))
    | trace_state
end
end ZT
namespace MR
open PySem PySem.Spec PyProof.Rows PySem.Calls L2
section
variable {X : Cx} {tg : Expr}
noncomputable def rSlW (K : PySem.W.Frag) : V → Option Int → Option Int → Hp → VK → Prop := fun x lo hi H Q => ∃ a xs, x = .ref a ∧ SqT K H a xs ∧ (HT.sIx xs.length 0 lo = 0 ∧ HT.sIx xs.length xs.length hi = xs.length) ∧ Q (.ref a) H
theorem sl_whole : SlR X (rSlW X.K) := by
  intro pins s σ H x v vl vu lo hi sl Q I rx hs pl pu h
  obtain ⟨a, xs, rfl, hx, hw, q⟩ := h
  cases rx
  obtain ⟨its, r, ht, hz⟩ := I.tuple hx
  have hlen : its.toArray.size = xs.length := by rw [List.size_toArray]; exact r.length.symm
  refine ⟨"tuple", _, PyProof.Rows.slot_tuple_getitem.lookup, ht.typeIs, ?_⟩
  exact ZT.getItem_tuple_whole ht hs pl pu (by rw [hlen]; exact hw) ⟨.ref a, H, I, rfl, q⟩
noncomputable def semSlA : SS := fun u lo hi L => match u with
  | .tup l => if HT.sIx l.length 0 lo = 0 ∧ HT.sIx l.length l.length hi = l.length then some (.tup l, L) else some (.tup (cutU l lo hi), L)
  | .ref n => (seqAt L n).map fun l => (.ref L.length, L ++ [.lst (cutU l lo hi)])
  | _ => none
theorem sl_allA : SlR X (fun x lo hi H Q => rSlA X.K x lo hi H Q ∨ rSlW X.K x lo hi H Q) := sl_all.or sl_whole
theorem sem_slA {K : PySem.W.Frag} : SemSl K (fun x lo hi H Q => rSlA K x lo hi H Q ∨ rSlW K x lo hi H Q) semSlA := by
  intro H α L u x lo hi z L' Q A ru e q
  cases u with
  | tup l =>
    by_cases hw : HT.sIx l.length 0 lo = 0 ∧ HT.sIx l.length l.length hi = l.length
    · unfold semSlA at e
      simp only at e
      rw [if_pos hw] at e
      cases e
      have ru' := ru
      unfold RepU at ru
      obtain ⟨a, ys, rfl, sq, r2⟩ := ru
      exact .inr ⟨a, ys, rfl, sq, by rw [← r2.length]; exact hw, q _ H α (.refl _ _) A ru'⟩
    · refine .inl (sem_sl H α L (.tup l) x lo hi z L' Q A ru ?_ q)
      unfold semSlA at e
      unfold semSl
      simp only at e ⊢
      rw [if_neg hw] at e ⊢
      exact e
  | ref n => exact .inl (sem_sl H α L (.ref n) x lo hi z L' Q A ru e q)
  | _ => cases e
theorem size_down (a b : Int) : Builtin.Range.rangeSize a b (-1) = if b < a then a - b else 0 := by
  unfold Builtin.Range.rangeSize
  simp only [show ¬ ((-1 : Int) > 0) by decide, if_false, show -(-1 : Int) = 1 by decide, Int.ediv_one]
  split <;> omega
theorem small_down {a b : Int} (ha : -(2 ^ 62) ≤ a) (ha' : a < 2 ^ 62) (hb : -(2 ^ 62) ≤ b) (hb' : b < 2 ^ 62) : Builtin.Range.small a b (-1) = true := by
  unfold Builtin.Range.small
  rw [size_down]
  simp only [Builtin.Range.rangeFitsLong, Bool.and_eq_true, Bool.or_eq_true, decide_eq_true_eq, beq_iff_eq, show ¬ ((-1 : Int) > 0) by decide, if_false]
  split <;> omega
theorem range_itd {pins : List (Addr × Obj)} {σ : L2.St} {H : Hp} {s : Shared} {R : It → Hp → Prop} {E : Value → Shared → Prop} {hi lo : Int} {t u v : Tok} {tk : Nat} (I : L2.Inv X pins σ H s) (h1 : -(2 ^ 62) ≤ hi) (h2 : hi < 2 ^ 62) (h3 : -(2 ^ 62) ≤ lo) (h4 : lo < 2 ^ 62)
    (q : R (Itd hi (hi - lo).toNat) H) : wpAny (model X.prog X.w) X.A (pyIter (.ref s.heap.objs.size)) (PIE X pins σ tg R) E { s with heap := s.heap.push { cls := .type "range", data := .fields #[.int hi t, .int lo u, .int (-1) v] }, toks := tk } := by
  refine wpAny_pyIter_range (IsRange.new ..) (small_down h1 h2 h3 h4) ?_
  have I1 : L2.Inv X pins σ H { s with heap := s.heap.push { cls := .type "range", data := .fields #[.int hi t, .int lo u, .int (-1) v] }, toks := tk } := I.kept fun b o e => Heap.get?_push_of_some _ e
  refine ⟨(s.heap.push { cls := .type "range", data := .fields #[.int hi t, .int lo u, .int (-1) v] }).objs.size, [(s.heap.push { cls := .type "range", data := .fields #[.int hi t, .int lo u, .int (-1) v] }).objs.size], _, _, H, rfl,
    I1.kept (t' := tk) fun b o e => Heap.get?_push_of_some _ e, turn_down _ hi (hi - lo).toNat, ?_, fun b hb => ?_, q⟩
  · have e1 : hi + ((0 : Nat) : Int) * (-1) = hi := by simp
    have e2 : (((hi - lo).toNat : Nat) : Int) - ((0 : Nat) : Int) = Builtin.Range.rangeSize hi lo (-1) := by rw [size_down]; split <;> omega
    show IsRangeIter _ _ (hi + ((0 : Nat) : Int) * (-1)) ((((hi - lo).toNat : Nat) : Int) - ((0 : Nat) : Int)) (-1)
    rw [e1, e2]
    exact Heap.get?_push_size _ rfl
  · have e : b = (s.heap.push { cls := .type "range", data := .fields #[.int hi t, .int lo u, .int (-1) v] }).objs.size := by simpa using hb
    subst e
    exact L2.Inv.fpOk I1 (Nat.le_refl _) (I1.hok.fresh (Nat.le_refl _))
noncomputable def iRngD (ta : TA) : TI := fun σ H R => ta σ H fun vs H1 => ∃ i j : Int, vs = [.int i, .int j, .int (-1)] ∧ (-(2 ^ 62) ≤ i ∧ i < 2 ^ 62 ∧ -(2 ^ 62) ≤ j ∧ j < 2 ^ 62) ∧ R (Itd i (i - j).toNat) H1
theorem pi_rangeD {a b c : Expr} {ta : TA} {p pos : Pos} (hg : Gl X "range") (hm : X.mg "range" = none) (ha : PA X [a, b, c] ta) (hs : starEach [a, b, c] X.env = (false, eval a X.env) :: starEach [b, c] X.env := by rfl) (hpl : (backTo pos (starEach [b, c] X.env)).any (·.1) = false := by rfl) :
    PI X tg (.Call (.Name "range" p) [a, b, c] [] pos) (iRngD ta) := by
  intro pins s σ H R I h
  refine Call_ (ld_blt I hg hm boot_range (PyProof.Rows.callWith_type1 (thn (ha pos pins s σ H _ I h) fun us s1 ⟨vs, H1, I1, r1, q1⟩ => ?_) hs hpl))
  obtain ⟨i, j, e, ⟨q1, q2, q3, q4⟩, q⟩ := q1
  subst e
  cases r1 with
  | cons r rr =>
    cases rr with
    | cons r' rr =>
      cases rr with
      | cons r'' rr =>
        cases rr
        obtain ⟨t, rfl⟩ := r
        obtain ⟨t', rfl⟩ := r'
        obtain ⟨t'', rfl⟩ := r''
        exact call_range_3 (by decide) (range_itd I1 q1 q2 q3 q4 q) (.inl (PyProof.noPylong_small (by omega)))
noncomputable def downU (hi : Int) (n : Nat) : List U := (List.range n).map fun (i : Nat) => .int (hi - (i : Int))
noncomputable def fRngD (g : FA) : FI := fun δ L => (g δ L).bind fun p => match p.1 with
  | [.int i, .int j, .int k] => if k = -1 ∧ -1000000 ≤ i ∧ i ≤ 1000000 ∧ -1000000 ≤ j ∧ j ≤ 1000000 then some (.seq (downU i (i - j).toNat), p.2) else none
  | _ => none
theorem itd_rep {K : PySem.W.Frag} {H : Hp} {α : List Addr} (hi : Int) (n : Nat) : ItRep K (Itd hi n) (.seq (downU hi n)) H α := by
  intro H2 α2 L2 g A2 k
  refine ⟨fun u eu => ?_, fun eu => ?_⟩
  · have eu : (downU hi n)[k]? = some u := by simpa [IU.at] using eu
    unfold downU at eu
    rw [List.getElem?_map] at eu
    obtain ⟨c, hc, eu⟩ := Option.map_eq_some_iff.mp eu
    have hk : k < n := by
      have := (List.getElem?_eq_some_iff.mp hc).1
      simpa using this
    rw [List.getElem?_range hk] at hc
    cases hc
    subst eu
    refine ⟨hk, ?_⟩
    rintro y H3 ⟨rfl, rfl⟩
    exact ⟨.refl _ _, A2, rfl⟩
  · have eu : (downU hi n)[k]? = none := by simpa [IU.at] using eu
    have : (downU hi n).length ≤ k := List.getElem?_eq_none_iff.mp eu
    show n ≤ k
    simpa [downU] using this
theorem pif_rangeD {a b c : Expr} {g : FA} {p pos : Pos} (hg : Gl X "range") (hm : X.mg "range" = none) (ha : PAF X [a, b, c] g) (hs : starEach [a, b, c] X.env = (false, eval a X.env) :: starEach [b, c] X.env := by rfl) (hpl : (backTo pos (starEach [b, c] X.env)).any (·.1) = false := by rfl) : PIF X tg (.Call (.Name "range" p) [a, b, c] [] pos) (fRngD g) := by
  refine PI.imp (pi_rangeD hg hm ha hs hpl) ?_
  rintro σ H R ⟨α, δ, L, A, S, i, L3, e, q⟩
  obtain ⟨⟨us, L1⟩, e1, e⟩ := Option.bind_eq_some_iff.mp e
  refine ⟨α, δ, L, A, S, us, L1, e1, fun xs H1 α1 g1 A1 r1 => ?_⟩
  simp only at e
  split at e
  · split at e
    · rename_i hj
      cases e
      obtain ⟨rfl, h1, h2, h3, h4⟩ := hj
      unfold RepL at r1
      obtain ⟨x, xr, rfl, rx, r1⟩ := r1
      unfold RepL at r1
      obtain ⟨y, yr, rfl, ry, r1⟩ := r1
      unfold RepL at r1
      obtain ⟨z, zr, rfl, rz, r1⟩ := r1
      unfold RepL at r1
      subst r1
      unfold RepU at rx ry rz
      subst rx ry rz
      exact ⟨_, _, rfl, ⟨by omega, by omega, by omega, by omega⟩, q _ H1 α1 g1 A1 (itd_rep _ _)⟩
    · cases e
  · cases e
end
end MR
set_option Elab.async false
set_option linter.all false
set_option maxRecDepth 100000
set_option maxHeartbeats 4000000
namespace MR
open PySem PySem.Spec PyProof.Rows PySem.Calls L2
section
variable {X : Cx}
noncomputable def rCatE (K : PySem.W.Frag) : R2 := fun x y H Q => ∃ a b ys, x = .ref a ∧ y = .ref b ∧ SqT K H a [] ∧ SqT K H b ys ∧ Q (.ref b) H
theorem op_catE : OpR X (binaryOp .Add) (rCatE X.K) := by
  intro pins s σ H x y v u Q I rx ry h
  obtain ⟨a, b, ys, rfl, rfl, ha, hb, q⟩ := h
  cases rx
  cases ry
  obtain ⟨its, r1, p1, _⟩ := I.tuple ha
  obtain ⟨its2, r2, p2, _⟩ := I.tuple hb
  have he : its = [] := r1.nil_iff.mpr rfl
  obtain ⟨⟨cls, dd, data, sl⟩, ho, hc, n, hd⟩ := id p1
  obtain ⟨⟨cls2, dd2, data2, sl2⟩, ho2, hc2, n2, hd2⟩ := id p2
  simp only at hc hd hc2 hd2
  subst hc hd hc2 hd2
  exact concat_meets ⟨_, ho, rfl⟩ ⟨_, ho2, rfl⟩ noFill_tuple_add seq_tuple_add PySem.F.slot_tuple_add PySem.F.entry_tuple_add (PySem.F.args_tuple_add_2 _ _)
    (tuple_addW0 a b its.toArray its2.toArray n n2 dd dd2 sl sl2 (by simp [he])) ⟨ho, ho2, ⟨.ref b, H, I, rfl, q⟩⟩
end
noncomputable def semAddA : S2 := fun u w L => match u, w with
  | .tup [], .tup b => some (.tup b, L)
  | u, w => semAdd u w L
noncomputable def rAddE (K : PySem.W.Frag) : R2 := fun x y H Q => rAddA K x y H Q ∨ rCatE K x y H Q
theorem op_addE {X : Cx} : OpR X (binaryOp .Add) (rAddE X.K) := op_addA.or op_catE
theorem sem_addA {K : PySem.W.Frag} : SemR2 K (rAddE K) semAddA := by
  intro H α L u w x y z L' Q A ru rw e q
  unfold semAddA at e
  split at e
  · cases e
    have rw' := rw
    unfold RepU at ru rw
    obtain ⟨a, xs, rfl, sq, r2⟩ := ru
    obtain ⟨b, ys, rfl, sq', r2'⟩ := rw
    unfold RepL at r2
    subst r2
    exact .inr ⟨a, b, ys, rfl, rfl, sq, sq', q _ H α (.refl _ _) A rw'⟩
  · exact .inl (sem_add H α L _ _ x y z L' Q A ru rw e q)
@[simp] theorem semAddA_int (i j : Int) (L : UH) : semAddA (.int i) (.int j) L = some (.int (i + j), L) := rfl
end MR
set_option Elab.async false
set_option linter.all false
set_option maxRecDepth 100000
set_option maxHeartbeats 4000000
namespace MR
open PySem PyProof.Rows L2
section
variable {X : Cx}
end
noncomputable def toS : U → Option Str
  | .str a => some a
  | _ => none
end MR
namespace MR
open PySem PySem.W PyProof.Rows L2
end MR
namespace Att
open PySem PySem.W PySem.Calls PyProof.Rows L2 MR
end Att
set_option Elab.async false
set_option linter.all false
set_option maxRecDepth 100000
set_option maxHeartbeats 4000000
namespace MR
open PySem PyProof.Rows L2
noncomputable def g0 (us ws : List Value) : List Value := match us with | [] => ws | _ => []
section
variable {X : Cx} {k : Nat} {f : Addr} {fd : FuncData} {p : Str} {ps : List Str} {x : Str} {pp pos kpos : Pos} {e : Expr} {kws : List Keyword} {nm : Option Str}
theorem PK.imp {t t' : TA} (h : PK X kws t) (hi : ∀ σ H Q, t' σ H Q → t σ H Q) : PK X kws t' := fun pos pins s σ H Q I q => h pos pins s σ H Q I (hi σ H Q q)
end
end MR
set_option Elab.async false
set_option linter.all false
set_option maxRecDepth 100000
set_option maxHeartbeats 4000000
namespace MR
open PySem PySem.Spec PyProof.Rows PySem.Calls L2
section
variable {X : Cx}
end
end MR
set_option Elab.async false
set_option linter.all false
set_option maxRecDepth 100000
set_option maxHeartbeats 4000000
namespace MR
open PySem PySem.Spec PyProof.Rows PySem.Calls L2
noncomputable def rngV (lo : Int) (n : Nat) : List V := (List.range n).map fun i => V.int (lo + (i : Nat))
theorem rng_items {lo : Int} {n : Nat} {acc : Array Value} (h : ItemsOf (fun i v => ∃ t, v = Value.int (lo + (i : Nat) * 1) t) acc n) : Vals (rngV lo n) acc.toList := by
  obtain ⟨h1, h2⟩ := h
  have key : ∀ (k : Nat) (l : List Value) (m : Nat), l.length = k → (∀ i v, l[i]? = some v → ∃ t, v = Value.int (lo + ((m + i : Nat) : Int)) t) → Vals ((List.range' m k).map fun i => V.int (lo + ((i : Nat) : Int))) l := by
    intro k
    induction k with
    | zero => intro l m hl _; cases l with | nil => exact .nil | cons _ _ => simp at hl
    | succ k ih =>
      intro l m hl hv
      cases l with
      | nil => simp at hl
      | cons v l =>
        rw [List.range'_succ, List.map_cons]
        obtain ⟨t, ht⟩ := hv 0 v rfl
        refine .cons ⟨t, by rw [ht]; rfl⟩ (ih l (m + 1) (by simpa using hl) fun i w hw => ?_)
        obtain ⟨t', ht'⟩ := hv (i + 1) w (by simpa using hw)
        refine ⟨t', ?_⟩
        rw [ht']
        have : m + (i + 1) = m + 1 + i := by omega
        rw [this]
  have := key n acc.toList 0 (by simpa using h1) (fun i v hv => by
    obtain ⟨t, ht⟩ := h2 i v (by simpa using hv)
    refine ⟨t, ?_⟩
    rw [ht, Int.mul_one, Nat.zero_add])
  unfold rngV
  rw [List.range_eq_range']
  exact this
section
variable {X : Cx}
theorem list_rng {pins : List (Addr × Obj)} {σ : L2.St} {H : Hp} {s : Shared} {Q : VK} {lo hi : Int} {t u v : Tok} {tk : Nat} (hc : X.calm = true) (I : L2.Inv X pins σ H s) (h1 : -(2 ^ 62) ≤ lo) (h2 : lo < 2 ^ 62) (h3 : -(2 ^ 62) ≤ hi) (h4 : hi < 2 ^ 62) (hn : (hi - lo).toNat ≤ 1000000)
    (q : ∀ l, H l = none → Q (.ref l) (upd H l (.lst (rngV lo (hi - lo).toNat)))) :
    wpAny (model X.prog X.w) X.A (call (.type "list") [.ref s.heap.objs.size]) (EP X pins σ Q) X.xe { s with heap := s.heap.push { cls := .type "range", data := .fields #[.int lo t, .int hi u, .int 1 v] }, toks := tk } := by
  have I1 : L2.Inv X pins σ H { s with heap := s.heap.push { cls := .type "range", data := .fields #[.int lo t, .int hi u, .int 1 v] }, toks := tk } := I.kept fun b o e => Heap.get?_push_of_some _ e
  refine call_list_range (n := (hi - lo).toNat) (I.ok.hd hc) (IsRange.new ..) (small_one h1 h2 h3 h4) (by rw [rangeSize_one]; split <;> omega) (by omega) fun h' tk' acc c' hk hS hacc => ?_
  have hz2 : (s.heap.push { cls := .type "range", data := .fields #[.int lo t, .int hi u, .int 1 v] }).objs.size = s.heap.objs.size + 1 := Heap.size_push ..
  have hv := rng_items hacc
  have kp : ∀ b o, (s.heap.push { cls := .type "range", data := .fields #[.int lo t, .int hi u, .int 1 v] }).get? b = some o → h'.get? b = some o := hk
  have hlen : (rngV lo (hi - lo).toNat).length ≤ sizeLine := by
    unfold rngV sizeLine
    rw [List.length_map, List.length_range]; omega
  have new : ObjOk X.prog X.w (upd H (s.heap.push { cls := .type "range", data := .fields #[.int lo t, .int hi u, .int 1 v] }).objs.size (.lst (rngV lo (hi - lo).toNat))) h' (s.heap.push { cls := .type "range", data := .fields #[.int lo t, .int hi u, .int 1 v] }).objs.size (.lst (rngV lo (hi - lo).toNat)) :=
    ⟨hlen, acc.toList, c', hv, by simpa using hS⟩
  exact ⟨.ref (s.heap.push { cls := .type "range", data := .fields #[.int lo t, .int hi u, .int 1 v] }).objs.size, _, I1.laid (t' := tk') kp (Nat.le_refl _) new, rfl, q _ (I1.hok.fresh (Nat.le_refl _))⟩
end
theorem rng_rep {K : PySem.W.Frag} {H : Hp} {α : List Addr} (lo : Int) (n : Nat) : RepL K H α (rangeU lo n) (rngV lo n) := by
  unfold rangeU rngV
  generalize List.range n = ks
  induction ks with
  | nil => exact .nil
  | cons k ks ih => exact .cons (by unfold RepU; rfl) ih
end MR
set_option Elab.async false
set_option linter.all false
set_option maxRecDepth 100000
set_option maxHeartbeats 4000000
namespace MR
open PySem PyProof.Rows L2
theorem RepL.init {K : PySem.W.Frag} {H : Hp} {α : List Addr} : ∀ {us : List U} {xs : List V}, RepL K H α us xs → RepL K H α us.dropLast xs.dropLast
  | [], xs, r => by unfold RepL at r; subst r; exact .nil
  | [u], xs, r => by
    unfold RepL at r
    obtain ⟨x, xr, rfl, rx, r⟩ := r
    unfold RepL at r
    subst r
    exact .nil
  | u :: w :: us, xs, r => by
    unfold RepL at r
    obtain ⟨x, xr, rfl, rx, r⟩ := r
    have r' := r
    unfold RepL at r'
    obtain ⟨y, yr, rfl, ry, _⟩ := r'
    exact .cons rx (RepL.init r)
end MR
set_option Elab.async false
set_option linter.all false
set_option maxRecDepth 100000
set_option maxHeartbeats 4000000
namespace MR
open PySem PyProof.Rows L2
noncomputable def valU (kvs : List (Key × U)) (k : Key) : Option U := (kvs.find? fun kv => decide (kv.1 = k)).map (·.2)
noncomputable def putD (kvs : List (Key × U)) (k : Key) (v : U) : List (Key × U) :=
  if (kvs.any fun kv => decide (kv.1 = k)) = true then kvs.map (fun kv => if kv.1 = k then (kv.1, v) else kv) else kvs ++ [(k, v)]
section
variable {K : PySem.W.Frag} {H : Hp} {α : List Addr}
noncomputable def RepKV (K : PySem.W.Frag) (H : Hp) (α : List Addr) (kvs : List (Key × U)) (vs : List (Key × V)) : Prop := kvs.map (·.1) = vs.map (·.1) ∧ RepL K H α (kvs.map (·.2)) (vs.map (·.2))
theorem RepKV.nil : RepKV K H α [] [] := ⟨rfl, .nil⟩
theorem RepKV.cons {kv : Key × U} {kvs : List (Key × U)} {vs : List (Key × V)} (h : RepKV K H α (kv :: kvs) vs) : ∃ x vs', vs = (kv.1, x) :: vs' ∧ RepU K H α kv.2 x ∧ RepKV K H α kvs vs' := by
  obtain ⟨h1, h2⟩ := h
  cases vs with
  | nil => simp at h1
  | cons w vs' =>
    simp only [List.map_cons, List.cons.injEq] at h1
    rw [List.map_cons, List.map_cons] at h2
    unfold RepL at h2
    obtain ⟨x, xr, hx, rx, r⟩ := h2
    injection hx with e1 e2
    subst e1
    refine ⟨w.2, vs', by rw [h1.1], rx, h1.2, ?_⟩
    rw [e2]; exact r
theorem RepKV.mk {k : Key} {u : U} {x : V} {kvs : List (Key × U)} {vs : List (Key × V)} (r : RepU K H α u x) (h : RepKV K H α kvs vs) : RepKV K H α ((k, u) :: kvs) ((k, x) :: vs) :=
  ⟨by simp [h.1], by rw [List.map_cons, List.map_cons]; exact .cons r h.2⟩
theorem RepKV.val {k : Key} {u : U} : ∀ {kvs : List (Key × U)} {vs : List (Key × V)}, RepKV K H α kvs vs → valU kvs k = some u → ∃ x, valV vs k = some x ∧ RepU K H α u x
  | [], vs, _, e => by simp [valU] at e
  | kv :: kvs, vs, r, e => by
    obtain ⟨x, vs', rfl, rx, r'⟩ := r.cons
    unfold valU at e
    unfold valV
    rw [List.find?_cons] at e ⊢
    by_cases h : kv.1 = k
    · simp only [h, decide_true, Option.map_some] at e ⊢
      cases e
      exact ⟨x, rfl, rx⟩
    · simp only [h, decide_false] at e ⊢
      exact RepKV.val r' e
theorem RepKV.any {k : Key} : ∀ {kvs : List (Key × U)} {vs : List (Key × V)}, RepKV K H α kvs vs → (kvs.any fun kv => decide (kv.1 = k)) = (vs.any fun kv => decide (kv.1 = k))
  | [], vs, r => by
    obtain ⟨h1, _⟩ := r
    cases vs with
    | nil => rfl
    | cons _ _ => simp at h1
  | kv :: kvs, vs, r => by
    obtain ⟨x, vs', rfl, rx, r'⟩ := r.cons
    rw [List.any_cons, List.any_cons, RepKV.any r']
theorem RepKV.len {kvs : List (Key × U)} {vs : List (Key × V)} (r : RepKV K H α kvs vs) : kvs.length = vs.length := by
  have := congrArg List.length r.1
  simpa using this
theorem RepKV.upd {k : Key} {u : U} {x : V} (ru : RepU K H α u x) : ∀ {kvs : List (Key × U)} {vs : List (Key × V)}, RepKV K H α kvs vs → RepKV K H α (kvs.map fun kv => if kv.1 = k then (kv.1, u) else kv) (vs.map fun kv => if kv.1 = k then (kv.1, x) else kv)
  | [], vs, r => by
    obtain ⟨h1, _⟩ := r
    cases vs with
    | nil => exact .nil
    | cons _ _ => simp at h1
  | kv :: kvs, vs, r => by
    obtain ⟨y, vs', rfl, ry, r'⟩ := r.cons
    rw [List.map_cons, List.map_cons]
    by_cases h : kv.1 = k
    · rw [if_pos h, if_pos h]
      exact .mk ru (RepKV.upd ru r')
    · rw [if_neg h, if_neg h]
      exact .mk ry (RepKV.upd ru r')
theorem RepKV.add {k : Key} {u : U} {x : V} (ru : RepU K H α u x) : ∀ {kvs : List (Key × U)} {vs : List (Key × V)}, RepKV K H α kvs vs → RepKV K H α (kvs ++ [(k, u)]) (vs ++ [(k, x)])
  | [], vs, r => by
    obtain ⟨h1, _⟩ := r
    cases vs with
    | nil => exact .mk ru .nil
    | cons _ _ => simp at h1
  | kv :: kvs, vs, r => by
    obtain ⟨y, vs', rfl, ry, r'⟩ := r.cons
    exact .mk ry (RepKV.add ru r')
theorem RepKV.put {k : Key} {u : U} {x : V} {kvs : List (Key × U)} {vs : List (Key × V)} (ru : RepU K H α u x) (r : RepKV K H α kvs vs) : RepKV K H α (putD kvs k u) (putK vs k x) := by
  unfold putD putK
  rw [r.any]
  split
  · exact r.upd ru
  · exact r.add ru
theorem RepKV.mono {H' : Hp} {α' : List Addr} {kvs : List (Key × U)} {vs : List (Key × V)} (r : RepKV K H α kvs vs) (g : Gr H α H' α') : RepKV K H' α' kvs vs := ⟨r.1, r.2.mono g⟩
end
section
variable {X : Cx} {o i value : Expr} {pos pos' : Pos} {fo fi fv : FE}
end
end MR
set_option Elab.async false
set_option linter.all false
set_option maxRecDepth 100000
set_option maxHeartbeats 4000000
namespace MR
open PySem PyProof.Rows L2
theorem all0 {β : Type} {P : List β → Prop} (h : P []) (us : List β) (hl : us.length = 0) : P us := by
  cases us with
  | nil => exact h
  | cons => cases hl
theorem allS {β : Type} {n : Nat} {P : List β → Prop} (h : ∀ (a : β) (us : List β), us.length = n → P (a :: us)) (us : List β) (hl : us.length = n + 1) : P us := by
  cases us with
  | nil => cases hl
  | cons a us => exact h a us (Nat.succ.inj hl)
theorem all1 {β : Type} {P : List β → Prop} (h : ∀ a, P [a]) : ∀ us : List β, us.length = 1 → P us := allS fun a => all0 (h a)
theorem all2 {β : Type} {P : List β → Prop} (h : ∀ a b, P [a, b]) : ∀ us : List β, us.length = 2 → P us := allS fun a => all1 (h a)
theorem all3 {β : Type} {P : List β → Prop} (h : ∀ a b c, P [a, b, c]) : ∀ us : List β, us.length = 3 → P us := allS fun a => all2 (h a)
section
variable {X : Cx} {elts : List Expr} {x1 : Nat} {tpos : Pos}
end
end MR
set_option Elab.async false
set_option linter.all false
set_option maxRecDepth 100000
set_option maxHeartbeats 4000000
namespace MR
open PySem PySem.Spec PyProof.Rows L2
section
variable {X : Cx} {pins : List (Addr × Obj)} {σ : L2.St} {H H' : Hp} {s : Shared}
noncomputable def Thaw (H H' H2 : Hp) : Prop := ∀ b, H2 b = H' b ∨ ∃ o vs, H' b = some (.frz o (.dK vs)) ∧ H2 b = some (.dK vs) ∧ ∀ o u, H b ≠ some (.frz o u)
theorem Thaw.stay {H2 : Hp} (t : Thaw H H' H2) {b : Addr} {u : Option HO} (e : H' b = u) (n : ∀ o ks, u ≠ some (.frz o (.dK ks))) : H2 b = u := by
  rcases t b with z | ⟨o, vs, z, _⟩
  · rw [z]; exact e
  · rw [e] at z; exact absurd z (n _ _)
end
section
variable {K : PySem.W.Frag} {H H' : Hp} {α : List Addr}
mutual
theorem RepU.via (g : ∀ a xs, SqT K H a xs → SqT K H' a xs) : ∀ (u : U) (v : V), RepU K H α u v → RepU K H' α u v
  | .non, _, h => h
  | .bl _, _, h => h
  | .int _, _, h => h
  | .str _, _, h => h
  | .tup l, v, h => by
    unfold RepU at h ⊢
    obtain ⟨a, xs, e, s, r⟩ := h
    exact ⟨a, xs, e, g _ _ s, RepL.via g l xs r⟩
  | .ref n, v, h => by
    unfold RepU at h ⊢
    exact h
theorem RepL.via (g : ∀ a xs, SqT K H a xs → SqT K H' a xs) : ∀ (l : List U) (xs : List V), RepL K H α l xs → RepL K H' α l xs
  | [], xs, h => h
  | u :: l, xs, h => by
    unfold RepL at h ⊢
    obtain ⟨x, r, e, h1, h2⟩ := h
    exact ⟨x, r, e, RepU.via g u x h1, RepL.via g l r h2⟩
end
end
end MR
set_option Elab.async false
set_option linter.all false
set_option maxRecDepth 100000
set_option maxHeartbeats 4000000
namespace MR
open PySem PySem.Spec PyProof.Rows L2
structure DObj (P : Program) (w : World) (o : Obj) (kvs : List (Key × V)) (vs : List (Key × Value)) (ep : Nat) : Prop where
  rel : KV kvs vs
  at_ : ∀ (h : Heap) (d : Addr), h.get? d = some o → h.DictAt (mixKind P w) d vs ep
theorem KV.at_ : ∀ {kvs : List (Key × V)} {vs : List (Key × Value)} {i : Nat} {p : Key × Value}, KV kvs vs → vs[i]? = some p → ∃ q, kvs[i]? = some q ∧ q.1 = p.1 ∧ RelV q.2 p.2
  | _, _, i, p, .nil, e => by simp at e
  | _, _, 0, p, .cons r t, e => by simp at e; subst e; exact ⟨_, rfl, r⟩
  | _, _, i + 1, p, .cons r t, e => by simpa using KV.at_ (i := i) t (by simpa using e)
section
variable {P : Program} {w : World} {K : PySem.W.Frag} {d it : Addr} {o : Obj} {kvs : List (Key × V)} {vs : List (Key × Value)} {ep : Nat}
end
section
variable {X : Cx} {tg o e : Expr} {apos cpos : Pos} {td : TE}
structure M0 (X : Cx) (o : Expr) (m : Str) (apos cpos : Pos) : Prop where
  base : attributeBase o m X.env (eval o X.env) = eval o X.env
  few : ((backTo cpos (starEach [] X.env)).all (fun x => !x.1) && (backToKw cpos (keywordEach [] X.env)).all (fun x => x.1.isSome)
    && decide (([] : List Expr).length + ([] : List Keyword).length + (if ([] : List Keyword).isEmpty then 0 else 1) < 30)) = true
  line : (apos.endLine == cpos.line) = true
  trees : backTo cpos (starEach [] X.env) = []
end
section
variable {K : PySem.W.Frag} {H : Hp} {α : List Addr} {L : UH} {a : Addr} {ob : Obj}
end
section
variable {X : Cx} {tg o : Expr} {apos cpos : Pos} {fo : FE}
theorem find_any (k : Key) : ∀ kvs : List (Key × U), (kvs.find? fun kv => decide (kv.1 = k)).isSome = kvs.any fun kv => decide (kv.1 = k)
  | [] => rfl
  | kv :: kvs => by
    rw [List.find?_cons, List.any_cons]
    by_cases h : kv.1 = k
    · simp [h]
    · simp only [h, decide_false, Bool.false_or]
      exact find_any k kvs
theorem RepKV.some {K : PySem.W.Frag} {H : Hp} {α : List Addr} {kvs : List (Key × U)} {vs : List (Key × V)} (r : RepKV K H α kvs vs) (k : Key) : (valU kvs k).isSome = (valV vs k).isSome := by
  have h1 : (valU kvs k).isSome = kvs.any fun kv => decide (kv.1 = k) := by
    unfold valU
    rw [Option.isSome_map]
    exact find_any k kvs
  rw [h1, r.any, valV_any]
end
noncomputable def dropD (kvs : List (Key × U)) (k : Key) : List (Key × U) := kvs.filter fun kv => decide (kv.1 ≠ k)
theorem RepKV.drop {K : PySem.W.Frag} {H : Hp} {α : List Addr} (k : Key) : ∀ {kvs : List (Key × U)} {vs : List (Key × V)}, RepKV K H α kvs vs → RepKV K H α (dropD kvs k) (dropK vs k)
  | [], vs, r => by
    have := r.1
    cases vs with
    | nil => exact .nil
    | cons _ _ => simp at this
  | kv :: kvs, vs, r => by
    obtain ⟨x, vs', rfl, rx, r'⟩ := r.cons
    unfold dropD dropK
    rw [List.filter_cons, List.filter_cons]
    by_cases h : kv.1 = k
    · simp only [h, ne_eq, not_true_eq_false, decide_false, Bool.false_eq_true, if_false]
      exact RepKV.drop k r'
    · simp only [h, ne_eq, not_false_eq_true, decide_true, if_true]
      exact .mk rx (RepKV.drop k r')
end MR
set_option Elab.async false
set_option linter.all false
set_option maxRecDepth 100000
set_option maxHeartbeats 4000000
namespace ZT
open PySem PySem.Spec PyProof.Rows PySem.W
open Sem (wp)
section
variable {prog : Program} {w : World} {A : Around} {E : Value → Shared → Prop} {s : Shared} {T : String} {r d : Addr} {n : Nat} {P : Nat → Value → Prop} {OK : Heap → Prop}
end
end ZT
namespace MR
open PySem PySem.Spec PyProof.Rows PySem.Calls L2
section
variable {X : Cx} {o : Expr} {apos cpos p pos : Pos} {td : TE} {fo : FE}
end
end MR
set_option Elab.async false
set_option linter.all false
set_option maxRecDepth 100000
set_option maxHeartbeats 4000000
namespace MR
open PySem PySem.Spec PyProof.Rows L2
end MR
set_option Elab.async false
set_option linter.all false
set_option maxRecDepth 100000
set_option maxHeartbeats 4000000
namespace MR
open PySem PySem.Spec PyProof.Rows L2
section
variable {X : Cx} {o i e f : Expr} {pos apos cpos : Pos} {fo fi fe fx : FE}
end
end MR
set_option Elab.async false
set_option linter.all false
set_option maxRecDepth 100000
set_option maxHeartbeats 4000000
namespace MR
open PySem PySem.Spec PyProof.Rows PySem.Calls L2
section
variable {X : Cx}
noncomputable def tLRng2 (ta : TA) : TE := fun σ H Q => ta σ H fun vs H1 => ∃ i j : Int, vs = [.int i, .int j] ∧ (-(2 ^ 62) ≤ i ∧ i < 2 ^ 62 ∧ -(2 ^ 62) ≤ j ∧ j < 2 ^ 62 ∧ (j - i).toNat ≤ 1000000) ∧ ∀ l, H1 l = none → Q (.ref l) (upd H1 l (.lst (rngV i (j - i).toNat)))
theorem pe_lrng2 {a b : Expr} {ta : TA} {p p' pos pos' : Pos} (hc : X.calm = true) (hgL : Gl X "list") (hmL : X.mg "list" = none) (hg : Gl X "range") (hm : X.mg "range" = none) (ha : PA X [a, b] ta) (hs : starEach [a, b] X.env = [(false, eval a X.env), (false, eval b X.env)] := by rfl) (hs1 : starEach [b] X.env = [(false, eval b X.env)] := by rfl)
    (hs2 : starEach [.Call (.Name "range" p') [a, b] [] pos'] X.env = [(false, eval (.Call (.Name "range" p') [a, b] [] pos') X.env)] := by rfl) : PE X (.Call (.Name "list" p) [.Call (.Name "range" p') [a, b] [] pos'] [] pos) (tLRng2 ta) := by
  intro pins s σ H Q I h
  refine wpAny_Call_Name_kw (ld_blt I hgL hmL boot_listT ?_)
  refine PyProof.Rows.callWith_type1 ?_ hs2 rfl
  rw [hs2]
  refine Calls.spliced_cons ?_
  refine wpAny_Call_Name_kw (ld_blt I hg hm boot_range (PyProof.Rows.callWith_type1 (thn (ha pos' pins s σ H _ I h) fun us s1 ⟨vs, H1, I1, r1, q1⟩ => ?_) (by rw [hs, hs1]) (by rw [hs1]; rfl)))
  obtain ⟨i, j, rfl, ⟨i0, i1, j0, j1, hn⟩, q⟩ := q1
  cases r1 with
  | cons r rr =>
    cases rr with
    | cons r' rr =>
      cases rr
      obtain ⟨t, rfl⟩ := r
      obtain ⟨t', rfl⟩ := r'
      refine call_range_2 ?_
      refine Calls.spliced_nil ?_
      exact list_rng (lo := i) (hi := j) hc I1 i0 i1 j0 j1 hn q
end
noncomputable def fLRng2 (g : FA) : FE := fun δ L => (g δ L).bind fun p => match p.1 with
  | [.int i, .int j] => if -(2 ^ 62) ≤ i ∧ i < 2 ^ 62 ∧ -(2 ^ 62) ≤ j ∧ j < 2 ^ 62 ∧ (j - i).toNat ≤ 1000000 then some (.ref p.2.length, p.2 ++ [.lst (rangeU i (j - i).toNat)]) else none
  | _ => none
theorem pf_lrng2 {X : Cx} {a b : Expr} {g : FA} {p p' pos pos' : Pos} (hc : X.calm = true) (hgL : Gl X "list") (hmL : X.mg "list" = none) (hg : Gl X "range") (hm : X.mg "range" = none) (ha : PAF X [a, b] g) (hs : starEach [a, b] X.env = [(false, eval a X.env), (false, eval b X.env)] := by rfl) (hs1 : starEach [b] X.env = [(false, eval b X.env)] := by rfl)
    (hs2 : starEach [.Call (.Name "range" p') [a, b] [] pos'] X.env = [(false, eval (.Call (.Name "range" p') [a, b] [] pos') X.env)] := by rfl) : PEF X (.Call (.Name "list" p) [.Call (.Name "range" p') [a, b] [] pos'] [] pos) (fLRng2 g) := by
  refine PE.imp (pe_lrng2 hc hgL hmL hg hm ha hs hs1 hs2) ?_
  rintro σ H Q ⟨α, δ, L, A, S, z, L3, e, q⟩
  obtain ⟨⟨us, L1⟩, e1, e⟩ := Option.bind_eq_some_iff.mp e
  refine ⟨α, δ, L, A, S, us, L1, e1, fun xs H1 α1 g1 A1 r1 => ?_⟩
  simp only at e
  split at e
  · split at e
    · rename_i hj
      cases e
      obtain ⟨x, y, rfl, rx, ry⟩ := r1.two
      unfold RepU at rx ry
      subst rx
      subst ry
      refine ⟨_, _, rfl, hj, fun l hl => ?_⟩
      obtain ⟨g2, A2, r2⟩ := A1.lst (rng_rep (K := X.K) (H := H1) (α := α1) _ _) hl
      exact q _ _ _ (g1.trans g2) A2 r2
    · cases e
  · cases e
end MR
set_option Elab.async false
set_option linter.all false
set_option maxRecDepth 100000
set_option maxHeartbeats 4000000
namespace MR
open PySem PySem.Spec PyProof.Rows PySem.Calls L2
section
variable {X : Cx}
end
end MR
namespace MR
open PySem PySem.Spec PyProof.Rows PySem.Calls L2
end MR
set_option Elab.async false
set_option linter.all false
set_option maxRecDepth 100000
set_option maxHeartbeats 4000000
namespace MR
open PySem PySem.Spec PyProof.Rows PySem.Calls L2
section
variable {X : Cx}
inductive PEs (X : Cx) : List Expr → List TE → Prop
  | nil : PEs X [] []
  | cons {e : Expr} {t : TE} {es : List Expr} {ts : List TE} (h : PE X e t) (r : PEs X es ts) : PEs X (e :: es) (t :: ts)
end
inductive PFs (X : Cx) : List Expr → List FE → Prop
  | nil : PFs X [] []
  | cons {e : Expr} {f : FE} {es : List Expr} {fs : List FE} (h : PEF X e f) (r : PFs X es fs) : PFs X (e :: es) (f :: fs)
end MR
set_option Elab.async false
set_option linter.all false
set_option maxRecDepth 100000
set_option maxHeartbeats 1000000
namespace MR
open PySem PySem.Spec PyProof.Rows L2
noncomputable def XObj (e Ca : Addr) (dd : Option Addr) (h : Heap) (vs : Array Value) : Prop := ∃ o : Obj, h.get? e = some o ∧ o.cls = .ref Ca ∧ o.dict = dd ∧ o.data = .fields vs ∧ 1 < vs.size ∧ o.slots = #[]
noncomputable def Tra (N : Nat) (e Ca : Addr) (dd : Option Addr) (fl : Value) (h : Heap) : Prop := ∃ vs T oT ts, XObj e Ca dd h vs ∧ vs[1]? = some (.ref T) ∧ N ≤ T ∧ T ≠ e ∧ h.get? T = some oT ∧ oT.data = .fields ts ∧ ts[3]? = some fl
noncomputable def Raw (e Ca : Addr) (dd : Option Addr) (h : Heap) : Prop := ∃ vs, XObj e Ca dd h vs ∧ vs[1]? = some .none
noncomputable def Fly (N : Nat) (e Ca : Addr) (dd : Option Addr) (h : Heap) : Prop := N ≤ h.objs.size ∧ (Raw e Ca dd h ∨ ∃ fl, Tra N e Ca dd fl h)
theorem XObj.excIs {e Ca : Addr} {dd : Option Addr} {h : Heap} {vs : Array Value} (x : XObj e Ca dd h vs) : ExcIs e Ca dd false h := by
  obtain ⟨o, h1, h2, h3, h4, h5, h6⟩ := x
  exact ⟨o, vs, h1, h2, h3, h4, h5, h6, fun z => nomatch z⟩
theorem Fly.excIs {N : Nat} {e Ca : Addr} {dd : Option Addr} {h : Heap} (x : Fly N e Ca dd h) : ExcIs e Ca dd false h := by
  rcases x.2 with ⟨vs, q, _⟩ | ⟨_, vs, _, _, _, q, _⟩
  · exact q.excIs
  · exact q.excIs
theorem Tra.excIs {N : Nat} {e Ca : Addr} {dd : Option Addr} {fl : Value} {h : Heap} (x : Tra N e Ca dd fl h) : ExcIs e Ca dd false h := by
  obtain ⟨vs, _, _, _, q, _⟩ := x
  exact q.excIs
structure Stp (N : Nat) (fs : List Addr) (e : Addr) (h h' : Heap) : Prop where
  keep : ∀ b o, b < N → b ∉ fs → b ≠ e → h.get? b = some o → h'.get? b = some o
  slot : ∀ b o, b ∈ fs → h.get? b = some o → ∃ sl, h'.get? b = some { o with slots := sl }
  all : ∀ b o, h.get? b = some o → ∃ o', h'.get? b = some o'
  sz : h.objs.size ≤ h'.objs.size
theorem Stp.refl {N : Nat} {fs : List Addr} {e : Addr} {h : Heap} : Stp N fs e h h := ⟨fun _ _ _ _ _ q => q, fun b o _ q => ⟨o.slots, q⟩, fun _ o q => ⟨o, q⟩, Nat.le_refl _⟩
theorem Stp.trans {N : Nat} {fs : List Addr} {e : Addr} {h h1 h2 : Heap} (x : Stp N fs e h h1) (y : Stp N fs e h1 h2) : Stp N fs e h h2 :=
  ⟨fun b o l n z q => y.keep b o l n z (x.keep b o l n z q), fun b o m q => let ⟨_, q1⟩ := x.slot b o m q; let ⟨sl, q2⟩ := y.slot b _ m q1; ⟨sl, q2⟩, fun b o q => let ⟨o1, q1⟩ := x.all b o q; y.all b o1 q1, Nat.le_trans x.sz y.sz⟩
section
variable {M : Model} {A : Around} {E : Value → Shared → Prop} {s : Shared} {base : Heap} {N : Nat} {env : PySem.Env} {outer : List PySem.Env} {L e Ca : Addr} {dd : Option Addr}
end
end MR
set_option Elab.async false
set_option linter.all false
set_option maxRecDepth 100000
set_option maxHeartbeats 1000000
namespace MR
open PySem PySem.Spec PyProof.Rows L2
theorem hok_stp {P : Program} {w : World} {H : Hp} {h h' : Heap} {N : Nat} {fs : List Addr} {e Ca : Addr} {dd : Option Addr} (ok : HOk P w H h) (hf : ∀ b ∈ fs, H b = none) (tr : ∀ b o, H b = some o → b < N) (S : Stp N fs e h h')
    (me : H e = some (.ext (ExcIs e Ca dd false))) (x : ExcIs e Ca dd false h') : HOk P w H h' := fun a o q => by
  by_cases ha : a = e
  · subst ha
    rw [me] at q
    cases q
    obtain ⟨o, vs, h1, r⟩ := id x
    refine ⟨x, ⟨o, h1⟩, fun h1 h2 ⟨o1, ws, q1, r1⟩ k => ⟨o1, ws, k _ q1, r1⟩⟩
  · refine (ok a o q).stay (fun b u hb z => ?_) (fun _ z => z) fun _ _ z => z
    have hbt : ∃ ob, H b = some ob := by
      rcases hb with hb | hb
      · exact ⟨o, by rw [hb]; exact q⟩
      · exact ⟨_, hb⟩
    obtain ⟨ob, hob⟩ := hbt
    refine S.keep b u (tr b ob hob) (fun m => by rw [hf b m] at hob; cases hob) ?_ z
    rintro rfl
    rcases hb with hb | hb
    · exact ha hb.symm
    · rw [me] at hb; cases hb
structure Bd (X : Cx) (pins : List (Addr × Obj)) (N : Nat) : Prop where
  s0 : X.s₀.heap.objs.size ≤ N
  lo : X.env.locals < N
  ce : ∀ x c, X.env.cells.lookup x = some c → c < N
  pi : ∀ p ∈ X.pn ++ pins, p.1 < N
theorem Bd.of {X : Cx} {pins : List (Addr × Obj)} {σ : L2.St} {H : Hp} {s : Shared} {N : Nat} (I : L2.Inv X pins σ H s) (h : s.heap.objs.size ≤ N) : Bd X pins N :=
  ⟨Nat.le_trans I.sz h, Nat.lt_of_lt_of_le I.lt h, fun x c q => by
    obtain ⟨v, o, ho, _⟩ := I.cell x c q
    exact Nat.lt_of_lt_of_le (Heap.lt_size ho) h, fun p hp => Nat.lt_of_lt_of_le (Heap.lt_size (I.pin p hp).1) h⟩
structure FlX (X : Cx) (pins : List (Addr × Obj)) (σ : L2.St) (H : Hp) (e Ca : Addr) (dd : Option Addr) (N : Nat) (s : Shared) : Prop where
  inv : L2.Inv X pins σ H s
  bd : Bd X pins N
  fly : Fly N e Ca dd s.heap
  tr : ∀ b o, H b = some o → b < N
  me : H e = some (.ext (ExcIs e Ca dd false))
section
variable {X : Cx} {pins : List (Addr × Obj)} {σ : L2.St} {H : Hp} {s : Shared} {e Ca : Addr} {dd : Option Addr} {N : Nat} {h' : Heap}
theorem FlX.stk (F : FlX X pins σ H e Ca dd N s) : ∀ b ∈ frs X.stack, H b = none := F.inv.stkFree
theorem Inv.stepX {t' : Nat} (I : L2.Inv X pins σ H s) (bd : Bd X pins N) (tr : ∀ b o, H b = some o → b < N) (me : H e = some (.ext (ExcIs e Ca dd false))) (S : Stp N (frs X.stack) e s.heap h') (fl : ExcIs e Ca dd false h') : L2.Inv X pins σ H { s with heap := h', toks := t' } := by
  refine I.call (g' := s.gens) (d' := s.drawn) (t' := t') (h' := h') (ch := (List.range s.heap.objs.size).filter (N ≤ ·)) ⟨fun b o q n hb hx => ?_, fun b o q n hb hx => S.slot b o hb q, fun _ _ _ n _ => n, fun b o q _ => S.all b o q, fun _ _ z => z, fun _ _ _ z => z, fun b ps z => ⟨#[], by rw [z]; simp⟩⟩ (hok_stp I.hok I.stkFree tr S me fl) I.bare (fun b hb => ?_)
  · refine S.keep b o ?_ hb (fun z => by rw [z, me] at n; cases n) q
    by_cases hl : b < N
    · exact hl
    · exact absurd (List.mem_filter.mpr ⟨List.mem_range.mpr (Heap.lt_size q), by simpa using hl⟩) hx
  · have hb : N ≤ b := by simpa using (List.mem_filter.mp hb).2
    refine ⟨.inr (Nat.le_trans bd.s0 hb), fun z => absurd bd.lo (by rw [← z]; exact Nat.not_lt.mpr hb), fun x c q z => absurd (bd.ce x c q) (by rw [z]; exact Nat.not_lt.mpr hb), fun p hp z => absurd (bd.pi p hp) (by rw [z]; exact Nat.not_lt.mpr hb)⟩
theorem FlX.step (F : FlX X pins σ H e Ca dd N s) (S : Stp N (frs X.stack) e s.heap h') (fl : Fly N e Ca dd h') : FlX X pins σ H e Ca dd N { s with heap := h' } :=
  ⟨Inv.stepX (t' := s.toks) F.inv F.bd F.tr F.me S fl.excIs, F.bd, fl, F.tr, F.me⟩
end
noncomputable def CFl (P : Program) (w : World) (K : PySem.W.Frag) (outer : List PySem.Env) (H : Hp) (α : List Addr) (s : Shared) (n : Nat) (L' : UH) (e : Value) (s' : Shared) : Prop :=
  ∃ ea Ca dd N H' α', e = .ref ea ∧ s'.os = s.os ∧ AllBare s'.gens ∧ Un (frs outer) [] H H' s.heap s'.heap ∧ HOk P w H' s'.heap ∧ s.heap.objs.size ≤ N ∧ Fly N ea Ca dd s'.heap ∧ (∀ b o, H' b = some o → b < N) ∧
    H' ea = some (.ext (ExcIs ea Ca dd false)) ∧ Gr H α H' α' ∧ Abs K H' α' L' ∧ α'[n]? = some ea
noncomputable abbrev XN := List U → UH → Option (Nat × UH)
structure FnX (P : Program) (w : World) (K : PySem.W.Frag) (mg : Str → Option Value) (base : Heap) (k : Nat) (f : Addr) (fd : FuncData) (ps : List Str) (x : XN) : Prop where
  run : ∀ (A : Around) (outer : List PySem.Env) (s : Shared) (H : Hp) (args : Args) (us : List Value) (vs : List V) (α : List Addr) (L : UH) (ws : List U) (n : Nat) (L' : UH), Room k A → Env0 P w K mg base A outer s H → BindsTo s fd args (ps.zip us) → Vals vs us →
    Abs K H α L → RepL K H α ws vs → ws.length = ps.length → x ws L = some (n, L') → codeAny (model P w) A (.call (.ref f) args) (fun r s' => ∃ e, r = .error e ∧ CFl P w K outer H α s n L' e s') s
noncomputable abbrev XS := UE → UH → Option (Nat × UE × UH)
noncomputable abbrev XE := UE → UH → Option (Nat × UH)
noncomputable def FXP (X : Cx) (pins : List (Addr × Obj)) (H : Hp) (α : List Addr) (n : Nat) (δ' : UE) (L' : UH) (e : Value) (s' : Shared) : Prop :=
  ∃ ea Ca dd N σ' H' α', e = .ref ea ∧ FlX X pins σ' H' ea Ca dd N s' ∧ Gr H α H' α' ∧ Abs X.K H' α' L' ∧ RepS X.K H' α' δ' σ' ∧ α'[n]? = some ea
theorem FXP.from {X : Cx} {pins : List (Addr × Obj)} {H H1 : Hp} {α α1 : List Addr} {n : Nat} {δ' : UE} {L' : UH} {e : Value} {s' : Shared} (g : Gr H α H1 α1) (h : FXP X pins H1 α1 n δ' L' e s') : FXP X pins H α n δ' L' e s' := by
  obtain ⟨ea, Ca, dd, N, σ', H', α', h1, h2, h3, r⟩ := h
  exact ⟨ea, Ca, dd, N, σ', H', α', h1, h2, g.trans h3, r⟩
section
variable {X : Cx} {e : Expr} {es : List Expr} {st : Stmt} {pins : List (Addr × Obj)} {s : Shared} {σ : L2.St} {H : Hp} {α : List Addr} {δ : UE} {L L' : UH} {E : Value → Shared → Prop}
theorem PEF.go {f : FE} {u : U} {Q : Value → Shared → Prop} (h : PEF X e f) (hx : ∀ e s, X.xe e s → False) (I : L2.Inv X pins σ H s) (A : Abs X.K H α L) (S : RepS X.K H α δ σ) (hf : f δ L = some (u, L'))
    (q : ∀ x v H' α' s', L2.Inv X pins σ H' s' → Gr H α H' α' → Abs X.K H' α' L' → RepU X.K H' α' u v → RelV v x → Q x s') : wpAny (model X.prog X.w) X.A (eval e X.env) Q E s :=
  wpAny_mono (h pins s σ H (fun v H' => ∃ α', Gr H α H' α' ∧ Abs X.K H' α' L' ∧ RepU X.K H' α' u v) I ⟨α, δ, L, A, S, u, L', hf, fun v H' α' g A' r => ⟨α', g, A', r⟩⟩) (fun x s' ⟨v, H', I', rv, α', g, A', r⟩ => q x v H' α' s' I' g A' r rv) fun _ _ z => (hx _ _ z).elim
theorem PTF.go {f : FT} {b : Bool} {Q : Bool → Shared → Prop} (h : PTF X e f) (hx : ∀ e s, X.xe e s → False) (I : L2.Inv X pins σ H s) (A : Abs X.K H α L) (S : RepS X.K H α δ σ) (hf : f δ L = some (b, L'))
    (q : ∀ H' α' s', L2.Inv X pins σ H' s' → Gr H α H' α' → Abs X.K H' α' L' → Q b s') : wpAny (model X.prog X.w) X.A (isTrue e X.env (eval e X.env)) Q E s :=
  wpAny_mono (h pins s σ H (fun b' H' => b' = b ∧ ∃ α', Gr H α H' α' ∧ Abs X.K H' α' L') I ⟨α, δ, L, A, S, b, L', hf, fun H' α' g A' => ⟨rfl, α', g, A'⟩⟩) (fun x s' ⟨H', I', hb, α', g, A'⟩ => by subst hb; exact q H' α' s' I' g A') fun _ _ z => (hx _ _ z).elim
theorem PAF.go {f : FA} {us : List U} {pos : Pos} {Q : List Value → Shared → Prop} (h : PAF X es f) (hx : ∀ e s, X.xe e s → False) (I : L2.Inv X pins σ H s) (A : Abs X.K H α L) (S : RepS X.K H α δ σ) (hf : f δ L = some (us, L'))
    (q : ∀ xs vs H' α' s', L2.Inv X pins σ H' s' → Gr H α H' α' → Abs X.K H' α' L' → RepL X.K H' α' us vs → Vals vs xs → Q xs s') : wpAny (model X.prog X.w) X.A (spliced (backTo pos (starEach es X.env))) Q E s :=
  wpAny_mono (h pos pins s σ H (fun vs H' => ∃ α', Gr H α H' α' ∧ Abs X.K H' α' L' ∧ RepL X.K H' α' us vs) I ⟨α, δ, L, A, S, us, L', hf, fun vs H' α' g A' r => ⟨α', g, A', r⟩⟩) (fun x s' ⟨vs, H', I', rv, α', g, A', r⟩ => q x vs H' α' s' I' g A' r rv) fun _ _ z => (hx _ _ z).elim
end
section
variable {X : Cx} {e : Expr} {es : List Expr} {st : Stmt} {rest : List Stmt} {pos : Pos}
end
section
variable {X : Cx} {e o : Expr} {es : List Expr} {p pos apos : Pos} {x m C : Str} {k n : Nat} {f fa Ca : Addr} {fd : FuncData} {ps : List Str} {F : XN} {g : FA} {fo : FE}
end
section
variable {P : Program} {w : World} {K : PySem.W.Frag} {mg : Str → Option Value} {base : Heap}
end
end MR
set_option Elab.async false
set_option linter.all false
set_option maxRecDepth 100000
set_option maxHeartbeats 1000000
namespace MR
open PySem PySem.Spec PyProof.Rows L2
noncomputable def bmV : List Value := [.type "ValueError", .type "Exception", .type "BaseException", .type "object"]
noncomputable def excI (K : PySem.W.Frag) (C : Addr) : Bool := match K.lookup C with
  | some ⟨.type "type", _, .cls cd, sl⟩ => (match cd.mro, sl.toList with
    | .ref D :: bm, [_, _, _, _, some (.builtin n), _] => D == C && n == "ValueError.__new__" && !cd.hasDel && PySem.W.tailIn K bmV bm
    | _, _ => false)
  | _ => false
section
variable {prog : Program} {w : World} {A : Around} {E : Value → Shared → Prop} {K : PySem.W.Frag} {C f : Addr} {rest : List Value}
end
end MR
set_option Elab.async false
set_option linter.all false
set_option maxRecDepth 100000
set_option maxHeartbeats 1000000
namespace MR
open PySem PySem.Spec PyProof.Rows L2
structure MkX (K : PySem.W.Frag) (C f : Addr) : Prop where
  ex : excI K C = true
  init : PySem.W.findIn K (.ref C) "__init__" = some (some (.ref f))
  fn : PySem.W.isFn K (.ref f) = true
  kp : PySem.W.keepIn K (.ref C) = true
section
variable {X : Cx} {k n : Nat} {f Ca : Addr} {fd : FuncData} {ps : List Str} {sp : Sp} {C x : Str} {p pos apos : Pos} {e : Expr} {es : List Expr} {t : TA}
end
noncomputable def bInit (K : PySem.W.Frag) (B : Addr) : Bool := match PySem.W.findCls K (.ref B) (.type "type") "__init__" with
  | some (.val (.builtin id)) => id == "ValueError.__init__"
  | _ => false
structure BInit (K : PySem.W.Frag) (B : Addr) : Prop where
  sp : PySem.W.specialIn K (.ref B) "__getattribute__" = some (some (.builtin "type.__getattribute__"))
  rd : PySem.W.readsIn K B (.type "type") = true
  fd : bInit K B = true
theorem BInit.found {K : PySem.W.Frag} {B : Addr} (b : BInit K B) : PySem.W.findCls K (.ref B) (.type "type") "__init__" = some (.val (.builtin "ValueError.__init__")) := by
  have h := b.fd
  unfold bInit at h
  split at h
  · rename_i id q
    rw [q, beq_iff_eq.mp h]
  · cases h
section
variable {X : Cx} {B : Addr} {x : Str} {p pos apos : Pos} {a b : Expr} {t : TA}
noncomputable def AllX (K : PySem.W.Frag) (Cs : List Str) : Prop := ∀ C ∈ Cs, ∀ Ca, PySem.W.nsIn K mainGlobals C = some (some (.ref Ca)) → excI K Ca = true
end
end MR
set_option Elab.async false
set_option linter.all false
set_option maxRecDepth 100000
set_option maxHeartbeats 1000000
namespace MR
open PySem PySem.Spec PyProof.Rows L2
section
variable {X : Cx} {e : Expr} {pos : Pos} {fe : FE} {Cs : List Str}
end
end MR
set_option Elab.async false
set_option linter.all false
set_option maxRecDepth 100000
set_option maxHeartbeats 1000000
namespace MR
open PySem PySem.Spec PyProof.Rows L2
noncomputable def AllM (K : PySem.W.Frag) (Cs : List Str) (D : Addr) : Prop := ∀ C ∈ Cs, ∀ Ca, PySem.W.nsIn K mainGlobals C = some (some (.ref Ca)) → PySem.W.exmOne K (.ref Ca) (.ref D) = some true
section
variable {X : Cx} {body suite : List Stmt} {b0 : Stmt} {x n : Str} {np hpos pos : Pos} {D : Addr} {Cs : List Str} {fb fs : FS} {xb : XS} {i : Nat}
end
end MR
set_option Elab.async false
set_option linter.all false
set_option maxRecDepth 100000
set_option maxHeartbeats 1000000
namespace MR
open PySem PySem.Spec PyProof.Rows L2
noncomputable def excA (K : PySem.W.Frag) (C : Addr) : Bool := excI K C && PySem.W.findIn K (.ref C) "__getattribute__" == some (some (.builtin "BaseException.__getattribute__")) && PySem.W.findIn K (.ref C) "__getattr__" == some none &&
  PySem.W.subIn K (.ref C) (.type "BaseException") == some true && PySem.W.findIn K (.ref C) "__class__" == some (some (.builtin "object.__class__")) && PySem.W.mroIn K C (.type "object") == some true && PySem.W.hasDictIn K C &&
  PySem.W.specialIn K (.builtin "object.__class__") "__get__" == some (some (.builtin "getset_descriptor.__get__")) && PySem.W.takesIn K (.builtin "object.__class__") == some true
structure ExcA (K : PySem.W.Frag) (C : Addr) : Prop where
  ex : excI K C = true
  ga : PySem.W.findIn K (.ref C) "__getattribute__" = some (some (.builtin "BaseException.__getattribute__"))
  gk : PySem.W.findIn K (.ref C) "__getattr__" = some none
  sb : PySem.W.subIn K (.ref C) (.type "BaseException") = some true
  cl : PySem.W.findIn K (.ref C) "__class__" = some (some (.builtin "object.__class__"))
  mo : PySem.W.mroIn K C (.type "object") = some true
  hd : PySem.W.hasDictIn K C = true
  sg : PySem.W.specialIn K (.builtin "object.__class__") "__get__" = some (some (.builtin "getset_descriptor.__get__"))
  tk : PySem.W.takesIn K (.builtin "object.__class__") = some true
theorem excA_of {K : PySem.W.Frag} {C : Addr} (h : excA K C = true) : ExcA K C := by
  unfold excA at h
  simp only [Bool.and_eq_true, beq_iff_eq] at h
  obtain ⟨⟨⟨⟨⟨⟨⟨⟨a, b⟩, c⟩, d⟩, e⟩, f⟩, g⟩, i⟩, j⟩ := h
  exact ⟨a, b, c, d, e, f, g, i, j⟩
noncomputable def isX (C D : Str) : Bool := C == D || D == "BelowError" || D == "ValueError"
noncomputable def clsV (K : PySem.W.Frag) (D : Str) : Option Value := match PySem.W.nsIn K mainGlobals D with
  | some (some (.ref a)) => some (.ref a)
  | some none => if D == "ValueError" then some (.type "ValueError") else none
  | _ => none
noncomputable def xTab (K : PySem.W.Frag) (Cs Ds : List Str) : Bool := Cs.all fun C => match PySem.W.nsIn K mainGlobals C with
  | some (some (.ref a)) => excA K a && Ds.all fun D => match clsV K D with
    | some v => PySem.W.kitOne K (.ref a) v == some (isX C D) && (!isX C D || PySem.W.exmOne K (.ref a) v == some true)
    | none => false
  | _ => false
section
variable {K : PySem.W.Frag} {Cs Ds : List Str}
theorem xTab_at (T : xTab K Cs Ds = true) {C : Str} {Ca : Addr} (hC : C ∈ Cs) (hn : PySem.W.nsIn K mainGlobals C = some (some (.ref Ca))) : ExcA K Ca ∧ ∀ D ∈ Ds, ∃ v, clsV K D = some v ∧ PySem.W.kitOne K (.ref Ca) v = some (isX C D) ∧ (isX C D = true → PySem.W.exmOne K (.ref Ca) v = some true) := by
  have h := List.all_eq_true.mp T C hC
  rw [hn] at h
  simp only [Bool.and_eq_true] at h
  refine ⟨excA_of h.1, fun D hD => ?_⟩
  have h2 := List.all_eq_true.mp h.2 D hD
  split at h2
  · rename_i v hv
    simp only [Bool.and_eq_true, beq_iff_eq, Bool.or_eq_true, Bool.not_eq_true'] at h2
    exact ⟨v, hv, h2.1, fun z => h2.2.resolve_left (by rw [z]; exact Bool.noConfusion)⟩
  · cases h2
theorem AllX.of (T : xTab K Cs Ds = true) : AllX K Cs := fun C hC Ca hn => (xTab_at T hC hn).1.ex
theorem clsV_own {D : Str} {Da : Addr} (h : PySem.W.nsIn K mainGlobals D = some (some (.ref Da))) : clsV K D = some (.ref Da) := by unfold clsV; rw [h]
theorem AllM.of {D : Str} {Da : Addr} (T : xTab K Cs Ds = true) (hD : D ∈ Ds) (hn : PySem.W.nsIn K mainGlobals D = some (some (.ref Da))) (ha : Cs.all (fun C => isX C D) = true) : AllM K Cs Da := fun C hC Ca hc => by
  obtain ⟨v, hv, _, h2⟩ := (xTab_at T hC hc).2 D hD
  rw [clsV_own hn] at hv
  cases hv
  exact h2 (List.all_eq_true.mp ha C hC)
theorem AllM.sub {Es : List Str} {D : Str} {Da : Addr} (T : xTab K Cs Ds = true) (hs : ∀ C ∈ Es, C ∈ Cs) (hD : D ∈ Ds) (hn : PySem.W.nsIn K mainGlobals D = some (some (.ref Da))) (ha : Es.all (fun C => isX C D) = true) : AllM K Es Da := fun C hC Ca hc => by
  obtain ⟨v, hv, _, h2⟩ := (xTab_at T (hs C hC) hc).2 D hD
  rw [clsV_own hn] at hv
  cases hv
  exact h2 (List.all_eq_true.mp ha C hC)
end
section
variable {prog : Program} {w : World} {A : Around} {E : Value → Shared → Prop} {s : Shared} {K : PySem.W.Frag} {x C : Addr} {ox : Obj} {od : Option Obj} {name : Str}
end
section
variable {X : Cx} {Cs Ds : List Str}
inductive Names (X : Cx) : List Str → List Addr → List Expr → Prop where
  | nil : Names X [] [] []
  | cons {D : Str} {Da : Addr} {Dn : List Str} {ds : List Addr} {es : List Expr} {p2 : Pos} (hns : PySem.W.nsIn X.K mainGlobals D = some (some (.ref Da))) (hg2 : Gl X D) (hm2 : X.mg D = some (.ref Da)) (t : Names X Dn ds es)
      (hdb : (D == ("__debug__" : Str)) = false := by decide) (hs : starEach (.Name D p2 :: es) X.env = (false, eval (.Name D p2) X.env) :: starEach es X.env := by rfl) : Names X (D :: Dn) (Da :: ds) (.Name D p2 :: es)
theorem Names.pa {Dn : List Str} {ds : List Addr} {es : List Expr} (h : Names X Dn ds es) : PA X es (fun _ H Q => Q (ds.map V.ref) H) := by
  induction h with
  | nil => exact pa_nil
  | cons hns hg2 hm2 t hdb hs ih => exact pa_cons (pe_glob hg2 hm2 (v := .ref _) rfl hdb) ih hs
theorem Names.len {Dn : List Str} {ds : List Addr} {es : List Expr} (h : Names X Dn ds es) : ds.length = Dn.length := by
  induction h with
  | nil => rfl
  | cons _ _ _ _ _ _ ih => simp [ih]
end
end MR
set_option Elab.async false
set_option linter.all false
set_option maxRecDepth 100000
set_option maxHeartbeats 1000000
namespace MR
open PySem PySem.Spec PyProof.Rows L2
section
variable {X : Cx} {e : Expr} {pos pos' : Pos} {x : Str} {xe : XE}
end
end MR
set_option Elab.async false
set_option linter.all false
set_option maxRecDepth 100000
set_option maxHeartbeats 1000000
namespace MR
open PySem PySem.Spec PyProof.Rows L2
section
variable {X : Cx}
end
section
variable {prog : Program} {w : World} {A : Around} {E : Value → Shared → Prop} {s : Shared} {K : PySem.W.Frag} {x C : Addr} {name : Str} {v : Value} {vs : Array Value}
end
section
variable {X : Cx} {o e value : Expr} {f : Str} {p pos pos' : Pos} {to tv : TE}
end
end MR
set_option Elab.async false
set_option linter.all false
set_option maxRecDepth 100000
set_option maxHeartbeats 1000000
namespace MR
open PySem PySem.Spec PyProof.Rows L2
section
variable {X : Cx} {o e value : Expr} {f : Str} {p pos pos' : Pos} {fo fv fe : FE} {Cs Ds : List Str}
end
end MR
set_option Elab.async false
set_option linter.all false
set_option maxRecDepth 100000
set_option maxHeartbeats 4000000
namespace MR
open PySem PySem.Spec PyProof.Rows PySem.Calls L2
section
variable {X : Cx}
end
end MR
set_option Elab.async false
set_option linter.all false
set_option maxRecDepth 100000
set_option maxHeartbeats 1000000
namespace SO
open PySem PySem.W PyProof.Rows
def On {α : Type} (n : Nat) (lt : Nat → Nat → Bool) (P : α → Prop) : KasT α → Prop
  | .ret a => P a
  | .ask i j k => i < n ∧ j < n ∧ On n lt P (k (lt i j))
theorem On.bind {α β : Type} {n : Nat} {lt : Nat → Nat → Bool} {P : α → Prop} {Q : β → Prop} {f : α → KasT β} (hf : ∀ a, P a → On n lt Q (f a)) : ∀ {t : KasT α}, On n lt P t → On n lt Q (t.bind f)
  | .ret a, h => hf a h
  | .ask i j k, h => ⟨h.1, h.2.1, On.bind hf h.2.2⟩
theorem On.imp {α : Type} {n : Nat} {lt : Nat → Nat → Bool} {P Q : α → Prop} (hf : ∀ a, P a → Q a) : ∀ {t : KasT α}, On n lt P t → On n lt Q t
  | .ret a, h => hf a h
  | .ask i j k, h => ⟨h.1, h.2.1, On.imp hf h.2.2⟩
theorem On.wp {α : Type} {n : Nat} {lt : Nat → Nat → Bool} {P : α → Prop} {cmp : Nat → Nat → (Bool → Shared → Prop) → Shared → Prop} {s : Shared} {Q : α → Shared → Prop} (hc : ∀ i j C, i < n → j < n → C (lt i j) s → cmp i j C s) (hq : ∀ a, P a → Q a s) : ∀ {t : KasT α}, On n lt P t → t.kasWp cmp Q s
  | .ret a, h => hq a h
  | .ask i j k, h => hc i j _ h.1 h.2.1 (On.wp hc hq h.2.2)
structure Wo (lt : Nat → Nat → Bool) : Prop where
  asym : ∀ i j, lt i j = true → lt j i = false
  tr : ∀ i j k, lt j i = false → lt k j = false → lt k i = false
section
variable {lt : Nat → Nat → Bool} {n : Nat}
def Le (lt : Nat → Nat → Bool) (i j : Nat) : Prop := lt j i = false
def Eqv (lt : Nat → Nat → Bool) (i j : Nat) : Prop := Le lt i j ∧ Le lt j i
theorem Wo.refl (W : Wo lt) (i : Nat) : Le lt i i := by
  unfold Le
  cases h : lt i i with
  | false => rfl
  | true => have := W.asym i i h; rw [h] at this; cases this
theorem Wo.le (W : Wo lt) {i j : Nat} (h : lt i j = true) : Le lt i j := W.asym i j h
theorem Wo.trans (W : Wo lt) {i j k : Nat} (h1 : Le lt i j) (h2 : Le lt j k) : Le lt i k := W.tr i j k h1 h2
def at0 (p : Array Nat) (i : Nat) : Nat := p.getD i 0
theorem at0_of {p q : Array Nat} {i j : Nat} (h : p[i]? = q[j]?) : at0 p i = at0 q j := by
  unfold at0
  rw [Array.getD_eq_getD_getElem?, Array.getD_eq_getD_getElem?, h]
structure Pm (n : Nat) (p : Array Nat) : Prop where
  size : p.size = n
  perm : p.toList.Perm (List.range n)
theorem Pm.bd {p : Array Nat} (h : Pm n p) (h0 : 0 < n) (i : Nat) : at0 p i < n := by
  unfold at0
  rw [Array.getD_eq_getD_getElem?]
  cases hi : p[i]? with
  | none => exact h0
  | some x =>
    have : x ∈ p.toList := by
      rw [← Array.getElem?_toList] at hi
      exact List.mem_of_getElem? hi
    exact List.mem_range.mp (h.perm.mem_iff.mp this)
def Up (lt : Nat → Nat → Bool) (p : Array Nat) (k : Nat) : Prop := ∀ i j, i ≤ j → j < k → Le lt (at0 p i) (at0 p j)
def Dn (lt : Nat → Nat → Bool) (p : Array Nat) (k : Nat) : Prop := ∀ i j, i ≤ j → j < k → Le lt (at0 p j) (at0 p i)
theorem Up.one (W : Wo lt) (p : Array Nat) : Up lt p 1 := fun i j h1 h2 => by
  have : i = j := by omega
  subst this; exact W.refl _
theorem Up.snoc (W : Wo lt) {p : Array Nat} {m : Nat} (h : Up lt p m) (hm : 1 ≤ m) (hl : Le lt (at0 p (m - 1)) (at0 p m)) : Up lt p (m + 1) := fun i j h1 h2 => by
  by_cases hj : j < m
  · exact h i j h1 hj
  · have hj : j = m := by omega
    subst hj
    by_cases hi : i = j
    · subst hi; exact W.refl _
    · exact W.trans (h i (j - 1) (by omega) (by omega)) hl
theorem Dn.snoc (W : Wo lt) {p : Array Nat} {m : Nat} (h : Dn lt p m) (hm : 1 ≤ m) (hl : Le lt (at0 p m) (at0 p (m - 1))) : Dn lt p (m + 1) := fun i j h1 h2 => by
  by_cases hj : j < m
  · exact h i j h1 hj
  · have hj : j = m := by omega
    subst hj
    by_cases hi : i = j
    · subst hi; exact W.refl _
    · exact W.trans hl (h i (j - 1) (by omega) (by omega))
theorem rev_at {p : Array Nat} {i j : Nat} (hj : j ≤ p.size) (k : Nat) : at0 (kas_rev p i j) k = if i ≤ k ∧ k < j then at0 p (i + j - 1 - k) else at0 p k := by
  have h := getElem?_mirror_all (xs := p) (i := i) hj k
  unfold kas_rev
  split
  · rename_i hc; rw [if_pos hc] at h; exact at0_of h
  · rename_i hc; rw [if_neg hc] at h; exact at0_of h
theorem Pm.rev {p : Array Nat} (h : Pm n p) (i j : Nat) : Pm n (kas_rev p i j) := ⟨by unfold kas_rev; rw [mirror_size]; exact h.size, (mirror_perm p i j _).toList.trans h.perm⟩
def Tl (lt : Nat → Nat → Bool) (p : Array Nat) (m q : Nat) : Prop := ∀ i, m - (q + 1) ≤ i → i < m → Eqv lt (at0 p i) (at0 p (m - 1))
theorem Tl.rev (W : Wo lt) {p : Array Nat} {m q : Nat} (h : Tl lt p m q) (hq : q < m) (hm : m ≤ p.size) (k : Nat) : Eqv lt (at0 (kas_rev p (m - (q + 1)) m) k) (at0 p k) := by
  rw [rev_at hm]
  split
  · rename_i hc
    have a := h (m - (q + 1) + m - 1 - k) (by omega) (by omega)
    have b := h k hc.1 hc.2
    exact ⟨W.trans a.1 b.2, W.trans b.1 a.2⟩
  · exact ⟨W.refl _, W.refl _⟩
theorem Dn.eqv (W : Wo lt) {p p' : Array Nat} {m : Nat} (h : Dn lt p m) (he : ∀ k, Eqv lt (at0 p' k) (at0 p k)) : Dn lt p' m := fun i j h1 h2 => W.trans (he j).1 (W.trans (h i j h1 h2) (he i).2)
end
end SO
set_option Elab.async false
set_option linter.all false
set_option maxRecDepth 100000
set_option maxHeartbeats 1000000
namespace SO
open PySem PySem.W PySem.Calls PyProof.Rows
section
variable {P : Program} {w : World} {A : Around} {E : Value → Shared → Prop} {s : Shared} {vs : List Value} {lt : Nat → Nat → Bool} {κ : SortKind}
def Kb (a : Addr) (h h' : Heap) : Prop := ∀ b o, b ≠ a → h.get? b = some o → h'.get? b = some o
theorem Kb.trans {a : Addr} {h h1 h2 : Heap} (x : Kb a h h1) (y : Kb a h1 h2) : Kb a h h2 := fun b o hb e => y b o hb (x b o hb e)
theorem kb_upd (h : Heap) (a : Addr) (f : Obj → Obj) : Kb a h (h.update a f) := fun b o hb e => ((Heap.SameBut.update h a f).2 b hb).trans e
theorem kb_push (a : Addr) (h : Heap) (o : Obj) : Kb a h (h.push o) := fun _ _ _ e => Heap.get?_push_of_some _ e
end
end SO
set_option Elab.async false
set_option linter.all false
set_option maxRecDepth 100000
namespace LS
open PySem PyProof PyProof.Rows
def gallop' : Bool → Keyed → Array Keyed → Nat → Nat → Nat → StateT SortSt Sem (Option Nat) := sortPriv% PySem.Builtin.gallop
def mergeLo' : Array Keyed → Array Keyed → StateT SortSt Sem (Array Keyed) := sortPriv% PySem.Builtin.mergeLo
def mergeHi' : Array Keyed → Array Keyed → StateT SortSt Sem (Array Keyed) := sortPriv% PySem.Builtin.mergeHi
abbrev setG (st : SortSt) (g : Nat) : SortSt := SortSt.mk' (kindOf st) (arrOf st) (pendingOf st) g (failedOf st)
abbrev setMG (g : Nat) : StateT SortSt Sem Unit := modify fun s => setG s g
def beyond (left : Bool) (key : Keyed) (arr : Array Keyed) (base i : Nat) : StateT SortSt Sem (Option Bool) := do
  let x ← elem' arr (base + i)
  if left then lt' x key else return (← lt' key x).map (!·)
theorem gallop'_eq (left : Bool) (key : Keyed) (arr : Array Keyed) (base n hint : Nat) : gallop' left key arr base n hint = (do
  let mut lastofs := 0
  let mut ofs := 1
  let mut lo := 0
  let mut hi := 0
  let some right ← beyond left key arr base hint | return none
  if right then
    for _ in [0:n] do
      if ofs ≥ n - hint then break
      let some more ← beyond left key arr base (hint + ofs) | return none
      if !more then break
      lastofs := ofs
      ofs := 2 * ofs + 1
    lo := hint + lastofs + 1
    hi := hint + min ofs (n - hint)
  else
    for _ in [0:n] do
      if ofs ≥ hint + 1 then break
      let some found ← beyond left key arr base (hint - ofs) | return none
      if found then break
      lastofs := ofs
      ofs := 2 * ofs + 1
    lo := hint + 1 - min ofs (hint + 1)
    hi := hint - lastofs
  for _ in [0:n] do
    if lo ≥ hi then break
    let m := lo + (hi - lo) / 2
    let some more ← beyond left key arr base m | return none
    if more then lo := m + 1 else hi := m
  return some hi) := rfl
section
variable {prog : Program} {w : World} {A : Around} {E : Value → Shared → Prop} {s : Shared}
theorem gal_bin {n : Nat} {st : SortSt} {Q : Option Nat → SortSt → Prop} (Pd : Nat → Bool)
    (hm : ∀ i j, i ≤ j → j < n → Pd j = true → Pd i = true)
    (h : ∀ k, k ≤ n → (∀ i, i < k → Pd i = true) → (∀ i, k ≤ i → i < n → Pd i = false) → Q (some k) st)
    (f : Nat → Option (Option Nat) × Nat × Nat → StateT SortSt Sem (ForInStep (Option (Option Nat) × Nat × Nat))) (g : Option (Option Nat) × Nat × Nat → StateT SortSt Sem (Option Nat))
    (hf1 : ∀ x l r, ∀ Q : ForInStep (Option (Option Nat) × Nat × Nat) → SortSt → Prop, l ≥ r → Q (.done (none, l, r)) st → wpS (model prog w) A E s (f x (none, l, r)) Q st)
    (hf2 : ∀ x l r, ∀ Q : ForInStep (Option (Option Nat) × Nat × Nat) → SortSt → Prop, ¬ l ≥ r → r ≤ n → (Pd (l + (r - l) / 2) = true → Q (.yield (none, l + (r - l) / 2 + 1, r)) st) →
      (Pd (l + (r - l) / 2) = false → Q (.yield (none, l, l + (r - l) / 2)) st) → wpS (model prog w) A E s (f x (none, l, r)) Q st)
    (hg : ∀ k, Q (some k) st → wpS (model prog w) A E s (g (none, k, k)) Q st)
    (lo hi : Nat) (h1 : lo ≤ hi) (h2 : hi ≤ n) (h3 : ∀ i, i < lo → Pd i = true) (h4 : ∀ i, hi ≤ i → i < n → Pd i = false) :
    wpS (model prog w) A E s (forIn [0:n] ((none, lo, hi) : Option (Option Nat) × Nat × Nat) f >>= g) Q st := by
  refine wpS_bind (wpS_mono (wpS_forRange (I := fun x c st' => st' = st ∧ ∃ lo hi, c = (none, lo, hi) ∧ lo ≤ hi ∧ hi ≤ n ∧ hi - lo ≤ n - x ∧ (∀ i, i < lo → Pd i = true) ∧ (∀ i, hi ≤ i → i < n → Pd i = false))
    (Q := fun c st' => st' = st ∧ ∃ k, c = (none, k, k) ∧ k ≤ n ∧ (∀ i, i < k → Pd i = true) ∧ (∀ i, k ≤ i → i < n → Pd i = false)) ?step ?fin ⟨rfl, lo, hi, rfl, h1, h2, by omega, h3, h4⟩) ?post)
  case post =>
    rintro c st' ⟨rfl, k, rfl, a, b, d⟩
    exact hg k (h k a b d)
  case fin =>
    rintro c st' ⟨rfl, l, r, rfl, a1, a2, a3, a4, a5⟩
    have : l = r := by omega
    subst this
    exact ⟨rfl, l, rfl, a2, a4, a5⟩
  case step =>
    rintro x c st' _ hx ⟨rfl, l, r, rfl, a1, a2, a3, a4, a5⟩
    by_cases hgr : l ≥ r
    · have : l = r := by omega
      subst this
      exact hf1 x l l _ hgr ⟨rfl, l, rfl, a2, a4, a5⟩
    · refine hf2 x l r _ hgr a2 (fun hp => ?_) (fun hp => ?_)
      · exact ⟨rfl, _, r, rfl, by omega, a2, by omega, fun i b1 => hm i _ (by omega) (by omega) hp, a5⟩
      · refine ⟨rfl, l, _, rfl, by omega, by omega, by omega, a4, fun i b1 b2 => ?_⟩
        cases hq : Pd i
        · rfl
        · rw [hm _ i b1 b2 hq] at hp; cases hp
theorem wpS_gallop {left : Bool} {key : Keyed} {arr : Array Keyed} {base n hint : Nat} {st : SortSt} {Q : Option Nat → SortSt → Prop} (Pd : Nat → Bool)
    (hb : ∀ i, i < n → ∀ Q : Option Bool → SortSt → Prop, Q (some (Pd i)) st → wpS (model prog w) A E s (beyond left key arr base i) Q st)
    (hm : ∀ i j, i ≤ j → j < n → Pd j = true → Pd i = true) (hh : hint < n)
    (h : ∀ k, k ≤ n → (∀ i, i < k → Pd i = true) → (∀ i, k ≤ i → i < n → Pd i = false) → Q (some k) st) :
    wpS (model prog w) A E s (gallop' left key arr base n hint) Q st := by
  rw [gallop'_eq]
  dsimp only
  refine wpS_bind (hb _ hh _ ?_)
  dsimp only
  have up : ∀ m, m < n → Pd m = false → ∀ i, m ≤ i → i < n → Pd i = false := by
    intro m _ hp i b1 b2
    cases hq : Pd i
    · rfl
    · rw [hm m i b1 b2 hq] at hp; cases hp
  cases hp : Pd hint
  · rw [if_neg (by simp)]
    refine wpS_bind (wpS_mono (wpS_forRange (I := fun x c st' => st' = st ∧ ∃ la o, c = (none, la, o) ∧ la < o ∧ x + 1 ≤ o ∧ la ≤ hint ∧ Pd (hint - la) = false)
      (Q := fun c st' => st' = st ∧ ∃ la o, c = (none, la, o) ∧ la < o ∧ la ≤ hint ∧ Pd (hint - la) = false ∧ (hint + 1 ≤ o ∨ Pd (hint - o) = true)) ?step ?fin
      ⟨rfl, 0, 1, rfl, by omega, by omega, by omega, hp⟩) ?post)
    case post =>
      rintro c st' ⟨rfl, la, o, rfl, b1, b2, b3, b4⟩
      dsimp only
      refine gal_bin Pd hm h _ _ (fun x l r Q hl hq => by
        dsimp only
        rw [if_pos hl]; exact wpS_pure hq) (fun x l r Q hl hr q1 q2 => by
        dsimp only
        rw [if_neg hl]
        refine wpS_bind (hb _ (by omega) _ ?_)
        dsimp only
        cases hq : Pd (l + (r - l) / 2)
        · rw [if_neg (by simp)]; exact wpS_pure (q2 hq)
        · rw [if_pos rfl]; exact wpS_pure (q1 hq)) (fun k hk => wpS_pure hk) (hint + 1 - min o (hint + 1)) (hint - la) (by omega) (by omega) ?_ (up _ (by omega) b3)
      intro i hi
      rcases b4 with b4 | b4
      · omega
      · exact hm i _ (by omega) (by omega) b4
    case fin =>
      rintro c st' ⟨rfl, la, o, rfl, b1, b2, b3, b4⟩
      exact ⟨rfl, la, o, rfl, b1, b3, b4, .inl (by omega)⟩
    case step =>
      rintro x c st' _ hx ⟨rfl, la, o, rfl, b1, b2, b3, b4⟩
      dsimp only
      by_cases hg : o ≥ hint + 1
      · rw [if_pos hg]
        exact wpS_pure ⟨rfl, la, o, rfl, b1, b3, b4, .inl hg⟩
      · rw [if_neg hg]
        refine wpS_bind (hb _ (by omega) _ ?_)
        dsimp only
        cases hq : Pd (hint - o)
        · rw [if_neg (by simp)]
          exact wpS_pure ⟨rfl, o, _, rfl, by omega, by omega, by omega, hq⟩
        · rw [if_pos rfl]
          exact wpS_pure ⟨rfl, la, o, rfl, b1, b3, b4, .inr hq⟩
  · rw [if_pos rfl]
    refine wpS_bind (wpS_mono (wpS_forRange (I := fun x c st' => st' = st ∧ ∃ la o, c = (none, la, o) ∧ la < o ∧ x + 1 ≤ o ∧ la < n - hint ∧ Pd (hint + la) = true)
      (Q := fun c st' => st' = st ∧ ∃ la o, c = (none, la, o) ∧ la < o ∧ la < n - hint ∧ Pd (hint + la) = true ∧ (n - hint ≤ o ∨ (o < n - hint ∧ Pd (hint + o) = false))) ?step ?fin
      ⟨rfl, 0, 1, rfl, by omega, by omega, by omega, hp⟩) ?post)
    case post =>
      rintro c st' ⟨rfl, la, o, rfl, b1, b2, b3, b4⟩
      dsimp only
      refine gal_bin Pd hm h _ _ (fun x l r Q hl hq => by
        dsimp only
        rw [if_pos hl]; exact wpS_pure hq) (fun x l r Q hl hr q1 q2 => by
        dsimp only
        rw [if_neg hl]
        refine wpS_bind (hb _ (by omega) _ ?_)
        dsimp only
        cases hq : Pd (l + (r - l) / 2)
        · rw [if_neg (by simp)]; exact wpS_pure (q2 hq)
        · rw [if_pos rfl]; exact wpS_pure (q1 hq)) (fun k hk => wpS_pure hk) (hint + la + 1) (hint + min o (n - hint)) (by omega) (by omega) (fun i hi => hm i _ (by omega) (by omega) b3) ?_
      intro i hi hi2
      rcases b4 with b4 | ⟨b4, b5⟩
      · omega
      · exact up _ (by omega) b5 i (by omega) hi2
    case fin =>
      rintro c st' ⟨rfl, la, o, rfl, b1, b2, b3, b4⟩
      exact ⟨rfl, la, o, rfl, b1, b3, b4, .inl (by omega)⟩
    case step =>
      rintro x c st' _ hx ⟨rfl, la, o, rfl, b1, b2, b3, b4⟩
      dsimp only
      by_cases hg : o ≥ n - hint
      · rw [if_pos hg]
        exact wpS_pure ⟨rfl, la, o, rfl, b1, b3, b4, .inl hg⟩
      · rw [if_neg hg]
        refine wpS_bind (hb _ (by omega) _ ?_)
        dsimp only
        cases hq : Pd (hint + o)
        · rw [if_pos (by simp)]
          exact wpS_pure ⟨rfl, la, o, rfl, b1, b3, b4, .inr ⟨by omega, hq⟩⟩
        · rw [if_neg (by simp)]
          exact wpS_pure ⟨rfl, o, _, rfl, by omega, by omega, by omega, hq⟩
end
end LS
set_option Elab.async false
set_option linter.all false
set_option maxRecDepth 100000
namespace LS
open PySem PyProof PyProof.Rows
def nk (p : Keyed) : Int := numOf p.1
def IK (p : Keyed) : Prop := ∃ n t, p.1 = .int n t
def Srt (l : List Keyed) : Prop := l.Pairwise fun p q => nk p ≤ nk q
section
variable {prog : Program} {w : World} {A : Around} {E : Value → Shared → Prop} {s : Shared}
theorem wpS_lt {st : SortSt} {p q : Keyed} {Q : Option Bool → SortSt → Prop} (hk : kindOf st = oneType') (hp : IK p) (hq : IK q) (h : Q (some (decide (nk p < nk q))) st) :
    wpS (model prog w) A E s (lt' p q) Q st := by
  obtain ⟨n, t, hn⟩ := hp
  obtain ⟨m, u, hm⟩ := hq
  rw [lt'_eq]
  refine wpS_bind (wpS_get ?_)
  rw [hk, keyLt'_oneType, hn, hm]
  refine wpS_bind (wpS_lift (wpAny_attempt (oneLt_int ⟨rfl, ?_⟩)))
  unfold nk at h
  rw [hn, hm] at h
  exact wpS_pure h
theorem wpS_elem {st : SortSt} {arr : Array Keyed} {i : Nat} {p : Keyed} {Q : Keyed → SortSt → Prop} (e : arr.toList[i]? = some p) (h : Q p st) :
    wpS (model prog w) A E s (elem' arr i) Q st := by
  rw [elem'_eq, ← Array.getElem?_toList, e]
  exact wpS_pure h
theorem gal_list {left : Bool} {key : Keyed} {arr : Array Keyed} {base n hint : Nat} {st : SortSt} {Q : Option Nat → SortSt → Prop} (X : List Keyed) (T : Keyed → Bool)
    (hX : X.length = n) (he : ∀ i, i < n → arr.toList[base + i]? = X[i]?)
    (hb : ∀ p ∈ X, ∀ Q : Option Bool → SortSt → Prop, Q (some (T p)) st → wpS (model prog w) A E s (if left then lt' p key else do return (← lt' key p).map (!·)) Q st)
    (hm : X.Pairwise fun p q => T q = true → T p = true) (hh : hint < n)
    (h : ∀ k, k ≤ n → (∀ p ∈ X.take k, T p = true) → (∀ p ∈ X.drop k, T p = false) → Q (some k) st) :
    wpS (model prog w) A E s (gallop' left key arr base n hint) Q st := by
  subst hX
  refine wpS_gallop (fun i => (X[i]?.map T).getD false) ?_ ?_ hh ?_
  · intro i hi Q hq
    unfold beyond
    have e : X[i]? = some X[i] := List.getElem?_eq_getElem hi
    rw [e] at hq
    refine wpS_bind (wpS_elem ((he i hi).trans e) ?_)
    exact hb _ (List.getElem_mem hi) Q hq
  · intro i j hij hj hT
    have ej : X[j]? = some X[j] := List.getElem?_eq_getElem hj
    have ei : X[i]? = some X[i] := List.getElem?_eq_getElem (by omega)
    rw [ej] at hT
    rw [ei]
    by_cases hl : i = j
    · subst hl; exact hT
    · exact List.pairwise_iff_getElem.mp hm i j (by omega) hj (by omega) hT
  · intro k hk h1 h2
    refine h k hk ?_ ?_
    · intro p hp
      obtain ⟨i, hi, rfl⟩ := List.mem_iff_getElem.mp hp
      have hi' : i < k ∧ i < X.length := by simpa [List.length_take, Nat.lt_min] using hi
      have := h1 i hi'.1
      rw [List.getElem?_eq_getElem hi'.2] at this
      rw [List.getElem_take]
      exact this
    · intro p hp
      obtain ⟨i, hi, rfl⟩ := List.mem_iff_getElem.mp hp
      have hi' : k + i < X.length := by simp [List.length_drop] at hi; omega
      have := h2 (k + i) (by omega) hi'
      rw [List.getElem?_eq_getElem hi'] at this
      rw [List.getElem_drop]
      exact this
theorem gal_right {key : Keyed} {arr : Array Keyed} {base n hint : Nat} {st : SortSt} {Q : Option Nat → SortSt → Prop} (X : List Keyed)
    (hX : X.length = n) (he : ∀ i, i < n → arr.toList[base + i]? = X[i]?) (hk : kindOf st = oneType') (hi : ∀ p ∈ X, IK p) (hkey : IK key) (hs : Srt X) (hh : hint < n)
    (h : ∀ k, k ≤ n → (∀ p ∈ X.take k, nk p ≤ nk key) → (∀ p ∈ X.drop k, nk key < nk p) → Q (some k) st) :
    wpS (model prog w) A E s (gallop' false key arr base n hint) Q st := by
  refine gal_list X (fun p => !decide (nk key < nk p)) hX he ?_ (hs.imp ?_) hh ?_
  · intro p hp Q hq
    rw [if_neg (by simp)]
    exact wpS_bind (wpS_lt hk hkey (hi p hp) (wpS_pure hq))
  · intro p q hpq ht
    simp at ht ⊢
    omega
  · intro k a b c
    refine h k a (fun p hp => ?_) fun p hp => ?_
    · have := b p hp
      simpa using this
    · have := c p hp
      simpa using this
theorem gal_left {key : Keyed} {arr : Array Keyed} {base n hint : Nat} {st : SortSt} {Q : Option Nat → SortSt → Prop} (X : List Keyed)
    (hX : X.length = n) (he : ∀ i, i < n → arr.toList[base + i]? = X[i]?) (hk : kindOf st = oneType') (hi : ∀ p ∈ X, IK p) (hkey : IK key) (hs : Srt X) (hh : hint < n)
    (h : ∀ k, k ≤ n → (∀ p ∈ X.take k, nk p < nk key) → (∀ p ∈ X.drop k, nk key ≤ nk p) → Q (some k) st) :
    wpS (model prog w) A E s (gallop' true key arr base n hint) Q st := by
  refine gal_list X (fun p => decide (nk p < nk key)) hX he ?_ (hs.imp ?_) hh ?_
  · intro p hp Q hq
    rw [if_pos rfl]
    exact wpS_lt hk (hi p hp) hkey hq
  · intro p q hpq ht
    simp at ht ⊢
    omega
  · intro k a b c
    refine h k a (fun p hp => ?_) fun p hp => ?_
    · have := b p hp
      simpa using this
    · have := c p hp
      simpa using this
end
structure J (L out x y : List Keyed) : Prop where
  perm : (out ++ (x ++ y)).Perm L
  sx : Srt (out ++ x)
  sy : Srt (out ++ y)
theorem srt_app {x y : List Keyed} : Srt (x ++ y) ↔ Srt x ∧ Srt y ∧ ∀ p ∈ x, ∀ q ∈ y, nk p ≤ nk q := List.pairwise_append
theorem J.ga {L out x1 x2 y : List Keyed} (h : J L out (x1 ++ x2) y) (hl : ∀ p ∈ x1, ∀ q ∈ y, nk p ≤ nk q) : J L (out ++ x1) x2 y := by
  have a := h.sx
  have b := srt_app.mp h.sy
  refine ⟨by simpa [List.append_assoc] using h.perm, by simpa [List.append_assoc] using a, ?_⟩
  rw [← List.append_assoc] at a
  refine srt_app.mpr ⟨(srt_app.mp a).1, b.2.1, ?_⟩
  intro p hp q hq
  rcases List.mem_append.mp hp with hp | hp
  · exact b.2.2 p hp q hq
  · exact hl p hp q hq
theorem J.swap {L out x y : List Keyed} (h : J L out x y) : J L out y x := ⟨(List.perm_append_comm.append_left out).trans h.perm, h.sy, h.sx⟩
theorem J.gb {L out x y1 y2 : List Keyed} (h : J L out x (y1 ++ y2)) (hl : ∀ p ∈ y1, ∀ q ∈ x, nk p ≤ nk q) : J L (out ++ y1) x y2 := (h.swap.ga hl).swap
def Fin (L : List Keyed) (r : Array Keyed) : Prop := r.toList.Perm L ∧ Srt r.toList
theorem ext_end (a : Array Keyed) (i : Nat) : (a.extract i a.size).toList = a.toList.drop i := by
  simp only [Array.toList_extract, List.extract_eq_take_drop]
  exact List.take_of_length_le (by simp)
theorem ext_k (a : Array Keyed) (i k : Nat) : (a.extract i (i + k)).toList = (a.toList.drop i).take k := by
  simp [List.extract_eq_take_drop]
abbrev dn (a b out : Array Keyed) (ia ib : Nat) : Array Keyed := out ++ a.extract ia a.size ++ b.extract ib b.size
abbrev lA (a b out : Array Keyed) (ia ib : Nat) : Array Keyed := out ++ b.extract ib b.size ++ a.extract ia a.size
theorem dn_fin {L : List Keyed} {a b out : Array Keyed} {ia ib : Nat} (h : J L out.toList (a.toList.drop ia) (b.toList.drop ib)) (hb : ib = b.size ∨ ia = a.size) : Fin L (dn a b out ia ib) := by
  have e : (dn a b out ia ib).toList = out.toList ++ (a.toList.drop ia ++ b.toList.drop ib) := by
    show (out ++ a.extract ia a.size ++ b.extract ib b.size).toList = _
    rw [Array.toList_append, Array.toList_append, ext_end, ext_end, List.append_assoc]
  unfold Fin
  rw [e]
  refine ⟨h.perm, ?_⟩
  rcases hb with hb | hb
  · rw [List.drop_eq_nil_of_le (as := b.toList) (by rw [hb]; simp), List.append_nil]
    exact h.sx
  · rw [List.drop_eq_nil_of_le (as := a.toList) (by rw [hb]; simp), List.nil_append]
    exact h.sy
theorem lA_fin {L : List Keyed} {a b out : Array Keyed} {ia ib : Nat} (h : J L out.toList (a.toList.drop ia) (b.toList.drop ib)) (ha : ia + 1 = a.size)
    (ht : ∀ p ∈ a.toList.drop (a.size - 1), ∀ q ∈ b.toList, nk q ≤ nk p) : Fin L (lA a b out ia ib) := by
  have e : (lA a b out ia ib).toList = out.toList ++ (b.toList.drop ib ++ a.toList.drop ia) := by
    show (out ++ b.extract ib b.size ++ a.extract ia a.size).toList = _
    rw [Array.toList_append, Array.toList_append, ext_end, ext_end, List.append_assoc]
  unfold Fin
  rw [e]
  refine ⟨h.swap.perm, ?_⟩
  have x := srt_app.mp h.sx
  have y := srt_app.mp h.sy
  refine srt_app.mpr ⟨x.1, srt_app.mpr ⟨y.2.1, x.2.1, ?_⟩, ?_⟩
  · intro p hp q hq
    exact ht q (by rw [← ha]; exact hq) p (List.mem_of_mem_drop hp)
  · intro p hp q hq
    rcases List.mem_append.mp hq with hq | hq
    · exact y.2.2 p hp q hq
    · exact x.2.2 p hp q hq
end LS
set_option Elab.async false
set_option linter.all false
set_option maxRecDepth 100000
namespace LS
open PySem PyProof PyProof.Rows
abbrev GS : Type := Option (Array Keyed) × Array Keyed × Nat × Nat × Nat × Nat × Nat
abbrev AS : Type := Option (Array Keyed) × Array Keyed × Nat × Nat × Nat × Nat
abbrev OS : Type := Option (Array Keyed) × Array Keyed × Nat × Nat × Nat
def lo3 (a b : Array Keyed) (g k k2 : Nat) (out : Array Keyed) (ia ib : Nat) : StateT SortSt Sem (ForInStep GS) := do
  let p ← elem' a ia
  if (ia + 1 + 1 == a.size) = true then pure (.done (some (lA a b (out.push p) (ia + 1) ib), out.push p, ia + 1, ib, g, k, k2)) else
  if (decide (k < 7) && decide (k2 < 7)) = true then pure (.done (none, out.push p, ia + 1, ib, g, k, k2)) else pure (.yield (none, out.push p, ia + 1, ib, g, k, k2))
def lo2 (a b : Array Keyed) (g k bc : Nat) (out : Array Keyed) (ia ib : Nat) : StateT SortSt Sem (ForInStep GS) := do
  let p ← elem' b ib
  if (ib + 1 == b.size) = true then pure (.done (some (dn a b (out.push p) ia (ib + 1)), out.push p, ia, ib + 1, g, k, bc)) else do
  let q ← elem' a ia
  let x ← gallop' true q b (ib + 1) (b.size - (ib + 1)) 0
  match x with
  | some k2 =>
    if k2 > 0 then
      if (ib + 1 + k2 == b.size) = true then
        pure (.done (some (dn a b (out.push p ++ b.extract (ib + 1) (ib + 1 + k2)) ia (ib + 1 + k2)), out.push p ++ b.extract (ib + 1) (ib + 1 + k2), ia, ib + 1 + k2, g, k, k2))
      else lo3 a b g k k2 (out.push p ++ b.extract (ib + 1) (ib + 1 + k2)) ia (ib + 1 + k2)
    else lo3 a b g k k2 (out.push p) ia (ib + 1)
  | _ => pure (.done (some (dn a b (out.push p) ia (ib + 1)), out.push p, ia, ib + 1, g, k, bc))
def lo1 (a b : Array Keyed) (c : GS) (g : Nat) : StateT SortSt Sem (ForInStep GS) := do
  setMG g
  let p ← elem' b c.2.2.2.1
  let x ← gallop' false p a c.2.2.1 (a.size - c.2.2.1) 0
  match x with
  | some k =>
    if k > 0 then
      if (c.2.2.1 + k + 1 == a.size) = true then
        pure (.done (some (lA a b (c.2.1 ++ a.extract c.2.2.1 (c.2.2.1 + k)) (c.2.2.1 + k) c.2.2.2.1), c.2.1 ++ a.extract c.2.2.1 (c.2.2.1 + k), c.2.2.1 + k, c.2.2.2.1, g, k, c.2.2.2.2.2.2))
      else
        if (c.2.2.1 + k == a.size) = true then
          pure (.done (some (dn a b (c.2.1 ++ a.extract c.2.2.1 (c.2.2.1 + k)) (c.2.2.1 + k) c.2.2.2.1), c.2.1 ++ a.extract c.2.2.1 (c.2.2.1 + k), c.2.2.1 + k, c.2.2.2.1, g, k, c.2.2.2.2.2.2))
        else lo2 a b g k c.2.2.2.2.2.2 (c.2.1 ++ a.extract c.2.2.1 (c.2.2.1 + k)) (c.2.2.1 + k) c.2.2.2.1
    else lo2 a b g k c.2.2.2.2.2.2 c.2.1 c.2.2.1 c.2.2.2.1
  | _ => pure (.done (some (dn a b c.2.1 c.2.2.1 c.2.2.2.1), c.2.1, c.2.2.1, c.2.2.2.1, g, c.2.2.2.2.2.1, c.2.2.2.2.2.2))
def loB (a b : Array Keyed) (_ : Nat) (c : GS) : StateT SortSt Sem (ForInStep GS) :=
  if c.2.2.2.2.1 > 1 then lo1 a b c (c.2.2.2.2.1 - 1) else lo1 a b c c.2.2.2.2.1
def loA (a b : Array Keyed) (g : Nat) (_ : Nat) (c : AS) : StateT SortSt Sem (ForInStep AS) := do
  let p ← elem' b c.2.2.2.1
  let q ← elem' a c.2.2.1
  let x ← lt' p q
  match x with
  | some bWins =>
    if bWins = true then do
      let p ← elem' b c.2.2.2.1
      if (c.2.2.2.1 + 1 == b.size) = true then pure (.done (some (dn a b (c.2.1.push p) c.2.2.1 (c.2.2.2.1 + 1)), c.2.1.push p, c.2.2.1, c.2.2.2.1 + 1, 0, c.2.2.2.2.2 + 1))
      else if c.2.2.2.2.2 + 1 ≥ g then pure (.done (none, c.2.1.push p, c.2.2.1, c.2.2.2.1 + 1, 0, c.2.2.2.2.2 + 1))
      else pure (.yield (none, c.2.1.push p, c.2.2.1, c.2.2.2.1 + 1, 0, c.2.2.2.2.2 + 1))
    else do
      let p ← elem' a c.2.2.1
      if (c.2.2.1 + 1 + 1 == a.size) = true then pure (.done (some (lA a b (c.2.1.push p) (c.2.2.1 + 1) c.2.2.2.1), c.2.1.push p, c.2.2.1 + 1, c.2.2.2.1, c.2.2.2.2.1 + 1, 0))
      else if c.2.2.2.2.1 + 1 ≥ g then pure (.done (none, c.2.1.push p, c.2.2.1 + 1, c.2.2.2.1, c.2.2.2.2.1 + 1, 0))
      else pure (.yield (none, c.2.1.push p, c.2.2.1 + 1, c.2.2.2.1, c.2.2.2.2.1 + 1, 0))
  | _ => pure (.done (some (dn a b c.2.1 c.2.2.1 c.2.2.2.1), c.2.1, c.2.2.1, c.2.2.2.1, c.2.2.2.2.1, c.2.2.2.2.2))
def loO (a b : Array Keyed) (_ : Nat) (c : OS) : StateT SortSt Sem (ForInStep OS) := do
  let d ← forIn [0:a.size + b.size] ((none, c.2.1, c.2.2.1, c.2.2.2.1, 0, 0) : AS) (loA a b c.2.2.2.2)
  match d.1 with
  | some r => pure (.done (some r, d.2.1, d.2.2.1, d.2.2.2.1, c.2.2.2.2))
  | none => do
    liftM (rule "list.sort.gallop")
    let e ← forIn [0:a.size + b.size] ((none, d.2.1, d.2.2.1, d.2.2.2.1, c.2.2.2.2 + 1, d.2.2.2.2.1, d.2.2.2.2.2) : GS) (loB a b)
    match e.1 with
    | some r => pure (.done (some r, e.2.1, e.2.2.1, e.2.2.2.1, e.2.2.2.2.1))
    | none => do
      setMG (e.2.2.2.2.1 + 1)
      pure (.yield (none, e.2.1, e.2.2.1, e.2.2.2.1, e.2.2.2.2.1 + 1))
theorem mergeLo'_eq (a b : Array Keyed) : mergeLo' a b = (do
  liftM (rule "list.sort.merge-lo")
  let p ← elem' b 0
  if (1 == b.size) = true then pure (dn a b #[p] 0 1) else
  if (0 + 1 == a.size) = true then pure (lA a b #[p] 0 1) else do
  let s ← get
  let c ← forIn [0:a.size + b.size] ((none, #[p], 0, 1, gallopOf s) : OS) (loO a b)
  match c.1 with
  | some r => pure r
  | none => liftM (unsupported (α := Array Keyed) "internal:list.sort.merge-bound")) := by
  kernel_rfl
section
variable {prog : Program} {w : World} {A : Around} {E : Value → Shared → Prop} {s : Shared} {L : List Keyed} {a b : Array Keyed} {st : SortSt}
structure Lo (L : List Keyed) (a b out : Array Keyed) (ia ib : Nat) : Prop where
  ha : ia + 1 < a.size
  hb : ib < b.size
  j : J L out.toList (a.toList.drop ia) (b.toList.drop ib)
structure Ms (a b : Array Keyed) (st : SortSt) : Prop where
  kind : kindOf st = oneType'
  ka : ∀ p ∈ a.toList, IK p
  kb : ∀ p ∈ b.toList, IK p
def Top (a b : Array Keyed) : Prop := ∀ p ∈ a.toList.drop (a.size - 1), ∀ q ∈ b.toList, nk q ≤ nk p
def Sg (st st' : SortSt) : Prop := ∃ g, st' = setG st g
theorem Sg.kind {st st' : SortSt} (h : Sg st st') : kindOf st' = kindOf st := by obtain ⟨g, rfl⟩ := h; rfl
theorem Sg.set {st st' : SortSt} (h : Sg st st') (g : Nat) : Sg st (setG st' g) := by obtain ⟨g', rfl⟩ := h; exact ⟨g, rfl⟩
theorem Ms.of {st st' : SortSt} (h : Ms a b st) (e : Sg st st') : Ms a b st' := ⟨e.kind.trans h.kind, h.ka, h.kb⟩
theorem get_at {a : Array Keyed} {i : Nat} (h : i < a.size) : ∃ p, a.toList[i]? = some p ∧ p ∈ a.toList ∧ a.toList.drop i = p :: a.toList.drop (i + 1) := by
  have h' : i < a.toList.length := by simpa using h
  exact ⟨a.toList[i], List.getElem?_eq_getElem h', List.getElem_mem h', List.drop_eq_getElem_cons h'⟩
def PG (L : List Keyed) (a b : Array Keyed) (st : SortSt) (m : Nat) (r : ForInStep GS) (st' : SortSt) : Prop :=
  Sg st st' ∧ match r with
  | .done (some r, _) => Fin L r
  | .done (none, out, ia, ib, _) => Lo L a b out ia ib ∧ m ≤ ia + ib
  | .yield (none, out, ia, ib, _) => Lo L a b out ia ib ∧ m ≤ ia + ib
  | .yield (some _, _) => False
theorem head_le {x : List Keyed} {p : Keyed} (h : Srt (p :: x)) : ∀ q ∈ p :: x, nk p ≤ nk q := by
  intro q hq
  rcases List.mem_cons.mp hq with rfl | hq
  · exact Int.le_refl _
  · exact (List.pairwise_cons.mp h).1 q hq
theorem lo3_ok {g k k2 : Nat} {out : Array Keyed} {ia ib m : Nat} {st' : SortSt} (M : Ms a b st) (hT : Top a b) (hs : Sg st st') (ha : ia + 1 < a.size) (hb : ib < b.size)
    (j : J L out.toList (a.toList.drop ia) (b.toList.drop ib)) (hm : m ≤ ia + ib) (hl : ∀ p, a.toList[ia]? = some p → ∀ q ∈ b.toList.drop ib, nk p ≤ nk q) :
    wpS (model prog w) A E s (lo3 a b g k k2 out ia ib) (PG L a b st (m + 1)) st' := by
  unfold lo3
  obtain ⟨p, e, hp, ed⟩ := get_at (a := a) (i := ia) (by omega)
  refine wpS_bind (wpS_elem e ?_)
  have j' : J L (out.push p).toList (a.toList.drop (ia + 1)) (b.toList.drop ib) := by
    rw [Array.toList_push]
    rw [ed] at j
    exact J.ga (x1 := [p]) j (fun x hx q hq => by rw [List.mem_singleton.mp hx]; exact hl p e q hq)
  by_cases h1 : ia + 1 + 1 = a.size
  · rw [if_pos (by simpa using h1)]
    exact wpS_pure ⟨hs, lA_fin j' h1 hT⟩
  · rw [if_neg (by simpa using h1)]
    have lo : Lo L a b (out.push p) (ia + 1) ib := ⟨by omega, hb, j'⟩
    split
    · exact wpS_pure ⟨hs, lo, by omega⟩
    · exact wpS_pure ⟨hs, lo, by omega⟩
theorem lo2_ok {g k bc : Nat} {out : Array Keyed} {ia ib m : Nat} {st' : SortSt} (M : Ms a b st) (hT : Top a b) (hs : Sg st st') (ha : ia + 1 < a.size) (hb : ib < b.size)
    (j : J L out.toList (a.toList.drop ia) (b.toList.drop ib)) (hm : m ≤ ia + ib) (hl : ∀ p, b.toList[ib]? = some p → ∀ q ∈ a.toList.drop ia, nk p ≤ nk q) :
    wpS (model prog w) A E s (lo2 a b g k bc out ia ib) (PG L a b st (m + 1)) st' := by
  unfold lo2
  obtain ⟨p, e, hp, ed⟩ := get_at (a := b) (i := ib) hb
  refine wpS_bind (wpS_elem e ?_)
  have j' : J L (out.push p).toList (a.toList.drop ia) (b.toList.drop (ib + 1)) := by
    rw [Array.toList_push]
    rw [ed] at j
    exact J.gb (y1 := [p]) j (fun x hx q hq => by rw [List.mem_singleton.mp hx]; exact hl p e q hq)
  by_cases h1 : ib + 1 = b.size
  · rw [if_pos (by simpa using h1)]
    exact wpS_pure ⟨hs, dn_fin j' (.inl h1)⟩
  · rw [if_neg (by simpa using h1)]
    obtain ⟨q, eq, hq, edq⟩ := get_at (a := a) (i := ia) (by omega)
    refine wpS_bind (wpS_elem eq ?_)
    have hsa : Srt (q :: a.toList.drop (ia + 1)) := by rw [← edq]; exact (srt_app.mp j'.sx).2.1
    refine wpS_bind (gal_left (b.toList.drop (ib + 1)) (by simp) (fun i _ => by rw [List.getElem?_drop]) ((M.of hs).kind) (fun x hx => M.kb x (List.mem_of_mem_drop hx)) (M.ka q hq)
      (srt_app.mp j'.sy).2.1 (by omega) fun k2 hk2 c1 c2 => ?_)
    dsimp only
    have hle : ∀ p, a.toList[ia]? = some p → ∀ x ∈ (b.toList.drop (ib + 1)).drop k2, nk p ≤ nk x := by
      intro p' ep x hx
      rw [eq] at ep
      cases ep
      exact c2 x hx
    have j2 : J L ((out.push p).toList ++ (b.toList.drop (ib + 1)).take k2) (a.toList.drop ia) ((b.toList.drop (ib + 1)).drop k2) := by
      refine J.gb (by rw [List.take_append_drop]; exact j') fun x hx y hy => ?_
      rw [edq] at hy
      have := head_le hsa y hy
      have := c1 x hx
      omega
    by_cases hk : k2 > 0
    · rw [if_pos hk]
      have j3 : J L (out.push p ++ b.extract (ib + 1) (ib + 1 + k2)).toList (a.toList.drop ia) (b.toList.drop (ib + 1 + k2)) := by
        rw [Array.toList_append, ext_k, show b.toList.drop (ib + 1 + k2) = (b.toList.drop (ib + 1)).drop k2 from List.drop_drop.symm]
        exact j2
      by_cases h2 : ib + 1 + k2 = b.size
      · rw [if_pos (by simpa using h2)]
        exact wpS_pure ⟨hs, dn_fin j3 (.inl h2)⟩
      · rw [if_neg (by simpa using h2)]
        refine wpS_mono (lo3_ok (m := m) M hT hs ha (by omega) j3 (by omega) (by rw [← List.drop_drop]; exact hle)) fun r st'' h => h
    · rw [if_neg hk]
      have k0 : k2 = 0 := by omega
      subst k0
      exact lo3_ok (m := m) M hT hs ha (by omega) j' (by omega) hle
theorem lo1_ok {c : GS} {g m : Nat} {st' : SortSt} (M : Ms a b st) (hT : Top a b) (hs : Sg st st') (hL : Lo L a b c.2.1 c.2.2.1 c.2.2.2.1) (hm : m ≤ c.2.2.1 + c.2.2.2.1) :
    wpS (model prog w) A E s (lo1 a b c g) (PG L a b st (m + 1)) st' := by
  obtain ⟨r, out, ia, ib, g0, ac, bc⟩ := c
  dsimp only at hL hm
  obtain ⟨ha, hb, j⟩ := hL
  unfold lo1
  dsimp only
  refine wpS_bind (wpS_modify ?_)
  obtain ⟨p, e, hp, ed⟩ := get_at (a := b) (i := ib) hb
  refine wpS_bind (wpS_elem e ?_)
  have hs' : Sg st (setG st' g) := hs.set g
  have hsb : Srt (p :: b.toList.drop (ib + 1)) := by rw [← ed]; exact (srt_app.mp j.sy).2.1
  refine wpS_bind (gal_right (a.toList.drop ia) (by simp) (fun i _ => by rw [List.getElem?_drop]) ((M.of hs').kind) (fun x hx => M.ka x (List.mem_of_mem_drop hx)) (M.kb p hp)
    (srt_app.mp j.sx).2.1 (by omega) fun k hk2 c1 c2 => ?_)
  dsimp only
  have hle : ∀ p', b.toList[ib]? = some p' → ∀ x ∈ (a.toList.drop ia).drop k, nk p' ≤ nk x := by
    intro p' ep x hx
    rw [e] at ep
    cases ep
    exact Int.le_of_lt (c2 x hx)
  have j2 : J L (out.toList ++ (a.toList.drop ia).take k) ((a.toList.drop ia).drop k) (b.toList.drop ib) := by
    refine J.ga (by rw [List.take_append_drop]; exact j) fun x hx y hy => ?_
    rw [ed] at hy
    have := head_le hsb y hy
    have := c1 x hx
    omega
  by_cases hk : k > 0
  · rw [if_pos hk]
    have j3 : J L (out ++ a.extract ia (ia + k)).toList (a.toList.drop (ia + k)) (b.toList.drop ib) := by
      rw [Array.toList_append, ext_k, ← List.drop_drop]
      exact j2
    by_cases h2 : ia + k + 1 = a.size
    · rw [if_pos (by simpa using h2)]
      exact wpS_pure ⟨hs', lA_fin j3 h2 hT⟩
    · rw [if_neg (by simpa using h2)]
      by_cases h3 : ia + k = a.size
      · rw [if_pos (by simpa using h3)]
        exact wpS_pure ⟨hs', dn_fin j3 (.inr h3)⟩
      · rw [if_neg (by simpa using h3)]
        exact lo2_ok (m := m) M hT hs' (by omega) hb j3 (by omega) (by rw [← List.drop_drop]; exact hle)
  · rw [if_neg hk]
    have k0 : k = 0 := by omega
    subst k0
    exact lo2_ok (m := m) M hT hs' ha hb j hm hle
def PA (L : List Keyed) (a b : Array Keyed) (st : SortSt) (m : Nat) (r : ForInStep AS) (st' : SortSt) : Prop :=
  Sg st st' ∧ match r with
  | .done (some r, _) => Fin L r
  | .done (none, out, ia, ib, _) => Lo L a b out ia ib ∧ m ≤ ia + ib
  | .yield (none, out, ia, ib, _) => Lo L a b out ia ib ∧ m ≤ ia + ib
  | .yield (some _, _) => False
theorem loA_ok {c : AS} {g x m : Nat} {st' : SortSt} (M : Ms a b st) (hT : Top a b) (hs : Sg st st') (hL : Lo L a b c.2.1 c.2.2.1 c.2.2.2.1) (hm : m ≤ c.2.2.1 + c.2.2.2.1) :
    wpS (model prog w) A E s (loA a b g x c) (PA L a b st (m + 1)) st' := by
  obtain ⟨r, out, ia, ib, ac, bc⟩ := c
  dsimp only at hL hm
  obtain ⟨ha, hb, j⟩ := hL
  unfold loA
  dsimp only
  obtain ⟨p, e, hp, ed⟩ := get_at (a := b) (i := ib) hb
  obtain ⟨q, eq, hq, edq⟩ := get_at (a := a) (i := ia) (by omega)
  refine wpS_bind (wpS_elem e ?_)
  refine wpS_bind (wpS_elem eq ?_)
  refine wpS_bind (wpS_lt ((M.of hs).kind) (M.kb p hp) (M.ka q hq) ?_)
  dsimp only
  have hsb : Srt (p :: b.toList.drop (ib + 1)) := by rw [← ed]; exact (srt_app.mp j.sy).2.1
  have hsa : Srt (q :: a.toList.drop (ia + 1)) := by rw [← edq]; exact (srt_app.mp j.sx).2.1
  by_cases hlt : nk p < nk q
  · rw [if_pos (by simpa using hlt)]
    refine wpS_bind (wpS_elem e ?_)
    have j' : J L (out.push p).toList (a.toList.drop ia) (b.toList.drop (ib + 1)) := by
      rw [Array.toList_push]
      rw [ed] at j
      refine J.gb (y1 := [p]) j (fun x hx y hy => ?_)
      rw [List.mem_singleton.mp hx]
      rw [edq] at hy
      have := head_le hsa y hy
      omega
    by_cases h1 : ib + 1 = b.size
    · rw [if_pos (by simpa using h1)]
      exact wpS_pure ⟨hs, dn_fin j' (.inl h1)⟩
    · rw [if_neg (by simpa using h1)]
      have lo : Lo L a b (out.push p) ia (ib + 1) := ⟨ha, by omega, j'⟩
      split
      · exact wpS_pure ⟨hs, lo, by omega⟩
      · exact wpS_pure ⟨hs, lo, by omega⟩
  · rw [if_neg (by simpa using hlt)]
    refine wpS_bind (wpS_elem eq ?_)
    have j' : J L (out.push q).toList (a.toList.drop (ia + 1)) (b.toList.drop ib) := by
      rw [Array.toList_push]
      rw [edq] at j
      refine J.ga (x1 := [q]) j (fun x hx y hy => ?_)
      rw [List.mem_singleton.mp hx]
      rw [ed] at hy
      have := head_le hsb y hy
      omega
    by_cases h1 : ia + 1 + 1 = a.size
    · rw [if_pos (by simpa using h1)]
      exact wpS_pure ⟨hs, lA_fin j' h1 hT⟩
    · rw [if_neg (by simpa using h1)]
      have lo : Lo L a b (out.push q) (ia + 1) ib := ⟨by omega, hb, j'⟩
      split
      · exact wpS_pure ⟨hs, lo, by omega⟩
      · exact wpS_pure ⟨hs, lo, by omega⟩
theorem loopA_ok {g m : Nat} {out : Array Keyed} {ia ib : Nat} {st' : SortSt} (M : Ms a b st) (hT : Top a b) (hs : Sg st st') (hL : Lo L a b out ia ib) (hm : m ≤ ia + ib) :
    wpS (model prog w) A E s (forIn [0:a.size + b.size] ((none, out, ia, ib, 0, 0) : AS) (loA a b g))
      (fun d st'' => Sg st st'' ∧ match d with | (some r, _) => Fin L r | (none, out, ia, ib, _) => Lo L a b out ia ib ∧ m + 1 ≤ ia + ib) st' := by
  have hpos : 0 < a.size + b.size := by have := hL.ha; omega
  refine wpS_forRange (I := fun x (d : AS) st'' => Sg st st'' ∧ d.1 = none ∧ Lo L a b d.2.1 d.2.2.1 d.2.2.2.1 ∧ m + min x 1 ≤ d.2.2.1 + d.2.2.2.1) ?_ ?_ ⟨hs, rfl, hL, by show m + min 0 1 ≤ ia + ib; omega⟩
  · rintro x ⟨r, c⟩ st'' _ hx ⟨h1, h2, h3, h4⟩
    refine wpS_mono (loA_ok (m := m) M hT h1 h3 (by omega)) ?_
    rintro (⟨r', o, i1, i2, c'⟩ | ⟨r', o, i1, i2, c'⟩) st3 ⟨k1, k2⟩
    · cases r' with
      | some r' => exact ⟨k1, k2⟩
      | none => exact ⟨k1, k2⟩
    · cases r' with
      | some r' => exact k2.elim
      | none => exact ⟨k1, rfl, k2.1, by have := k2.2; show m + min (x + 1) 1 ≤ i1 + i2; omega⟩
  · rintro ⟨r, o, i1, i2, c⟩ st'' ⟨h1, h2, h3, h4⟩
    dsimp only at h2 h3 h4
    subst h2
    exact ⟨h1, h3, by omega⟩
theorem loopB_ok {g m ac bc : Nat} {out : Array Keyed} {ia ib : Nat} {st' : SortSt} (M : Ms a b st) (hT : Top a b) (hs : Sg st st') (hL : Lo L a b out ia ib) (hm : m ≤ ia + ib) :
    wpS (model prog w) A E s (forIn [0:a.size + b.size] ((none, out, ia, ib, g, ac, bc) : GS) (loB a b))
      (fun d st'' => Sg st st'' ∧ match d with | (some r, _) => Fin L r | (none, out, ia, ib, _) => Lo L a b out ia ib ∧ m ≤ ia + ib) st' := by
  refine wpS_forRange (I := fun x (d : GS) st'' => Sg st st'' ∧ d.1 = none ∧ Lo L a b d.2.1 d.2.2.1 d.2.2.2.1 ∧ m ≤ d.2.2.1 + d.2.2.2.1) ?_ ?_ ⟨hs, rfl, hL, hm⟩
  · rintro x d st'' _ hx ⟨h1, h2, h3, h4⟩
    have key : wpS (model prog w) A E s (loB a b x d) (PG L a b st (m + 1)) st'' := by
      unfold loB
      split
      · exact lo1_ok (m := m) M hT h1 h3 h4
      · exact lo1_ok (m := m) M hT h1 h3 h4
    refine wpS_mono key ?_
    rintro (⟨r', o, i1, i2, c'⟩ | ⟨r', o, i1, i2, c'⟩) st3 ⟨k1, k2⟩
    · cases r' with
      | some r' => exact ⟨k1, k2⟩
      | none => exact ⟨k1, k2.1, by have := k2.2; omega⟩
    · cases r' with
      | some r' => exact k2.elim
      | none => exact ⟨k1, rfl, k2.1, by have := k2.2; show m ≤ i1 + i2; omega⟩
  · rintro ⟨r, o, i1, i2, c⟩ st'' ⟨h1, h2, h3, h4⟩
    dsimp only at h2 h3 h4
    subst h2
    exact ⟨h1, h3, h4⟩
theorem loO_ok {c : OS} {x m : Nat} {st' : SortSt} (M : Ms a b st) (hT : Top a b) (hs : Sg st st') (hL : Lo L a b c.2.1 c.2.2.1 c.2.2.2.1) (hm : m ≤ c.2.2.1 + c.2.2.2.1) :
    wpS (model prog w) A E s (loO a b x c) (fun r st'' => Sg st st'' ∧ match r with
      | .done d => ∃ r, d.1 = some r ∧ Fin L r
      | .yield d => d.1 = none ∧ Lo L a b d.2.1 d.2.2.1 d.2.2.2.1 ∧ m + 1 ≤ d.2.2.1 + d.2.2.2.1) st' := by
  unfold loO
  refine wpS_bind (wpS_mono (loopA_ok (m := m) M hT hs hL hm) ?_)
  rintro ⟨r, o, i1, i2, ac, bc⟩ st2 ⟨h1, h2⟩
  cases r with
  | some r => exact wpS_pure ⟨h1, r, rfl, h2⟩
  | none =>
    refine wpS_bind (wpS_lift (wpAny_rule ⟨rfl, ?_⟩))
    refine wpS_bind (wpS_mono (loopB_ok (m := m + 1) M hT h1 h2.1 h2.2) ?_)
    rintro ⟨r, o, i1, i2, g, ac, bc⟩ st3 ⟨k1, k2⟩
    cases r with
    | some r => exact wpS_pure ⟨k1, r, rfl, k2⟩
    | none =>
      refine wpS_bind (wpS_modify (wpS_pure ⟨k1.set _, rfl, k2.1, k2.2⟩))
theorem mergeLo_ok {Q : Array Keyed → SortSt → Prop} (M : Ms a b st) (hT : Top a b) (h1 : 0 < a.size) (h2 : 0 < b.size) (sa : Srt a.toList) (sb : Srt b.toList)
    (hf : ∀ p, b.toList[0]? = some p → ∀ q ∈ a.toList, nk p ≤ nk q)
    (h : ∀ r st', Sg st st' → Fin (a.toList ++ b.toList) r → Q r st') : wpS (model prog w) A E s (mergeLo' a b) Q st := by
  rw [mergeLo'_eq]
  refine wpS_bind (wpS_lift (wpAny_rule ⟨rfl, ?_⟩))
  obtain ⟨p, e, hp, ed⟩ := get_at (a := b) (i := 0) h2
  refine wpS_bind (wpS_elem e ?_)
  have s0 : Sg st st := ⟨gallopOf st, rfl⟩
  have j : J (a.toList ++ b.toList) (#[p] : Array Keyed).toList (a.toList.drop 0) (b.toList.drop 1) := by
    have j0 : J (a.toList ++ b.toList) [] a.toList ([p] ++ b.toList.drop (0 + 1)) := by
      rw [List.drop_zero] at ed
      refine ⟨?_, ?_, ?_⟩
      · show ([] ++ (a.toList ++ (p :: b.toList.drop (0 + 1)))).Perm _
        rw [← ed]; exact List.Perm.refl _
      · exact sa
      · show Srt (p :: b.toList.drop (0 + 1))
        rw [← ed]; exact sb
    exact j0.gb (fun x hx q hq => by rw [List.mem_singleton.mp hx]; exact hf p e q hq)
  by_cases c1 : 1 = b.size
  · rw [if_pos (by simpa using c1)]
    exact wpS_pure (h _ _ s0 (dn_fin j (.inl c1)))
  · rw [if_neg (by simpa using c1)]
    by_cases c2 : 0 + 1 = a.size
    · rw [if_pos (by simpa using c2)]
      exact wpS_pure (h _ _ s0 (lA_fin j c2 hT))
    · rw [if_neg (by simpa using c2)]
      refine wpS_bind (wpS_get ?_)
      refine wpS_bind (wpS_mono (wpS_forRange (I := fun x (d : OS) st' => Sg st st' ∧ d.1 = none ∧ Lo (a.toList ++ b.toList) a b d.2.1 d.2.2.1 d.2.2.2.1 ∧ x + 1 ≤ d.2.2.1 + d.2.2.2.1)
        (Q := fun d st' => Sg st st' ∧ ∃ r, d.1 = some r ∧ Fin (a.toList ++ b.toList) r) ?_ ?_ ⟨s0, rfl, ⟨by show 0 + 1 < a.size; omega, by show 1 < b.size; omega, j⟩, by show 0 + 1 ≤ 0 + 1; omega⟩) ?_)
      · rintro x c st' _ hx ⟨k1, k2, k3, k4⟩
        refine wpS_mono (loO_ok (m := x + 1) M hT k1 k3 k4) ?_
        rintro (d | d) st'' ⟨l1, l2⟩
        · exact ⟨l1, l2⟩
        · exact ⟨l1, l2.1, l2.2.1, l2.2.2⟩
      · rintro c st' ⟨k1, k2, k3, k4⟩
        have := k3.ha
        have := k3.hb
        omega
      · rintro ⟨r, c⟩ st' ⟨k1, r', k2, k3⟩
        dsimp only at k2
        subst k2
        exact wpS_pure (h _ _ k1 k3)
end
end LS
set_option Elab.async false
set_option linter.all false
set_option maxRecDepth 100000
namespace LS
open PySem PyProof PyProof.Rows
abbrev HG : Type := Option (Array Keyed) × Nat × Nat × Array Keyed × Nat × Nat × Nat
abbrev HA : Type := Option (Array Keyed) × Nat × Nat × Array Keyed × Nat × Nat
abbrev HO : Type := Option (Array Keyed) × Nat × Nat × Array Keyed × Nat
abbrev dnH (a b out : Array Keyed) (na nb : Nat) : Array Keyed := a.extract 0 na ++ b.extract 0 nb ++ out.reverse
abbrev fB (a b out : Array Keyed) (na nb : Nat) : Array Keyed := b.extract 0 nb ++ a.extract 0 na ++ out.reverse
def hi3 (a b : Array Keyed) (g k k2 : Nat) (out : Array Keyed) (na nb : Nat) : StateT SortSt Sem (ForInStep HG) := do
  let p ← elem' a (na - 1)
  if (na - 1 == 0) = true then pure (.done (some (dnH a b (out.push p) (na - 1) nb), na - 1, nb, out.push p, g, k, k2)) else
  if (decide (k < 7) && decide (k2 < 7)) = true then pure (.done (none, na - 1, nb, out.push p, g, k, k2)) else pure (.yield (none, na - 1, nb, out.push p, g, k, k2))
def hi2 (a b : Array Keyed) (g k bc : Nat) (out : Array Keyed) (na nb : Nat) : StateT SortSt Sem (ForInStep HG) := do
  let p ← elem' b (nb - 1)
  if (nb - 1 == 1) = true then pure (.done (some (fB a b (out.push p) na (nb - 1)), na, nb - 1, out.push p, g, k, bc)) else do
  let q ← elem' a (na - 1)
  let x ← gallop' true q b 0 (nb - 1) (nb - 1 - 1)
  match x with
  | some t =>
    if nb - 1 - t > 0 then
      if (t == 1) = true then
        pure (.done (some (fB a b (out.push p ++ (b.extract t (nb - 1)).reverse) na t), na, t, out.push p ++ (b.extract t (nb - 1)).reverse, g, k, nb - 1 - t))
      else if (t == 0) = true then
        pure (.done (some (dnH a b (out.push p ++ (b.extract t (nb - 1)).reverse) na t), na, t, out.push p ++ (b.extract t (nb - 1)).reverse, g, k, nb - 1 - t))
      else hi3 a b g k (nb - 1 - t) (out.push p ++ (b.extract t (nb - 1)).reverse) na t
    else hi3 a b g k (nb - 1 - t) (out.push p) na (nb - 1)
  | _ => pure (.done (some (dnH a b (out.push p) na (nb - 1)), na, nb - 1, out.push p, g, k, bc))
def hi1 (a b : Array Keyed) (c : HG) (g : Nat) : StateT SortSt Sem (ForInStep HG) := do
  setMG g
  let p ← elem' b (c.2.2.1 - 1)
  let x ← gallop' false p a 0 c.2.1 (c.2.1 - 1)
  match x with
  | some t =>
    if c.2.1 - t > 0 then
      if (t == 0) = true then
        pure (.done (some (dnH a b (c.2.2.2.1 ++ (a.extract t c.2.1).reverse) t c.2.2.1), t, c.2.2.1, c.2.2.2.1 ++ (a.extract t c.2.1).reverse, g, c.2.1 - t, c.2.2.2.2.2.2))
      else hi2 a b g (c.2.1 - t) c.2.2.2.2.2.2 (c.2.2.2.1 ++ (a.extract t c.2.1).reverse) t c.2.2.1
    else hi2 a b g (c.2.1 - t) c.2.2.2.2.2.2 c.2.2.2.1 c.2.1 c.2.2.1
  | _ => pure (.done (some (dnH a b c.2.2.2.1 c.2.1 c.2.2.1), c.2.1, c.2.2.1, c.2.2.2.1, g, c.2.2.2.2.2.1, c.2.2.2.2.2.2))
def hiB (a b : Array Keyed) (_ : Nat) (c : HG) : StateT SortSt Sem (ForInStep HG) :=
  if c.2.2.2.2.1 > 1 then hi1 a b c (c.2.2.2.2.1 - 1) else hi1 a b c c.2.2.2.2.1
def hiA (a b : Array Keyed) (g : Nat) (_ : Nat) (c : HA) : StateT SortSt Sem (ForInStep HA) := do
  let p ← elem' b (c.2.2.1 - 1)
  let q ← elem' a (c.2.1 - 1)
  let x ← lt' p q
  match x with
  | some aWins =>
    if aWins = true then do
      let p ← elem' a (c.2.1 - 1)
      if (c.2.1 - 1 == 0) = true then pure (.done (some (dnH a b (c.2.2.2.1.push p) (c.2.1 - 1) c.2.2.1), c.2.1 - 1, c.2.2.1, c.2.2.2.1.push p, c.2.2.2.2.1 + 1, 0))
      else if c.2.2.2.2.1 + 1 ≥ g then pure (.done (none, c.2.1 - 1, c.2.2.1, c.2.2.2.1.push p, c.2.2.2.2.1 + 1, 0))
      else pure (.yield (none, c.2.1 - 1, c.2.2.1, c.2.2.2.1.push p, c.2.2.2.2.1 + 1, 0))
    else do
      let p ← elem' b (c.2.2.1 - 1)
      if (c.2.2.1 - 1 == 1) = true then pure (.done (some (fB a b (c.2.2.2.1.push p) c.2.1 (c.2.2.1 - 1)), c.2.1, c.2.2.1 - 1, c.2.2.2.1.push p, 0, c.2.2.2.2.2 + 1))
      else if c.2.2.2.2.2 + 1 ≥ g then pure (.done (none, c.2.1, c.2.2.1 - 1, c.2.2.2.1.push p, 0, c.2.2.2.2.2 + 1))
      else pure (.yield (none, c.2.1, c.2.2.1 - 1, c.2.2.2.1.push p, 0, c.2.2.2.2.2 + 1))
  | _ => pure (.done (some (dnH a b c.2.2.2.1 c.2.1 c.2.2.1), c.2.1, c.2.2.1, c.2.2.2.1, c.2.2.2.2.1, c.2.2.2.2.2))
def hiO (a b : Array Keyed) (_ : Nat) (c : HO) : StateT SortSt Sem (ForInStep HO) := do
  let d ← forIn [0:a.size + b.size] ((none, c.2.1, c.2.2.1, c.2.2.2.1, 0, 0) : HA) (hiA a b c.2.2.2.2)
  match d.1 with
  | some r => pure (.done (some r, d.2.1, d.2.2.1, d.2.2.2.1, c.2.2.2.2))
  | none => do
    liftM (rule "list.sort.gallop")
    let e ← forIn [0:a.size + b.size] ((none, d.2.1, d.2.2.1, d.2.2.2.1, c.2.2.2.2 + 1, d.2.2.2.2.1, d.2.2.2.2.2) : HG) (hiB a b)
    match e.1 with
    | some r => pure (.done (some r, e.2.1, e.2.2.1, e.2.2.2.1, e.2.2.2.2.1))
    | none => do
      setMG (e.2.2.2.2.1 + 1)
      pure (.yield (none, e.2.1, e.2.2.1, e.2.2.2.1, e.2.2.2.2.1 + 1))
theorem mergeHi'_eq (a b : Array Keyed) : mergeHi' a b = (do
  liftM (rule "list.sort.merge-hi")
  let p ← elem' a (a.size - 1)
  if (a.size - 1 == 0) = true then pure (dnH a b #[p] (a.size - 1) b.size) else
  if (b.size == 1) = true then pure (fB a b #[p] (a.size - 1) b.size) else do
  let s ← get
  let c ← forIn [0:a.size + b.size] ((none, a.size - 1, b.size, #[p], gallopOf s) : HO) (hiO a b)
  match c.1 with
  | some r => pure r
  | none => liftM (unsupported (α := Array Keyed) "internal:list.sort.merge-bound")) := by
  kernel_rfl
structure JH (L R x y : List Keyed) : Prop where
  perm : (x ++ y ++ R).Perm L
  sx : Srt (x ++ R)
  sy : Srt (y ++ R)
theorem JH.ga {L R x1 x2 y : List Keyed} (h : JH L R (x1 ++ x2) y) (hl : ∀ p ∈ x2, ∀ q ∈ y, nk q ≤ nk p) : JH L (x2 ++ R) x1 y := by
  have a := h.sx
  have b := srt_app.mp h.sy
  refine ⟨?_, by simpa [List.append_assoc] using a, ?_⟩
  · refine List.Perm.trans ?_ h.perm
    rw [List.append_assoc, List.append_assoc, List.append_assoc]
    refine List.Perm.append_left x1 ?_
    rw [← List.append_assoc, ← List.append_assoc]
    exact List.Perm.append_right R List.perm_append_comm
  · rw [List.append_assoc] at a
    refine srt_app.mpr ⟨b.1, (srt_app.mp a).2.1, ?_⟩
    intro p hp q hq
    rcases List.mem_append.mp hq with hq | hq
    · exact hl q hq p hp
    · exact b.2.2 p hp q hq
theorem JH.swap {L R x y : List Keyed} (h : JH L R x y) : JH L R y x := ⟨(List.perm_append_comm.append_right R).trans h.perm, h.sy, h.sx⟩
theorem JH.gb {L R x y1 y2 : List Keyed} (h : JH L R x (y1 ++ y2)) (hl : ∀ p ∈ y2, ∀ q ∈ x, nk q ≤ nk p) : JH L (y2 ++ R) x y1 := (h.swap.ga hl).swap
theorem ext_0 (a : Array Keyed) (n : Nat) : (a.extract 0 n).toList = a.toList.take n := by
  simp [List.extract_eq_take_drop]
theorem ext_m (a : Array Keyed) (t n : Nat) : (a.extract t n).toList = (a.toList.take n).drop t := by
  simp only [Array.toList_extract, List.extract_eq_take_drop]
  rw [List.drop_take]
theorem dnH_fin {L : List Keyed} {a b out : Array Keyed} {na nb : Nat} (h : JH L out.toList.reverse (a.toList.take na) (b.toList.take nb)) (hz : na = 0 ∨ nb = 0) : Fin L (dnH a b out na nb) := by
  have e : (dnH a b out na nb).toList = a.toList.take na ++ b.toList.take nb ++ out.toList.reverse := by
    show (a.extract 0 na ++ b.extract 0 nb ++ out.reverse).toList = _
    rw [Array.toList_append, Array.toList_append, ext_0, ext_0, Array.toList_reverse]
  unfold Fin
  rw [e]
  refine ⟨h.perm, ?_⟩
  rcases hz with rfl | rfl
  · rw [List.take_zero, List.nil_append]
    exact h.sy
  · rw [List.take_zero, List.append_nil]
    exact h.sx
theorem fB_fin {L : List Keyed} {a b out : Array Keyed} {na nb : Nat} (h : JH L out.toList.reverse (a.toList.take na) (b.toList.take nb)) (hb : nb = 1)
    (ht : ∀ p ∈ b.toList.take 1, ∀ q ∈ a.toList, nk p ≤ nk q) : Fin L (fB a b out na nb) := by
  have e : (fB a b out na nb).toList = b.toList.take nb ++ a.toList.take na ++ out.toList.reverse := by
    show (b.extract 0 nb ++ a.extract 0 na ++ out.reverse).toList = _
    rw [Array.toList_append, Array.toList_append, ext_0, ext_0, Array.toList_reverse]
  unfold Fin
  rw [e]
  refine ⟨h.swap.perm, ?_⟩
  have x := srt_app.mp h.sx
  have y := srt_app.mp h.sy
  refine srt_app.mpr ⟨srt_app.mpr ⟨y.1, x.1, ?_⟩, x.2.1, ?_⟩
  · intro p hp q hq
    exact ht p (by rw [← hb]; exact hp) q (List.mem_of_mem_take hq)
  · intro p hp q hq
    rcases List.mem_append.mp hp with hp | hp
    · exact y.2.2 p hp q hq
    · exact x.2.2 p hp q hq
section
variable {prog : Program} {w : World} {A : Around} {E : Value → Shared → Prop} {s : Shared} {L : List Keyed} {a b : Array Keyed} {st : SortSt}
structure Hi (L : List Keyed) (a b out : Array Keyed) (na nb : Nat) : Prop where
  h1 : 0 < na
  h2 : 1 < nb
  ha : na ≤ a.size
  hb : nb ≤ b.size
  j : JH L out.toList.reverse (a.toList.take na) (b.toList.take nb)
def Bot (a b : Array Keyed) : Prop := ∀ p ∈ b.toList.take 1, ∀ q ∈ a.toList, nk p ≤ nk q
theorem get_top {a : Array Keyed} {n : Nat} (h0 : 0 < n) (h : n ≤ a.size) : ∃ p, a.toList[n - 1]? = some p ∧ p ∈ a.toList ∧ a.toList.take n = a.toList.take (n - 1) ++ [p] := by
  have h' : n - 1 < a.toList.length := by simp; omega
  refine ⟨a.toList[n - 1], List.getElem?_eq_getElem h', List.getElem_mem h', ?_⟩
  have := List.take_append_getElem h'
  rw [this]
  congr 1
  omega
theorem last_ge {x : List Keyed} {p : Keyed} (h : Srt (x ++ [p])) : ∀ q ∈ x ++ [p], nk q ≤ nk p := by
  intro q hq
  rcases List.mem_append.mp hq with hq | hq
  · exact (srt_app.mp h).2.2 q hq p (List.mem_singleton.mpr rfl)
  · rw [List.mem_singleton.mp hq]; exact Int.le_refl _
def PH (L : List Keyed) (a b : Array Keyed) (st : SortSt) (m : Nat) (r : ForInStep HG) (st' : SortSt) : Prop :=
  Sg st st' ∧ match r with
  | .done (some r, _) => Fin L r
  | .done (none, na, nb, out, _) => Hi L a b out na nb ∧ na + nb + m ≤ a.size + b.size
  | .yield (none, na, nb, out, _) => Hi L a b out na nb ∧ na + nb + m ≤ a.size + b.size
  | .yield (some _, _) => False
theorem hi3_ok {g k k2 : Nat} {out : Array Keyed} {na nb m : Nat} {st' : SortSt} (M : Ms a b st) (hs : Sg st st') (h : Hi L a b out na nb) (hm : na + nb + m ≤ a.size + b.size)
    (hl : ∀ p, a.toList[na - 1]? = some p → ∀ q ∈ b.toList.take nb, nk q ≤ nk p) :
    wpS (model prog w) A E s (hi3 a b g k k2 out na nb) (PH L a b st (m + 1)) st' := by
  obtain ⟨z1, z2, ha, hb, j⟩ := h
  unfold hi3
  obtain ⟨p, e, hp, ed⟩ := get_top (a := a) z1 ha
  refine wpS_bind (wpS_elem e ?_)
  have j' : JH L (out.push p).toList.reverse (a.toList.take (na - 1)) (b.toList.take nb) := by
    rw [Array.toList_push, List.reverse_append]
    rw [ed] at j
    exact JH.ga (x2 := [p]) j (fun x hx q hq => by rw [List.mem_singleton.mp hx]; exact hl p e q hq)
  by_cases h1 : na - 1 = 0
  · rw [if_pos (by simpa using h1)]
    exact wpS_pure ⟨hs, dnH_fin j' (.inl h1)⟩
  · rw [if_neg (by simpa using h1)]
    have lo : Hi L a b (out.push p) (na - 1) nb := ⟨by omega, z2, by omega, hb, j'⟩
    split
    · exact wpS_pure ⟨hs, lo, by omega⟩
    · exact wpS_pure ⟨hs, lo, by omega⟩
theorem hi2_ok {g k bc : Nat} {out : Array Keyed} {na nb m : Nat} {st' : SortSt} (M : Ms a b st) (hB : Bot a b) (hs : Sg st st') (h : Hi L a b out na nb) (hm : na + nb + m ≤ a.size + b.size)
    (hl : ∀ p, b.toList[nb - 1]? = some p → ∀ q ∈ a.toList.take na, nk q ≤ nk p) :
    wpS (model prog w) A E s (hi2 a b g k bc out na nb) (PH L a b st (m + 1)) st' := by
  obtain ⟨z1, z2, ha, hb, j⟩ := h
  unfold hi2
  obtain ⟨p, e, hp, ed⟩ := get_top (a := b) (n := nb) (by omega) hb
  refine wpS_bind (wpS_elem e ?_)
  have j' : JH L (out.push p).toList.reverse (a.toList.take na) (b.toList.take (nb - 1)) := by
    rw [Array.toList_push, List.reverse_append]
    rw [ed] at j
    exact JH.gb (y2 := [p]) j (fun x hx q hq => by rw [List.mem_singleton.mp hx]; exact hl p e q hq)
  by_cases h1 : nb - 1 = 1
  · rw [if_pos (by simpa using h1)]
    exact wpS_pure ⟨hs, fB_fin j' h1 hB⟩
  · rw [if_neg (by simpa using h1)]
    obtain ⟨q, eq, hq, edq⟩ := get_top (a := a) z1 ha
    refine wpS_bind (wpS_elem eq ?_)
    have hsa : Srt (a.toList.take (na - 1) ++ [q]) := by rw [← edq]; exact (srt_app.mp j'.sx).1
    refine wpS_bind (gal_left (b.toList.take (nb - 1)) (by simp; omega) (fun i hi => by rw [Nat.zero_add, List.getElem?_take_of_lt hi]) ((M.of hs).kind) (fun x hx => M.kb x (List.mem_of_mem_take hx)) (M.ka q hq)
      (srt_app.mp j'.sy).1 (by omega) fun t ht c1 c2 => ?_)
    dsimp only
    have ht2 : (b.toList.take (nb - 1)).take t = b.toList.take t := by rw [List.take_take]; congr 1; omega
    have j2 : JH L ((b.toList.take (nb - 1)).drop t ++ (out.push p).toList.reverse) (a.toList.take na) (b.toList.take t) := by
      refine JH.gb (by rw [← ht2, List.take_append_drop]; exact j') fun x hx y hy => ?_
      rw [edq] at hy
      have := last_ge hsa y hy
      have := c2 x hx
      omega
    have hle : ∀ p, a.toList[na - 1]? = some p → ∀ x ∈ b.toList.take t, nk x ≤ nk p := by
      intro p' ep x hx
      rw [eq] at ep
      cases ep
      rw [← ht2] at hx
      exact Int.le_of_lt (c1 x hx)
    by_cases hk : nb - 1 - t > 0
    · rw [if_pos hk]
      have j3 : JH L (out.push p ++ (b.extract t (nb - 1)).reverse).toList.reverse (a.toList.take na) (b.toList.take t) := by
        rw [Array.toList_append, List.reverse_append, Array.toList_reverse, List.reverse_reverse, ext_m]
        exact j2
      by_cases h2 : t = 1
      · rw [if_pos (by simpa using h2)]
        exact wpS_pure ⟨hs, fB_fin j3 h2 hB⟩
      · rw [if_neg (by simpa using h2)]
        by_cases h3 : t = 0
        · rw [if_pos (by simpa using h3)]
          exact wpS_pure ⟨hs, dnH_fin j3 (.inr h3)⟩
        · rw [if_neg (by simpa using h3)]
          exact hi3_ok (m := m) M hs ⟨z1, by omega, ha, by omega, j3⟩ (by omega) hle
    · rw [if_neg hk]
      have k0 : t = nb - 1 := by omega
      subst k0
      exact hi3_ok (m := m) M hs ⟨z1, by omega, ha, by omega, j'⟩ (by omega) hle
theorem hi1_ok {c : HG} {g m : Nat} {st' : SortSt} (M : Ms a b st) (hB : Bot a b) (hs : Sg st st') (h : Hi L a b c.2.2.2.1 c.2.1 c.2.2.1) (hm : c.2.1 + c.2.2.1 + m ≤ a.size + b.size) :
    wpS (model prog w) A E s (hi1 a b c g) (PH L a b st (m + 1)) st' := by
  obtain ⟨r, na, nb, out, g0, ac, bc⟩ := c
  dsimp only at h hm
  obtain ⟨z1, z2, ha, hb, j⟩ := h
  unfold hi1
  dsimp only
  refine wpS_bind (wpS_modify ?_)
  obtain ⟨p, e, hp, ed⟩ := get_top (a := b) (n := nb) (by omega) hb
  refine wpS_bind (wpS_elem e ?_)
  have hs' : Sg st (setG st' g) := hs.set g
  have hsb : Srt (b.toList.take (nb - 1) ++ [p]) := by rw [← ed]; exact (srt_app.mp j.sy).1
  refine wpS_bind (gal_right (a.toList.take na) (by simp; omega) (fun i hi => by rw [Nat.zero_add, List.getElem?_take_of_lt hi]) ((M.of hs').kind) (fun x hx => M.ka x (List.mem_of_mem_take hx)) (M.kb p hp)
    (srt_app.mp j.sx).1 (by omega) fun t ht c1 c2 => ?_)
  dsimp only
  have ht2 : (a.toList.take na).take t = a.toList.take t := by rw [List.take_take]; congr 1; omega
  have j2 : JH L ((a.toList.take na).drop t ++ out.toList.reverse) (a.toList.take t) (b.toList.take nb) := by
    refine JH.ga (by rw [← ht2, List.take_append_drop]; exact j) fun x hx y hy => ?_
    rw [ed] at hy
    have := last_ge hsb y hy
    have := c2 x hx
    omega
  have hle : ∀ p', b.toList[nb - 1]? = some p' → ∀ x ∈ a.toList.take t, nk x ≤ nk p' := by
    intro p' ep x hx
    rw [e] at ep
    cases ep
    rw [← ht2] at hx
    exact c1 x hx
  by_cases hk : na - t > 0
  · rw [if_pos hk]
    have j3 : JH L (out ++ (a.extract t na).reverse).toList.reverse (a.toList.take t) (b.toList.take nb) := by
      rw [Array.toList_append, List.reverse_append, Array.toList_reverse, List.reverse_reverse, ext_m]
      exact j2
    by_cases h3 : t = 0
    · rw [if_pos (by simpa using h3)]
      exact wpS_pure ⟨hs', dnH_fin j3 (.inl h3)⟩
    · rw [if_neg (by simpa using h3)]
      exact hi2_ok (m := m) M hB hs' ⟨by omega, z2, by omega, hb, j3⟩ (by omega) hle
  · rw [if_neg hk]
    have k0 : t = na := by omega
    subst k0
    exact hi2_ok (m := m) M hB hs' ⟨z1, z2, ha, hb, j⟩ (by omega) hle
def PHA (L : List Keyed) (a b : Array Keyed) (st : SortSt) (m : Nat) (r : ForInStep HA) (st' : SortSt) : Prop :=
  Sg st st' ∧ match r with
  | .done (some r, _) => Fin L r
  | .done (none, na, nb, out, _) => Hi L a b out na nb ∧ na + nb + m ≤ a.size + b.size
  | .yield (none, na, nb, out, _) => Hi L a b out na nb ∧ na + nb + m ≤ a.size + b.size
  | .yield (some _, _) => False
theorem hiA_ok {c : HA} {g x m : Nat} {st' : SortSt} (M : Ms a b st) (hB : Bot a b) (hs : Sg st st') (h : Hi L a b c.2.2.2.1 c.2.1 c.2.2.1) (hm : c.2.1 + c.2.2.1 + m ≤ a.size + b.size) :
    wpS (model prog w) A E s (hiA a b g x c) (PHA L a b st (m + 1)) st' := by
  obtain ⟨r, na, nb, out, ac, bc⟩ := c
  dsimp only at h hm
  obtain ⟨z1, z2, ha, hb, j⟩ := h
  unfold hiA
  dsimp only
  obtain ⟨p, e, hp, ed⟩ := get_top (a := b) (n := nb) (by omega) hb
  obtain ⟨q, eq, hq, edq⟩ := get_top (a := a) z1 ha
  refine wpS_bind (wpS_elem e ?_)
  refine wpS_bind (wpS_elem eq ?_)
  refine wpS_bind (wpS_lt ((M.of hs).kind) (M.kb p hp) (M.ka q hq) ?_)
  dsimp only
  have hsb : Srt (b.toList.take (nb - 1) ++ [p]) := by rw [← ed]; exact (srt_app.mp j.sy).1
  have hsa : Srt (a.toList.take (na - 1) ++ [q]) := by rw [← edq]; exact (srt_app.mp j.sx).1
  by_cases hlt : nk p < nk q
  · rw [if_pos (by simpa using hlt)]
    refine wpS_bind (wpS_elem eq ?_)
    have j' : JH L (out.push q).toList.reverse (a.toList.take (na - 1)) (b.toList.take nb) := by
      rw [Array.toList_push, List.reverse_append]
      rw [edq] at j
      refine JH.ga (x2 := [q]) j (fun x hx y hy => ?_)
      rw [List.mem_singleton.mp hx]
      rw [ed] at hy
      have := last_ge hsb y hy
      omega
    by_cases h1 : na - 1 = 0
    · rw [if_pos (by simpa using h1)]
      exact wpS_pure ⟨hs, dnH_fin j' (.inl h1)⟩
    · rw [if_neg (by simpa using h1)]
      have lo : Hi L a b (out.push q) (na - 1) nb := ⟨by omega, z2, by omega, hb, j'⟩
      split
      · exact wpS_pure ⟨hs, lo, by omega⟩
      · exact wpS_pure ⟨hs, lo, by omega⟩
  · rw [if_neg (by simpa using hlt)]
    refine wpS_bind (wpS_elem e ?_)
    have j' : JH L (out.push p).toList.reverse (a.toList.take na) (b.toList.take (nb - 1)) := by
      rw [Array.toList_push, List.reverse_append]
      rw [ed] at j
      refine JH.gb (y2 := [p]) j (fun x hx y hy => ?_)
      rw [List.mem_singleton.mp hx]
      rw [edq] at hy
      have := last_ge hsa y hy
      omega
    by_cases h1 : nb - 1 = 1
    · rw [if_pos (by simpa using h1)]
      exact wpS_pure ⟨hs, fB_fin j' h1 hB⟩
    · rw [if_neg (by simpa using h1)]
      have lo : Hi L a b (out.push p) na (nb - 1) := ⟨z1, by omega, ha, by omega, j'⟩
      split
      · exact wpS_pure ⟨hs, lo, by omega⟩
      · exact wpS_pure ⟨hs, lo, by omega⟩
theorem loopHA_ok {g m : Nat} {out : Array Keyed} {na nb : Nat} {st' : SortSt} (M : Ms a b st) (hB : Bot a b) (hs : Sg st st') (hL : Hi L a b out na nb) (hm : na + nb + m ≤ a.size + b.size) :
    wpS (model prog w) A E s (forIn [0:a.size + b.size] ((none, na, nb, out, 0, 0) : HA) (hiA a b g))
      (fun d st'' => Sg st st'' ∧ match d with | (some r, _) => Fin L r | (none, na, nb, out, _) => Hi L a b out na nb ∧ na + nb + (m + 1) ≤ a.size + b.size) st' := by
  have hpos : 0 < a.size + b.size := by have := hL.h1; have := hL.ha; omega
  refine wpS_forRange (I := fun x (d : HA) st'' => Sg st st'' ∧ d.1 = none ∧ Hi L a b d.2.2.2.1 d.2.1 d.2.2.1 ∧ d.2.1 + d.2.2.1 + (m + min x 1) ≤ a.size + b.size) ?_ ?_
    ⟨hs, rfl, hL, by show na + nb + (m + min 0 1) ≤ _; omega⟩
  · rintro x ⟨r, c⟩ st'' _ hx ⟨h1, h2, h3, h4⟩
    refine wpS_mono (hiA_ok (m := m) M hB h1 h3 (by omega)) ?_
    rintro (⟨r', i1, i2, o, c'⟩ | ⟨r', i1, i2, o, c'⟩) st3 ⟨k1, k2⟩
    · cases r' with
      | some r' => exact ⟨k1, k2⟩
      | none => exact ⟨k1, k2⟩
    · cases r' with
      | some r' => exact k2.elim
      | none => exact ⟨k1, rfl, k2.1, by have := k2.2; show i1 + i2 + (m + min (x + 1) 1) ≤ _; omega⟩
  · rintro ⟨r, i1, i2, o, c⟩ st'' ⟨h1, h2, h3, h4⟩
    dsimp only at h2 h3 h4
    subst h2
    exact ⟨h1, h3, by omega⟩
theorem loopHB_ok {g m ac bc : Nat} {out : Array Keyed} {na nb : Nat} {st' : SortSt} (M : Ms a b st) (hB : Bot a b) (hs : Sg st st') (hL : Hi L a b out na nb) (hm : na + nb + m ≤ a.size + b.size) :
    wpS (model prog w) A E s (forIn [0:a.size + b.size] ((none, na, nb, out, g, ac, bc) : HG) (hiB a b))
      (fun d st'' => Sg st st'' ∧ match d with | (some r, _) => Fin L r | (none, na, nb, out, _) => Hi L a b out na nb ∧ na + nb + m ≤ a.size + b.size) st' := by
  refine wpS_forRange (I := fun x (d : HG) st'' => Sg st st'' ∧ d.1 = none ∧ Hi L a b d.2.2.2.1 d.2.1 d.2.2.1 ∧ d.2.1 + d.2.2.1 + m ≤ a.size + b.size) ?_ ?_ ⟨hs, rfl, hL, hm⟩
  · rintro x d st'' _ hx ⟨h1, h2, h3, h4⟩
    have key : wpS (model prog w) A E s (hiB a b x d) (PH L a b st (m + 1)) st'' := by
      unfold hiB
      split
      · exact hi1_ok (m := m) M hB h1 h3 h4
      · exact hi1_ok (m := m) M hB h1 h3 h4
    refine wpS_mono key ?_
    rintro (⟨r', i1, i2, o, c'⟩ | ⟨r', i1, i2, o, c'⟩) st3 ⟨k1, k2⟩
    · cases r' with
      | some r' => exact ⟨k1, k2⟩
      | none => exact ⟨k1, k2.1, by have := k2.2; omega⟩
    · cases r' with
      | some r' => exact k2.elim
      | none => exact ⟨k1, rfl, k2.1, by have := k2.2; show i1 + i2 + m ≤ _; omega⟩
  · rintro ⟨r, i1, i2, o, c⟩ st'' ⟨h1, h2, h3, h4⟩
    dsimp only at h2 h3 h4
    subst h2
    exact ⟨h1, h3, h4⟩
theorem hiO_ok {c : HO} {x m : Nat} {st' : SortSt} (M : Ms a b st) (hB : Bot a b) (hs : Sg st st') (hL : Hi L a b c.2.2.2.1 c.2.1 c.2.2.1) (hm : c.2.1 + c.2.2.1 + m ≤ a.size + b.size) :
    wpS (model prog w) A E s (hiO a b x c) (fun r st'' => Sg st st'' ∧ match r with
      | .done d => ∃ r, d.1 = some r ∧ Fin L r
      | .yield d => d.1 = none ∧ Hi L a b d.2.2.2.1 d.2.1 d.2.2.1 ∧ d.2.1 + d.2.2.1 + (m + 1) ≤ a.size + b.size) st' := by
  unfold hiO
  refine wpS_bind (wpS_mono (loopHA_ok (m := m) M hB hs hL hm) ?_)
  rintro ⟨r, i1, i2, o, ac, bc⟩ st2 ⟨h1, h2⟩
  cases r with
  | some r => exact wpS_pure ⟨h1, r, rfl, h2⟩
  | none =>
    refine wpS_bind (wpS_lift (wpAny_rule ⟨rfl, ?_⟩))
    refine wpS_bind (wpS_mono (loopHB_ok (m := m + 1) M hB h1 h2.1 h2.2) ?_)
    rintro ⟨r, i1, i2, o, g, ac, bc⟩ st3 ⟨k1, k2⟩
    cases r with
    | some r => exact wpS_pure ⟨k1, r, rfl, k2⟩
    | none => exact wpS_bind (wpS_modify (wpS_pure ⟨k1.set _, rfl, k2.1, k2.2⟩))
theorem mergeHi_ok {Q : Array Keyed → SortSt → Prop} (M : Ms a b st) (hB : Bot a b) (h1 : 0 < a.size) (h2 : 0 < b.size) (sa : Srt a.toList) (sb : Srt b.toList)
    (hf : ∀ p, a.toList[a.size - 1]? = some p → ∀ q ∈ b.toList, nk q ≤ nk p)
    (h : ∀ r st', Sg st st' → Fin (a.toList ++ b.toList) r → Q r st') : wpS (model prog w) A E s (mergeHi' a b) Q st := by
  rw [mergeHi'_eq]
  refine wpS_bind (wpS_lift (wpAny_rule ⟨rfl, ?_⟩))
  obtain ⟨p, e, hp, ed⟩ := get_top (a := a) h1 (Nat.le_refl _)
  refine wpS_bind (wpS_elem e ?_)
  have s0 : Sg st st := ⟨gallopOf st, rfl⟩
  have ea : a.toList.take a.size = a.toList := List.take_of_length_le (by simp)
  have eb : b.toList.take b.size = b.toList := List.take_of_length_le (by simp)
  have j : JH (a.toList ++ b.toList) (#[p] : Array Keyed).toList.reverse (a.toList.take (a.size - 1)) (b.toList.take b.size) := by
    have j0 : JH (a.toList ++ b.toList) [] (a.toList.take (a.size - 1) ++ [p]) b.toList := by
      rw [← ed, ea]
      exact ⟨by rw [List.append_nil], by rw [List.append_nil]; exact sa, by rw [List.append_nil]; exact sb⟩
    rw [eb]
    exact j0.ga (fun x hx q hq => by rw [List.mem_singleton.mp hx]; exact hf p e q hq)
  by_cases c1 : a.size - 1 = 0
  · rw [if_pos (by simpa using c1)]
    exact wpS_pure (h _ _ s0 (dnH_fin j (.inl c1)))
  · rw [if_neg (by simpa using c1)]
    by_cases c2 : b.size = 1
    · rw [if_pos (by simpa using c2)]
      exact wpS_pure (h _ _ s0 (fB_fin j c2 hB))
    · rw [if_neg (by simpa using c2)]
      refine wpS_bind (wpS_get ?_)
      refine wpS_bind (wpS_mono (wpS_forRange (I := fun x (d : HO) st' => Sg st st' ∧ d.1 = none ∧ Hi (a.toList ++ b.toList) a b d.2.2.2.1 d.2.1 d.2.2.1 ∧ d.2.1 + d.2.2.1 + (x + 1) ≤ a.size + b.size)
        (Q := fun d st' => Sg st st' ∧ ∃ r, d.1 = some r ∧ Fin (a.toList ++ b.toList) r) ?_ ?_
        ⟨s0, rfl, ⟨by show 0 < a.size - 1; omega, by show 1 < b.size; omega, by show a.size - 1 ≤ _; omega, Nat.le_refl _, j⟩, by show a.size - 1 + b.size + (0 + 1) ≤ _; omega⟩) ?_)
      · rintro x c st' _ hx ⟨k1, k2, k3, k4⟩
        refine wpS_mono (hiO_ok (m := x + 1) M hB k1 k3 k4) ?_
        rintro (d | d) st'' ⟨l1, l2⟩
        · exact ⟨l1, l2⟩
        · exact ⟨l1, l2.1, l2.2.1, l2.2.2⟩
      · rintro c st' ⟨k1, k2, k3, k4⟩
        have := k3.h1
        omega
      · rintro ⟨r, c⟩ st' ⟨k1, r', k2, k3⟩
        dsimp only at k2
        subst k2
        exact wpS_pure (h _ _ k1 k3)
end
end LS
set_option Elab.async false
set_option linter.all false
set_option maxRecDepth 100000
namespace LS
open PySem PyProof PyProof.Rows
def mA3 (a0 : Array Keyed) (sa na sb t : Nat) : StateT SortSt Sem Bool := do
  let merged ← if na ≤ t then mergeLo' (a0.extract sa sb) (a0.extract sb (sb + t)) else mergeHi' (a0.extract sa sb) (a0.extract sb (sb + t))
  modify fun s => setArr s (merged.toList.zipIdx.foldl (fun a x => a.setIfInBounds (sa + x.2) x.1) (arrOf s))
  let s ← get
  pure (failedOf s).isNone
def mA2 (a0 : Array Keyed) (sa na sb nb : Nat) : StateT SortSt Sem Bool := do
  let q ← elem' a0 (sa + na - 1)
  let x ← gallop' true q a0 sb nb (nb - 1)
  match x with
  | some t => if (t == 0) = true then pure true else mA3 a0 sa na sb t
  | _ => pure false
def mA1 (a0 : Array Keyed) (sa na sb nb : Nat) : StateT SortSt Sem Bool := do
  let p ← elem' a0 sb
  let x ← gallop' false p a0 sa na 0
  match x with
  | some k => if (na - k == 0) = true then pure true else mA2 a0 (sa + k) (na - k) sb nb
  | _ => pure false
theorem mergeAt'_eq (i : Nat) : mergeAt' i = (do
  let s ← get
  match (pendingOf s)[i]?, (pendingOf s)[i + 1]? with
  | some (sa, na, pw), some (sb, nb, _) => do
    set (setPending s (((pendingOf s).setIfInBounds i (sa, na + nb, pw)).eraseIdxIfInBounds (i + 1)))
    mA1 (arrOf s) sa na sb nb
  | _, _ => liftM (unsupported (α := Bool) "internal:list.sort.pending")) := by
  kernel_rfl
theorem put_back (b : Nat) : ∀ (l P W Z : List Keyed) (j : Nat) (arr : Array Keyed), W.length = l.length → P.length = b + j → arr.toList = P ++ (W ++ Z) →
    ((l.zipIdx j).foldl (fun (a : Array Keyed) x => a.setIfInBounds (b + x.2) x.1) arr).toList = P ++ (l ++ Z)
  | [], P, W, Z, j, arr, h1, h2, h3 => by
    have : W = [] := List.length_eq_zero_iff.mp h1
    subst this
    exact h3
  | p :: l, P, [], Z, j, arr, h1, h2, h3 => by simp at h1
  | p :: l, P, v :: W, Z, j, arr, h1, h2, h3 => by
    rw [List.zipIdx_cons, List.foldl_cons]
    have e : (arr.setIfInBounds (b + j) p).toList = (P ++ [p]) ++ (W ++ Z) := by
      rw [Array.toList_setIfInBounds, h3, ← h2, List.set_append_right _ _ (Nat.le_refl _), Nat.sub_self]
      simp
    have := put_back b l (P ++ [p]) W Z (j + 1) (arr.setIfInBounds (b + j) p) (by simpa using h1) (by simp [h2]; omega) e
    rw [this]
    simp
section
variable {prog : Program} {w : World} {A : Around} {E : Value → Shared → Prop} {s : Shared}
theorem wpS_set {σ : Type} {st0 : σ} {Q : PUnit → σ → Prop} {st : σ} {M : Model} (h : Q ⟨⟩ st0) : wpS M A E s (set st0 : StateT σ Sem PUnit) Q st := by
  unfold wpS; rw [StateT.run_set]; exact wpAny_pure ⟨rfl, h⟩
structure Kn (st : SortSt) : Prop where
  kind : kindOf st = oneType'
  fl : failedOf st = none
  ik : ∀ p ∈ (arrOf st).toList, IK p
theorem ext_in {a : Array Keyed} {P X Z : List Keyed} {i j : Nat} (e : a.toList = P ++ (X ++ Z)) (hi : i = P.length) (hj : j = i + X.length) : (a.extract i j).toList = X := by
  simp only [Array.toList_extract, List.extract_eq_take_drop]
  rw [e, hi, List.drop_left, hj, hi, show P.length + X.length - P.length = X.length by omega, List.take_left]
theorem mA3_ok {st : SortSt} {sa na sb t : Nat} {P X Y Z : List Keyed} {Q : Bool → SortSt → Prop} (hk : Kn st) (e : (arrOf st).toList = P ++ (X ++ (Y ++ Z)))
    (h1 : sa = P.length) (h2 : na = X.length) (h3 : sb = sa + na) (h4 : t = Y.length) (z1 : 0 < na) (z2 : 0 < t) (sx : Srt X) (sy : Srt Y)
    (hf : ∀ p, Y[0]? = some p → ∀ q ∈ X, nk p ≤ nk q) (hl : ∀ p, X[X.length - 1]? = some p → ∀ q ∈ Y, nk q ≤ nk p)
    (h : ∀ st' W, W.Perm (X ++ Y) → Srt W → (arrOf st').toList = P ++ (W ++ Z) → kindOf st' = kindOf st → failedOf st' = failedOf st → pendingOf st' = pendingOf st → Q true st') :
    wpS (model prog w) A E s (mA3 (arrOf st) sa na sb t) Q st := by
  unfold mA3
  have ex : ((arrOf st).extract sa sb).toList = X := ext_in e h1 (by omega)
  have ey : ((arrOf st).extract sb (sb + t)).toList = Y := ext_in (P := P ++ X) (by rw [e, List.append_assoc]) (by simp; omega) (by omega)
  have nx : ((arrOf st).extract sa sb).size = X.length := by rw [← Array.length_toList, ex]
  have ny : ((arrOf st).extract sb (sb + t)).size = Y.length := by rw [← Array.length_toList, ey]
  have M : Ms ((arrOf st).extract sa sb) ((arrOf st).extract sb (sb + t)) st := by
    refine ⟨hk.kind, fun p hp => ?_, fun p hp => ?_⟩
    · rw [ex] at hp; exact hk.ik p (by rw [e]; simp [hp])
    · rw [ey] at hp; exact hk.ik p (by rw [e]; simp [hp])
  have fin : ∀ (r : Array Keyed) (st' : SortSt), Sg st st' → Fin (((arrOf st).extract sa sb).toList ++ ((arrOf st).extract sb (sb + t)).toList) r →
      wpS (model prog w) A E s (do
        modify fun s => setArr s (r.toList.zipIdx.foldl (fun a x => a.setIfInBounds (sa + x.2) x.1) (arrOf s))
        let s ← get
        pure (failedOf s).isNone) Q st' := by
    rintro r st' ⟨g, rfl⟩ ⟨f1, f2⟩
    rw [ex, ey] at f1
    refine wpS_bind (wpS_modify (wpS_bind (wpS_get (wpS_pure ?_))))
    have := put_back sa r.toList P (X ++ Y) Z 0 (arrOf st) (by rw [f1.length_eq]) (by omega) (by rw [e]; simp)
    have hfl : (failedOf st).isNone = true := by rw [hk.fl]; rfl
    show Q ((failedOf st).isNone) _
    rw [hfl]
    exact h _ r.toList f1 f2 this rfl rfl rfl
  by_cases c : na ≤ t
  · rw [if_pos c]
    refine wpS_bind (mergeLo_ok M ?_ (by omega) (by omega) (by rw [ex]; exact sx) (by rw [ey]; exact sy) (by rw [ex, ey]; exact hf) fin)
    unfold Top
    rw [ex, ey, nx]
    intro p hp q hq
    have hl' : X.length - 1 < X.length := by omega
    rw [List.drop_eq_getElem_cons hl', List.drop_eq_nil_of_le (by omega)] at hp
    rw [List.mem_singleton.mp hp]
    exact hl _ (List.getElem?_eq_getElem hl') q hq
  · rw [if_neg c]
    refine wpS_bind (mergeHi_ok M ?_ (by omega) (by omega) (by rw [ex]; exact sx) (by rw [ey]; exact sy) (by rw [ex, ey, nx]; exact hl) fin)
    unfold Bot
    rw [ex, ey]
    intro p hp q hq
    cases Y with
    | nil => simp at hp
    | cons y Y =>
      simp at hp
      subst hp
      exact hf p rfl q hq
theorem mA2_ok {st : SortSt} {sa na sb nb : Nat} {P X Y Z : List Keyed} {Q : Bool → SortSt → Prop} (hk : Kn st) (e : (arrOf st).toList = P ++ (X ++ (Y ++ Z)))
    (h1 : sa = P.length) (h2 : na = X.length) (h3 : sb = sa + na) (h4 : nb = Y.length) (z1 : 0 < na) (z2 : 0 < nb) (sx : Srt X) (sy : Srt Y)
    (hf : ∀ p, Y[0]? = some p → ∀ q ∈ X, nk p ≤ nk q)
    (h : ∀ st' W, W.Perm (X ++ Y) → Srt W → (arrOf st').toList = P ++ (W ++ Z) → kindOf st' = kindOf st → failedOf st' = failedOf st → pendingOf st' = pendingOf st → Q true st') :
    wpS (model prog w) A E s (mA2 (arrOf st) sa na sb nb) Q st := by
  unfold mA2
  have hl' : X.length - 1 < X.length := by omega
  have eq : (arrOf st).toList[sa + na - 1]? = some X[X.length - 1] := by
    rw [e, List.getElem?_append_right (by omega), List.getElem?_append_left (by omega), show sa + na - 1 - P.length = X.length - 1 by omega]
    exact List.getElem?_eq_getElem hl'
  refine wpS_bind (wpS_elem eq ?_)
  have hx : ∀ p ∈ X, nk p ≤ nk X[X.length - 1] := by
    intro p hp
    obtain ⟨i, hi, rfl⟩ := List.mem_iff_getElem.mp hp
    by_cases c : i = X.length - 1
    · subst c; exact Int.le_refl _
    · exact List.pairwise_iff_getElem.mp sx i (X.length - 1) hi hl' (by omega)
  refine wpS_bind (gal_left Y h4.symm ?_ hk.kind (fun p hp => hk.ik p (by rw [e]; simp [hp])) (hk.ik _ (by rw [e]; simp [List.getElem_mem])) sy (by omega) fun t ht c1 c2 => ?_)
  · intro i hi
    rw [e, List.getElem?_append_right (by omega), List.getElem?_append_right (by omega), List.getElem?_append_left (by omega)]
    congr 1
    omega
  dsimp only
  by_cases c : t = 0
  · rw [if_pos (by simpa using c)]
    subst c
    refine wpS_pure (h st (X ++ Y) (List.Perm.refl _) (srt_app.mpr ⟨sx, sy, fun p hp q hq => ?_⟩) (by rw [e, List.append_assoc]) rfl rfl rfl)
    have := hx p hp
    have := c2 q hq
    omega
  · rw [if_neg (by simpa using c)]
    have sy' : Srt (Y.take t ++ Y.drop t) := by rw [List.take_append_drop]; exact sy
    have s3 := srt_app.mp sy'
    refine mA3_ok (Y := Y.take t) (Z := Y.drop t ++ Z) hk (by rw [e, ← List.append_assoc (Y.take t), List.take_append_drop]) h1 h2 h3 (by simp; omega) z1 (by omega) sx s3.1 ?_ ?_ ?_
    · intro p hp q hq
      refine hf p ?_ q hq
      rw [List.getElem?_take_of_lt (by omega)] at hp
      exact hp
    · intro p hp q hq
      rw [List.getElem?_eq_getElem hl'] at hp
      cases hp
      exact Int.le_of_lt (c1 q hq)
    · intro st' W w1 w2 w3 w4 w5 w6
      refine h st' (W ++ Y.drop t) ?_ (srt_app.mpr ⟨w2, s3.2.1, fun p hp q hq => ?_⟩) (by rw [w3, List.append_assoc]) w4 w5 w6
      · have := w1.append_right (Y.drop t)
        rwa [List.append_assoc, List.take_append_drop] at this
      · rcases List.mem_append.mp (w1.mem_iff.mp hp) with hp | hp
        · have := hx p hp
          have := c2 q hq
          omega
        · exact s3.2.2 p hp q hq
theorem mA1_ok {st : SortSt} {sa na sb nb : Nat} {P X Y Z : List Keyed} {Q : Bool → SortSt → Prop} (hk : Kn st) (e : (arrOf st).toList = P ++ (X ++ (Y ++ Z)))
    (h1 : sa = P.length) (h2 : na = X.length) (h3 : sb = sa + na) (h4 : nb = Y.length) (z1 : 0 < na) (z2 : 0 < nb) (sx : Srt X) (sy : Srt Y)
    (h : ∀ st' W, W.Perm (X ++ Y) → Srt W → (arrOf st').toList = P ++ (W ++ Z) → kindOf st' = kindOf st → failedOf st' = failedOf st → pendingOf st' = pendingOf st → Q true st') :
    wpS (model prog w) A E s (mA1 (arrOf st) sa na sb nb) Q st := by
  unfold mA1
  have hl' : 0 < Y.length := by omega
  have eq : (arrOf st).toList[sb]? = some Y[0] := by
    rw [e, List.getElem?_append_right (by omega), List.getElem?_append_right (by omega), List.getElem?_append_left (by omega), show sb - P.length - X.length = 0 by omega]
    exact List.getElem?_eq_getElem hl'
  refine wpS_bind (wpS_elem eq ?_)
  have hy : ∀ p ∈ Y, nk Y[0] ≤ nk p := by
    intro p hp
    obtain ⟨i, hi, rfl⟩ := List.mem_iff_getElem.mp hp
    by_cases c : i = 0
    · subst c; exact Int.le_refl _
    · exact List.pairwise_iff_getElem.mp sy 0 i hl' hi (by omega)
  refine wpS_bind (gal_right X h2.symm ?_ hk.kind (fun p hp => hk.ik p (by rw [e]; simp [hp])) (hk.ik _ (by rw [e]; simp [List.getElem_mem])) sx z1 fun k hk2 c1 c2 => ?_)
  · intro i hi
    rw [e, List.getElem?_append_right (by omega), List.getElem?_append_left (by omega)]
    congr 1
    omega
  dsimp only
  have sx' : Srt (X.take k ++ X.drop k) := by rw [List.take_append_drop]; exact sx
  have s3 := srt_app.mp sx'
  by_cases c : na - k = 0
  · rw [if_pos (by simpa using c)]
    have ek : X.take k = X := List.take_of_length_le (by omega)
    rw [ek] at c1
    refine wpS_pure (h st (X ++ Y) (List.Perm.refl _) (srt_app.mpr ⟨sx, sy, fun p hp q hq => ?_⟩) (by rw [e, List.append_assoc]) rfl rfl rfl)
    have := hy q hq
    have := c1 p hp
    omega
  · rw [if_neg (by simpa using c)]
    refine mA2_ok (P := P ++ X.take k) (X := X.drop k) (Y := Y) (Z := Z) hk ?_ (by simp; omega) (by simp; omega) (by omega) h4 (by omega) z2 s3.2.1 sy ?_ ?_
    · rw [e, List.append_assoc, ← List.append_assoc (X.take k), List.take_append_drop]
    · intro p hp q hq
      rw [List.getElem?_eq_getElem hl'] at hp
      cases hp
      exact Int.le_of_lt (c2 q hq)
    · intro st' W w1 w2 w3 w4 w5 w6
      refine h st' (X.take k ++ W) ?_ (srt_app.mpr ⟨s3.1, w2, fun p hp q hq => ?_⟩) (by rw [w3]; simp) w4 w5 w6
      · have := w1.append_left (X.take k)
        rwa [← List.append_assoc, List.take_append_drop] at this
      · rcases List.mem_append.mp (w1.mem_iff.mp hq) with hq | hq
        · exact s3.2.2 p hp q hq
        · have := hy q hq
          have := c1 p hp
          omega
theorem mergeAt_ok {st : SortSt} {i sa na sb nb pw pv : Nat} {P X Y Z : List Keyed} {Q : Bool → SortSt → Prop} (hk : Kn st) (e : (arrOf st).toList = P ++ (X ++ (Y ++ Z)))
    (p1 : (pendingOf st)[i]? = some (sa, na, pw)) (p2 : (pendingOf st)[i + 1]? = some (sb, nb, pv))
    (h1 : sa = P.length) (h2 : na = X.length) (h3 : sb = sa + na) (h4 : nb = Y.length) (z1 : 0 < na) (z2 : 0 < nb) (sx : Srt X) (sy : Srt Y)
    (h : ∀ st' W, W.Perm (X ++ Y) → Srt W → (arrOf st').toList = P ++ (W ++ Z) → kindOf st' = kindOf st → failedOf st' = failedOf st →
      pendingOf st' = ((pendingOf st).setIfInBounds i (sa, na + nb, pw)).eraseIdxIfInBounds (i + 1) → Q true st') :
    wpS (model prog w) A E s (mergeAt' i) Q st := by
  rw [mergeAt'_eq]
  refine wpS_bind (wpS_get ?_)
  rw [p1, p2]
  dsimp only
  refine wpS_bind (wpS_set ?_)
  exact mA1_ok (st := setPending st (((pendingOf st).setIfInBounds i (sa, na + nb, pw)).eraseIdxIfInBounds (i + 1))) ⟨hk.kind, hk.fl, hk.ik⟩ e h1 h2 h3 h4 z1 z2 sx sy h
end
end LS
set_option Elab.async false
set_option linter.all false
set_option maxRecDepth 100000
namespace LS
open PySem PyProof PyProof.Rows
abbrev CA : Type := Option (Option Nat) × Nat
abbrev CD : Type := Option (Option Nat) × Nat × Nat
def cA (lo : Nat) (_ : Nat) (c : CA) : StateT SortSt Sem (ForInStep CA) := do
  let x ← ltAt' (lo + c.2) (lo + c.2 - 1)
  match x with
  | some smaller => if smaller = true then pure (.done (none, c.2)) else pure (.yield (none, c.2 + 1))
  | _ => pure (.done (some none, c.2))
def c3 (lo nrem n : Nat) : StateT SortSt Sem (Option Nat) := do
  reverseSlice' lo (lo + n)
  let d ← forIn [n:nrem] ((none, n) : CA) (cA lo)
  match d.1 with
  | some r => pure r
  | none => pure (some d.2)
def cD (lo : Nat) (_ : Nat) (c : CD) : StateT SortSt Sem (ForInStep CD) := do
  let x ← ltAt' (lo + c.2.1) (lo + c.2.1 - 1)
  match x with
  | some smaller =>
    if smaller = true then
      if c.2.2 > 0 then do
        reverseSlice' (lo + c.2.1 - (c.2.2 + 1)) (lo + c.2.1)
        pure (.yield (none, c.2.1 + 1, 0))
      else pure (.yield (none, c.2.1 + 1, 0))
    else do
      let y ← ltAt' (lo + c.2.1 - 1) (lo + c.2.1)
      match y with
      | some larger => if larger = true then pure (.done (none, c.2.1, c.2.2)) else pure (.yield (none, c.2.1 + 1, c.2.2 + 1))
      | _ => pure (.done (some none, c.2.1, c.2.2))
  | _ => pure (.done (some none, c.2.1, c.2.2))
def c2 (lo nrem n : Nat) : StateT SortSt Sem (Option Nat) := do
  liftM (rule "list.sort.descending-run")
  let d ← forIn [n + 1:nrem] ((none, n + 1, 0) : CD) (cD lo)
  match d.1 with
  | some r => pure r
  | none =>
    if d.2.2 > 0 then do
      reverseSlice' (lo + d.2.1 - (d.2.2 + 1)) (lo + d.2.1)
      c3 lo nrem d.2.1
    else c3 lo nrem d.2.1
theorem countRun_eq (lo nrem : Nat) : countRun' lo nrem = (do
  let c ← forIn [1:nrem] ((none, 1) : CA) (cA lo)
  match c.1 with
  | some r => pure r
  | none =>
    if (c.2 == nrem) = true then pure (some c.2) else
    if c.2 > 1 then do
      let x ← ltAt' lo (lo + c.2 - 1)
      match x with
      | some rose => if rose = true then pure (some c.2) else do
        reverseSlice' lo (lo + c.2)
        c2 lo nrem c.2
      | _ => pure none
    else c2 lo nrem c.2) := by
  kernel_rfl
structure Rb (lo : Nat) (st0 st : SortSt) : Prop where
  perm : (arrOf st).Perm (arrOf st0)
  low : ∀ k, k < lo → (arrOf st)[k]? = (arrOf st0)[k]?
  kind : kindOf st = kindOf st0
  fl : failedOf st = failedOf st0
  pend : pendingOf st = pendingOf st0
theorem Rb.size {lo : Nat} {st0 st : SortSt} (h : Rb lo st0 st) : (arrOf st).size = (arrOf st0).size := h.perm.size_eq
theorem Rb.set {lo : Nat} {st0 st : SortSt} (h : Rb lo st0 st) {xs : Array Keyed} (hp : xs.Perm (arrOf st)) (hl : ∀ k, k < lo → xs[k]? = (arrOf st)[k]?) : Rb lo st0 (setArr st xs) :=
  ⟨hp.trans h.perm, fun k hk => (hl k hk).trans (h.low k hk), h.kind, h.fl, h.pend⟩
theorem Rb.kn {lo : Nat} {st0 st : SortSt} (h : Rb lo st0 st) (k : Kn st0) : Kn st :=
  ⟨h.kind.trans k.kind, h.fl.trans k.fl, fun p hp => k.ik p ((Array.perm_iff_toList_perm.mp h.perm).mem_iff.mp hp)⟩
theorem Rb.mir {lo i j : Nat} {st0 st : SortSt} (h : Rb lo st0 st) (hi : lo ≤ i) (hj : j ≤ (arrOf st0).size) : Rb lo st0 (setArr st (mirror (arrOf st) i j ((j - i) / 2))) :=
  h.set (mirror_perm _ _ _ _) fun k hk => by rw [getElem?_mirror_all (by rw [h.size]; exact hj), if_neg (by omega)]
def So (xs : Array Keyed) (lo n : Nat) : Prop := ∀ i j, i ≤ j → j < n → K xs (lo + i) ≤ K xs (lo + j)
def Ni (xs : Array Keyed) (lo n : Nat) : Prop := ∀ i j, i ≤ j → j < n → K xs (lo + j) ≤ K xs (lo + i)
theorem So.one {xs : Array Keyed} {lo : Nat} : So xs lo 1 := fun i j h1 h2 => by
  have : i = j := by omega
  subst this; exact Int.le_refl _
theorem So.more {xs : Array Keyed} {lo n : Nat} (h : So xs lo n) (hn : 0 < n) (hl : K xs (lo + n - 1) ≤ K xs (lo + n)) : So xs lo (n + 1) := fun i j h1 h2 => by
  by_cases hj : j < n
  · exact h i j h1 hj
  · have : j = n := by omega
    subst this
    by_cases hi : i = j
    · subst hi; exact Int.le_refl _
    · have := h i (j - 1) (by omega) (by omega)
      rw [show lo + (j - 1) = lo + j - 1 by omega] at this
      omega
theorem Ni.more {xs : Array Keyed} {lo n : Nat} (h : Ni xs lo n) (hn : 0 < n) (hl : K xs (lo + n) ≤ K xs (lo + n - 1)) : Ni xs lo (n + 1) := fun i j h1 h2 => by
  by_cases hj : j < n
  · exact h i j h1 hj
  · have : j = n := by omega
    subst this
    by_cases hi : i = j
    · subst hi; exact Int.le_refl _
    · have := h i (j - 1) (by omega) (by omega)
      rw [show lo + (j - 1) = lo + j - 1 by omega] at this
      omega
theorem Ni.congr {xs ys : Array Keyed} {lo n : Nat} (h : Ni xs lo n) (e : ∀ k, K ys k = K xs k) : Ni ys lo n := fun i j h1 h2 => by rw [e, e]; exact h i j h1 h2
section
variable {prog : Program} {w : World} {A : Around} {E : Value → Shared → Prop} {s : Shared} {st0 : SortSt} {lo : Nat}
theorem ltAt_ok {st : SortSt} {i j : Nat} {Q : Option Bool → SortSt → Prop} (hk : Kn st) (hi : i < (arrOf st).size) (hj : j < (arrOf st).size)
    (h : Q (some (decide (K (arrOf st) i < K (arrOf st) j))) st) : wpS (model prog w) A E s (ltAt' i j) Q st := by
  rw [ltAt'_eq]
  refine wpS_bind (wpS_get ?_)
  obtain ⟨p, ep, hp, _⟩ := get_at hi
  obtain ⟨q, eq, hq, _⟩ := get_at hj
  refine wpS_bind (wpS_elem ep (wpS_bind (wpS_elem eq (wpS_lt hk.kind (hk.ik p hp) (hk.ik q hq) ?_))))
  rw [Array.getElem?_toList] at ep eq
  have e1 : K (arrOf st) i = nk p := by unfold K nk; rw [ep]
  have e2 : K (arrOf st) j = nk q := by unfold K nk; rw [eq]
  rw [e1, e2] at h
  exact h
theorem rev_ok {st : SortSt} {i j : Nat} {Q : Unit → SortSt → Prop} (h : Q () (setArr st (mirror (arrOf st) i j ((j - i) / 2)))) :
    wpS (model prog w) A E s (reverseSlice' i j) Q st := by
  rw [reverseSlice'_eq]; exact wpS_modify h
theorem cA_ok {st : SortSt} {n nrem : Nat} {Q : CA → SortSt → Prop} (hk : Kn st) (hr : lo + nrem ≤ (arrOf st).size) (h1 : 1 ≤ n) (hn : n ≤ nrem) (hs : So (arrOf st) lo n)
    (h : ∀ m, n ≤ m → m ≤ nrem → So (arrOf st) lo m → (m = nrem ∨ K (arrOf st) (lo + m) < K (arrOf st) (lo + m - 1)) → Q (none, m) st) :
    wpS (model prog w) A E s (forIn [n:nrem] ((none, n) : CA) (cA lo)) Q st := by
  refine wpS_forRange (I := fun x c st' => st' = st ∧ c = (none, x) ∧ So (arrOf st) lo x) ?_ ?_ ⟨rfl, rfl, hs⟩
  · rintro x c st' hx hx2 ⟨rfl, rfl, hs'⟩
    unfold cA
    dsimp only
    refine wpS_bind (ltAt_ok hk (by omega) (by omega) ?_)
    dsimp only
    by_cases hl : K (arrOf st') (lo + x) < K (arrOf st') (lo + x - 1)
    · rw [if_pos (by simpa using hl)]
      exact wpS_pure (h x hx (by omega) hs' (.inr hl))
    · rw [if_neg (by simpa using hl)]
      exact wpS_pure ⟨rfl, rfl, hs'.more (by omega) (Int.not_lt.mp hl)⟩
  · rintro c st' ⟨rfl, rfl, hs'⟩
    rw [show max n nrem = nrem by omega] at hs' ⊢
    exact h nrem hn (Nat.le_refl _) hs' (.inl rfl)
theorem c3_ok {st : SortSt} {n nrem : Nat} {Q : Option Nat → SortSt → Prop} (k0 : Kn st0) (hb : Rb lo st0 st) (hr : lo + nrem ≤ (arrOf st0).size) (h1 : 1 ≤ n) (hn : n ≤ nrem) (hs : Ni (arrOf st) lo n)
    (h : ∀ m st', Rb lo st0 st' → 1 ≤ m → m ≤ nrem → So (arrOf st') lo m → Q (some m) st') :
    wpS (model prog w) A E s (c3 lo nrem n) Q st := by
  unfold c3
  refine wpS_bind (rev_ok ?_)
  have hb' := hb.mir (i := lo) (j := lo + n) (Nat.le_refl _) (by omega)
  have hz : lo + n ≤ (arrOf st).size := by rw [hb.size]; omega
  refine wpS_bind (cA_ok (hb'.kn k0) (by rw [hb'.size]; exact hr) h1 hn ?_ fun m m1 m2 m3 _ => wpS_pure (h m _ hb' (by omega) m2 m3))
  intro i j hij hj
  show K (mirror (arrOf st) lo (lo + n) ((lo + n - lo) / 2)) (lo + i) ≤ K (mirror (arrOf st) lo (lo + n) ((lo + n - lo) / 2)) (lo + j)
  rw [K_mirror hz, K_mirror hz, if_pos (by omega), if_pos (by omega)]
  have := hs (n - 1 - j) (n - 1 - i) (by omega) (by omega)
  rw [show lo + (n - 1 - j) = lo + (lo + n) - 1 - (lo + j) by omega, show lo + (n - 1 - i) = lo + (lo + n) - 1 - (lo + i) by omega] at this
  exact this
def Al (xs : Array Keyed) (lo n q : Nat) : Prop := q + 1 ≤ n ∧ ∀ k, lo + n - (q + 1) ≤ k → k < lo + n → K xs k = K xs (lo + n - 1)
theorem cD_ok {st : SortSt} {n nrem : Nat} {Q : CD → SortSt → Prop} (k0 : Kn st0) (hb : Rb lo st0 st) (hr : lo + nrem ≤ (arrOf st0).size) (h1 : 1 ≤ n) (hn : n ≤ nrem) (hs : Ni (arrOf st) lo n)
    (h : ∀ m q st', Rb lo st0 st' → n ≤ m → m ≤ nrem → Ni (arrOf st') lo m → Al (arrOf st') lo m q → Q (none, m, q) st') :
    wpS (model prog w) A E s (forIn [n:nrem] ((none, n, 0) : CD) (cD lo)) Q st := by
  have al0 : ∀ (xs : Array Keyed) m, 1 ≤ m → Al xs lo m 0 := fun xs m hm => ⟨by omega, fun k a b => by congr 1; omega⟩
  refine wpS_forRange (I := fun x c st' => ∃ q, c = (none, x, q) ∧ Rb lo st0 st' ∧ Ni (arrOf st') lo x ∧ Al (arrOf st') lo x q) ?_ ?_ ⟨0, rfl, hb, hs, al0 _ _ h1⟩
  · rintro x c st' hx hx2 ⟨q, rfl, hb', hs', ha⟩
    have kn := hb'.kn k0
    have hz := hb'.size
    unfold cD
    dsimp only
    refine wpS_bind (ltAt_ok kn (by omega) (by omega) ?_)
    dsimp only
    by_cases hl : K (arrOf st') (lo + x) < K (arrOf st') (lo + x - 1)
    · rw [if_pos (by simpa using hl)]
      by_cases hq : q > 0
      · rw [if_pos hq]
        have ek : ∀ k, K (mirror (arrOf st') (lo + x - (q + 1)) (lo + x) ((lo + x - (lo + x - (q + 1))) / 2)) k = K (arrOf st') k := K_mirror_equal (by omega) ha.2
        have ha1 := ha.1
        exact wpS_bind (rev_ok (wpS_pure ⟨0, rfl, hb'.mir (by omega) (by omega), (hs'.more (by omega) (Int.le_of_lt hl)).congr ek, al0 _ _ (by omega)⟩))
      · rw [if_neg hq]
        exact wpS_pure ⟨0, rfl, hb', hs'.more (by omega) (Int.le_of_lt hl), al0 _ _ (by omega)⟩
    · rw [if_neg (by simpa using hl)]
      refine wpS_bind (ltAt_ok kn (by omega) (by omega) ?_)
      dsimp only
      by_cases hg : K (arrOf st') (lo + x - 1) < K (arrOf st') (lo + x)
      · rw [if_pos (by simpa using hg)]
        exact wpS_pure (h x q st' hb' hx (by omega) hs' ha)
      · rw [if_neg (by simpa using hg)]
        have eq : K (arrOf st') (lo + x) = K (arrOf st') (lo + x - 1) := by omega
        refine wpS_pure ⟨q + 1, rfl, hb', hs'.more (by omega) (by omega), by have := ha.1; omega, fun k b1 b2 => ?_⟩
        rw [show lo + (x + 1) - 1 = lo + x by omega]
        by_cases c : k = lo + x
        · rw [c]
        · rw [eq]; exact ha.2 k (by omega) (by omega)
  · rintro c st' ⟨q, rfl, hb', hs', ha⟩
    rw [show max n nrem = nrem by omega] at hs' ha ⊢
    exact h nrem q st' hb' hn (Nat.le_refl _) hs' ha
theorem c2_ok {st : SortSt} {n nrem : Nat} {Q : Option Nat → SortSt → Prop} (k0 : Kn st0) (hb : Rb lo st0 st) (hr : lo + nrem ≤ (arrOf st0).size) (hn : n + 1 ≤ nrem) (hs : Ni (arrOf st) lo (n + 1))
    (h : ∀ m st', Rb lo st0 st' → 1 ≤ m → m ≤ nrem → So (arrOf st') lo m → Q (some m) st') :
    wpS (model prog w) A E s (c2 lo nrem n) Q st := by
  unfold c2
  refine wpS_bind (wpS_lift (wpAny_rule ⟨rfl, ?_⟩))
  refine wpS_bind (cD_ok k0 hb hr (by omega) hn hs fun m q st' hb' m1 m2 m3 ha => ?_)
  dsimp only
  have hz := hb'.size
  by_cases hq : q > 0
  · rw [if_pos hq]
    have ha1 := ha.1
    exact wpS_bind (rev_ok (c3_ok k0 (hb'.mir (by omega) (by omega)) hr (by omega) m2 (m3.congr (K_mirror_equal (by omega) ha.2)) h))
  · rw [if_neg hq]
    exact c3_ok k0 hb' hr (by omega) m2 m3 h
theorem countRun_ok {nrem : Nat} {Q : Option Nat → SortSt → Prop} (k0 : Kn st0) (hr : lo + nrem ≤ (arrOf st0).size) (h1 : 1 ≤ nrem)
    (h : ∀ m st', Rb lo st0 st' → 1 ≤ m → m ≤ nrem → So (arrOf st') lo m → Q (some m) st') :
    wpS (model prog w) A E s (countRun' lo nrem) Q st0 := by
  rw [countRun_eq]
  have hb : Rb lo st0 st0 := ⟨Array.Perm.refl _, fun _ _ => rfl, rfl, rfl, rfl⟩
  refine wpS_bind (cA_ok k0 hr (Nat.le_refl 1) h1 So.one fun n n1 n2 hs hor => ?_)
  dsimp only
  by_cases hnn : n = nrem
  · rw [if_pos (by simpa using hnn)]
    exact wpS_pure (h n st0 hb n1 n2 hs)
  · rw [if_neg (by simpa using hnn)]
    have hlt := hor.resolve_left hnn
    by_cases hgt : n > 1
    · rw [if_pos hgt]
      refine wpS_bind (ltAt_ok k0 (by omega) (by omega) ?_)
      dsimp only
      by_cases hro : K (arrOf st0) lo < K (arrOf st0) (lo + n - 1)
      · rw [if_pos (by simpa using hro)]
        exact wpS_pure (h n st0 hb n1 n2 hs)
      · rw [if_neg (by simpa using hro)]
        have hall : ∀ k, lo ≤ k → k < lo + n → K (arrOf st0) k = K (arrOf st0) (lo + n - 1) := by
          intro k a b
          have a1 := hs 0 (k - lo) (by omega) (by omega)
          have a2 := hs (k - lo) (n - 1) (by omega) (by omega)
          rw [Nat.add_zero, show lo + (k - lo) = k by omega] at a1
          rw [show lo + (k - lo) = k by omega, show lo + (n - 1) = lo + n - 1 by omega] at a2
          omega
        refine wpS_bind (rev_ok (c2_ok k0 (hb.mir (Nat.le_refl _) (by omega)) hr (by omega) (Ni.congr ?_ (K_mirror_equal (by omega) hall)) h))
        refine Ni.more (fun i j a b => ?_) (by omega) (Int.le_of_lt hlt)
        rw [hall (lo + i) (by omega) (by omega), hall (lo + j) (by omega) (by omega)]
        exact Int.le_refl _
    · rw [if_neg hgt]
      have : n = 1 := by omega
      subst this
      refine c2_ok k0 hb hr (by omega) (Ni.more (fun i j a b => ?_) (by omega) (Int.le_of_lt hlt)) h
      have : i = j := by omega
      subst this; exact Int.le_refl _
end
end LS
set_option Elab.async false
set_option linter.all false
set_option maxRecDepth 100000
namespace LS
open PySem PyProof PyProof.Rows
abbrev BI : Type := Option Bool × Nat × Nat
def bI (lo k : Nat) (_ : Nat) (c : BI) : StateT SortSt Sem (ForInStep BI) :=
  if c.2.1 ≥ c.2.2 then pure (.done (none, c.2.1, c.2.2)) else do
  let x ← ltAt' (lo + k) (lo + (c.2.1 + c.2.2) / 2)
  match x with
  | some less => if less = true then pure (.yield (none, c.2.1, (c.2.1 + c.2.2) / 2)) else pure (.yield (none, (c.2.1 + c.2.2) / 2 + 1, c.2.2))
  | _ => pure (.done (some false, c.2.1, c.2.2))
def bO (lo : Nat) (k : Nat) (_ : Option Bool × Unit) : StateT SortSt Sem (ForInStep (Option Bool × Unit)) := do
  let d ← forIn [0:k] ((none, 0, k) : BI) (bI lo k)
  match d.1 with
  | some r => pure (.done (some r, ()))
  | none => do
    moveDown' (lo + k) (lo + d.2.1)
    pure (.yield (none, ()))
theorem binarySort_eq (lo n ok : Nat) : binarySort' lo n ok = (do
  let c ← forIn [max ok 1:n] ((none, ()) : Option Bool × Unit) (bO lo)
  match c.1 with
  | some r => pure r
  | none => pure true) := by
  kernel_rfl
abbrev MI : Type := Option Unit × Unit
abbrev RO : Type := Option Unit × Nat
def mI (pw : Nat) (_ : Nat) (_ : MI) : StateT SortSt Sem (ForInStep MI) := do
  let s ← get
  match (if (pendingOf s).size > 1 then (pendingOf s)[(pendingOf s).size - 2]? else none) with
  | some (_, _, older) =>
    if older ≤ pw then pure (.done (none, ())) else do
    let b ← mergeAt' ((pendingOf s).size - 2)
    if (!b) = true then pure (.done (some (), ())) else pure (.yield (none, ()))
  | _ => pure (.done (none, ()))
def r3 (lo n : Nat) : StateT SortSt Sem (ForInStep RO) := do
  modify fun s => setPending s ((pendingOf s).push (lo, n, 0))
  pure (.yield (none, lo + n))
def r2 (size lo n : Nat) : StateT SortSt Sem (ForInStep RO) := do
  let s ← get
  match (pendingOf s).back? with
  | some (s1, n1, _) => do
    let c ← forIn [0:size] ((none, ()) : MI) (mI (power' size (2 * s1 + n1) (2 * s1 + n1 + n1 + n) size))
    match c.1 with
    | some r => pure (.done (some r, lo))
    | none => do
      modify fun s => setPending s ((pendingOf s).modify ((pendingOf s).size - 1) fun x => (x.1, x.2.1, power' size (2 * s1 + n1) (2 * s1 + n1 + n1 + n) size))
      r3 lo n
  | _ => r3 lo n
def r1 (size : Nat) (_ : Nat) (c : RO) : StateT SortSt Sem (ForInStep RO) :=
  if c.2 ≥ size then pure (.done (none, c.2)) else do
  let x ← countRun' c.2 (size - c.2)
  match x with
  | some found =>
    if found < minRun' size size 0 then do
      liftM (rule "list.sort.binary-insertion")
      let b ← binarySort' c.2 (min (size - c.2) (minRun' size size 0)) found
      if (!b) = true then pure (.done (some (), c.2)) else r2 size c.2 (min (size - c.2) (minRun' size size 0))
    else r2 size c.2 found
  | _ => pure (.done (some (), c.2))
def f1 (_ : Nat) (_ : MI) : StateT SortSt Sem (ForInStep MI) := do
  let s ← get
  if (pendingOf s).size ≤ 1 then pure (.done (none, ())) else do
  let b ← mergeAt' (if (if (pendingOf s).size - 2 > 0 then (pendingOf s)[(pendingOf s).size - 2 - 1]?.map (·.2.1) else none).any (· < ((pendingOf s)[(pendingOf s).size - 2 + 1]?.elim 0 (·.2.1)))
    then (pendingOf s).size - 2 - 1 else (pendingOf s).size - 2)
  if (!b) = true then pure (.done (some (), ())) else pure (.yield (none, ()))
theorem sortRuns_eq : sortRuns' = (do
  let s ← get
  let c ← forIn [0:(arrOf s).size] ((none, 0) : RO) (r1 (arrOf s).size)
  match c.1 with
  | some r => pure r
  | none => do
    let d ← forIn [0:(arrOf s).size] ((none, ()) : MI) f1
    match d.1 with
    | some r => pure r
    | none => pure ()) := by
  kernel_rfl
section
variable {prog : Program} {w : World} {A : Around} {E : Value → Shared → Prop} {s : Shared} {st0 : SortSt} {lo : Nat}
theorem bI_ok {st : SortSt} {k : Nat} {Q : BI → SortSt → Prop} (hk : Kn st) (hz : lo + k < (arrOf st).size) (hs : So (arrOf st) lo k)
    (h : ∀ l r, l ≤ k → (∀ i, i < l → K (arrOf st) (lo + i) ≤ K (arrOf st) (lo + k)) → (∀ i, l ≤ i → i < k → K (arrOf st) (lo + k) < K (arrOf st) (lo + i)) → Q (none, l, r) st) :
    wpS (model prog w) A E s (forIn [0:k] ((none, 0, k) : BI) (bI lo k)) Q st := by
  refine wpS_forRange (I := fun x c st' => st' = st ∧ ∃ l r, c = (none, l, r) ∧ l ≤ r ∧ r ≤ k ∧ r - l ≤ k - x ∧
    (∀ i, i < l → K (arrOf st) (lo + i) ≤ K (arrOf st) (lo + k)) ∧ (∀ i, r ≤ i → i < k → K (arrOf st) (lo + k) < K (arrOf st) (lo + i))) ?_ ?_
    ⟨rfl, 0, k, rfl, by omega, by omega, by omega, fun i hi => by omega, fun i a b => by omega⟩
  · rintro x c st' _ hx ⟨rfl, l, r, rfl, a1, a2, a3, a4, a5⟩
    unfold bI
    dsimp only
    by_cases hg : l ≥ r
    · rw [if_pos hg]
      have : l = r := by omega
      subst this
      exact wpS_pure (h l l a2 a4 a5)
    · rw [if_neg hg]
      refine wpS_bind (ltAt_ok hk (by omega) (by omega) ?_)
      dsimp only
      by_cases hl : K (arrOf st') (lo + k) < K (arrOf st') (lo + (l + r) / 2)
      · rw [if_pos (by simpa using hl)]
        refine wpS_pure ⟨rfl, l, (l + r) / 2, rfl, by omega, by omega, by omega, a4, fun i b1 b2 => ?_⟩
        exact Int.lt_of_lt_of_le hl (hs _ _ b1 b2)
      · rw [if_neg (by simpa using hl)]
        refine wpS_pure ⟨rfl, (l + r) / 2 + 1, r, rfl, by omega, by omega, by omega, fun i b1 => ?_, a5⟩
        exact Int.le_trans (hs i ((l + r) / 2) (by omega) (by omega)) (Int.not_lt.mp hl)
  · rintro c st' ⟨rfl, l, r, rfl, a1, a2, a3, a4, a5⟩
    have : l = r := by omega
    subst this
    exact h l l a2 a4 a5
theorem binarySort_ok {st : SortSt} {n ok : Nat} {Q : Bool → SortSt → Prop} (k0 : Kn st0) (hb : Rb lo st0 st) (hn : lo + n ≤ (arrOf st0).size) (h1 : 1 ≤ ok) (hok : ok ≤ n) (hs : So (arrOf st) lo ok)
    (h : ∀ st', Rb lo st0 st' → So (arrOf st') lo n → Q true st') : wpS (model prog w) A E s (binarySort' lo n ok) Q st := by
  rw [binarySort_eq]
  refine wpS_bind (wpS_mono (wpS_forRange (I := fun k c st' => c = (none, ()) ∧ Rb lo st0 st' ∧ So (arrOf st') lo k)
    (Q := fun c st' => c = (none, ()) ∧ Rb lo st0 st' ∧ So (arrOf st') lo n) ?_ ?_ ⟨rfl, hb, by rw [show max ok 1 = ok by omega]; exact hs⟩) ?_)
  · rintro k c st' hk1 hk2 ⟨rfl, hb', hs'⟩
    have hz := hb'.size
    unfold bO
    refine wpS_bind (bI_ok (hb'.kn k0) (by omega) hs' fun l r l1 l2 l3 => ?_)
    dsimp only
    rw [moveDown'_eq]
    have hks : lo + k < (arrOf st').size := by omega
    refine wpS_bind (wpS_modify (wpS_pure ⟨rfl, hb'.set (bubble_perm _ _ _) (fun j hj => ?_), ?_⟩))
    · rw [getElem?_bubble hks _ (by omega), if_neg (by omega), if_neg (by omega)]
    · intro i j hij hj
      show K (bubble (arrOf st') (lo + k) (lo + k - (lo + l))) (lo + i) ≤ K (bubble (arrOf st') (lo + k) (lo + k - (lo + l))) (lo + j)
      rw [K_bubble hks (by omega), K_bubble hks (by omega), show lo + k - (lo + k - (lo + l)) = lo + l by omega]
      have sub : ∀ x, 0 < x → lo + x - 1 = lo + (x - 1) := fun x hx => by omega
      by_cases ci : i = l
      · rw [if_pos (by omega)]
        by_cases cj : j = l
        · rw [if_pos (by omega)]; exact Int.le_refl _
        · rw [if_neg (by omega), if_pos (by omega), sub j (by omega)]
          exact Int.le_of_lt (l3 _ (by omega) (by omega))
      · rw [if_neg (by omega)]
        by_cases ci2 : l < i
        · rw [if_pos (by omega), if_neg (by omega), if_pos (by omega), sub i (by omega), sub j (by omega)]
          exact hs' _ _ (by omega) (by omega)
        · rw [if_neg (by omega)]
          by_cases cj : j = l
          · rw [if_pos (by omega)]; exact l2 i (by omega)
          · rw [if_neg (by omega)]
            by_cases cj2 : l < j
            · rw [if_pos (by omega), sub j (by omega)]
              exact hs' _ _ (by omega) (by omega)
            · rw [if_neg (by omega)]
              exact hs' _ _ hij (by omega)
  · rintro c st' ⟨rfl, hb', hs'⟩
    rw [show max (max ok 1) n = n by omega] at hs'
    exact ⟨rfl, hb', hs'⟩
  · rintro c st' ⟨rfl, hb', hs'⟩
    exact wpS_pure (h st' hb' hs')
end
abbrev Pn : Type := Nat × Nat × Nat
def RL (xs : Array Keyed) : Nat → List Pn → Nat → Prop
  | s, [], e => s = e
  | s, x :: t, e => x.1 = s ∧ 0 < x.2.1 ∧ So xs s x.2.1 ∧ RL xs (s + x.2.1) t e
theorem RL.le {xs : Array Keyed} : ∀ {l : List Pn} {s e : Nat}, RL xs s l e → s + l.length ≤ e
  | [], s, e, h => by have : s = e := h; simp [this]
  | x :: t, s, e, h => by have := RL.le h.2.2.2; have := h.2.1; simp; omega
theorem So.congr {xs ys : Array Keyed} {s n : Nat} (h : So xs s n) (e : ∀ k, s ≤ k → k < s + n → K ys k = K xs k) : So ys s n := fun i j a b => by
  rw [e _ (by omega) (by omega), e _ (by omega) (by omega)]; exact h i j a b
theorem RL.congr {xs ys : Array Keyed} : ∀ {l : List Pn} {s e : Nat}, RL xs s l e → (∀ k, s ≤ k → k < e → K ys k = K xs k) → RL ys s l e
  | [], s, e, h, _ => h
  | x :: t, s, e, h, hc => by
    have l1 := RL.le h.2.2.2
    exact ⟨h.1, h.2.1, h.2.2.1.congr fun k a b => hc k a (by omega), RL.congr h.2.2.2 fun k a b => hc k (by omega) b⟩
theorem RL.app {xs : Array Keyed} : ∀ {l1 l2 : List Pn} {s e : Nat}, RL xs s (l1 ++ l2) e ↔ ∃ m, RL xs s l1 m ∧ RL xs m l2 e
  | [], l2, s, e => ⟨fun h => ⟨s, rfl, h⟩, fun ⟨m, h1, h2⟩ => by have : s = m := h1; subst this; exact h2⟩
  | x :: t, l2, s, e => by
    constructor
    · rintro ⟨a, b, c, d⟩
      obtain ⟨m, h1, h2⟩ := RL.app.mp d
      exact ⟨m, ⟨a, b, c, h1⟩, h2⟩
    · rintro ⟨m, ⟨a, b, c, d⟩, h2⟩
      exact ⟨a, b, c, RL.app.mpr ⟨m, d, h2⟩⟩
theorem K_list (xs : Array Keyed) (i : Nat) : K xs i = match xs.toList[i]? with | some p => nk p | none => 0 := by
  unfold K nk
  rw [Array.getElem?_toList]
  cases xs[i]? <;> rfl
theorem so_srt {xs : Array Keyed} {P X Z : List Keyed} {s n : Nat} (e : xs.toList = P ++ (X ++ Z)) (h1 : s = P.length) (h2 : n = X.length) : So xs s n ↔ Srt X := by
  have ek : ∀ i, (hi : i < X.length) → K xs (s + i) = nk X[i] := by
    intro i hi
    rw [K_list, e, List.getElem?_append_right (by omega), List.getElem?_append_left (by omega), show s + i - P.length = i by omega, List.getElem?_eq_getElem hi]
  constructor
  · intro h
    refine List.pairwise_iff_getElem.mpr fun i j hi hj hij => ?_
    have := h i j (by omega) (by omega)
    rwa [ek i hi, ek j hj] at this
  · intro h i j hij hj
    rw [ek i (by omega), ek j (by omega)]
    by_cases c : i = j
    · subst c; exact Int.le_refl _
    · exact List.pairwise_iff_getElem.mp h i j (by omega) (by omega) (by omega)
section
variable {prog : Program} {w : World} {A : Around} {E : Value → Shared → Prop} {s : Shared} {st0 : SortSt} {lo : Nat}
theorem merge_runs {st : SortSt} {i e : Nat} {Q : Bool → SortSt → Prop} (hk : Kn st) (R : RL (arrOf st) 0 (pendingOf st).toList e) (he : e ≤ (arrOf st).size) (hi : i + 1 < (pendingOf st).size)
    (h : ∀ st', Kn st' → (arrOf st').Perm (arrOf st) → RL (arrOf st') 0 (pendingOf st').toList e → (pendingOf st').size + 1 = (pendingOf st).size → (∀ k, e ≤ k → K (arrOf st') k = K (arrOf st) k) → Q true st') :
    wpS (model prog w) A E s (mergeAt' i) Q st := by
  have hi' : i + 1 < (pendingOf st).toList.length := by simpa using hi
  have ep : (pendingOf st).toList = (pendingOf st).toList.take i ++ ((pendingOf st).toList[i] :: (pendingOf st).toList[i + 1] :: (pendingOf st).toList.drop (i + 2)) := by
    rw [← List.drop_eq_getElem_cons hi', ← List.drop_eq_getElem_cons (by omega), List.take_append_drop]
  have p1 : (pendingOf st)[i]? = some ((pendingOf st).toList[i]) := by rw [← Array.getElem?_toList]; exact List.getElem?_eq_getElem (by omega)
  have p2 : (pendingOf st)[i + 1]? = some ((pendingOf st).toList[i + 1]) := by rw [← Array.getElem?_toList]; exact List.getElem?_eq_getElem hi'
  have hlt : ((pendingOf st).toList.take i).length = i := by rw [List.length_take]; omega
  generalize hl1 : (pendingOf st).toList.take i = l1 at *
  generalize hl2 : (pendingOf st).toList.drop (i + 2) = l2 at *
  generalize hx : (pendingOf st).toList[i] = x at *
  generalize hy : (pendingOf st).toList[i + 1] = y at *
  obtain ⟨sa, na, pw⟩ := x
  obtain ⟨sb, nb, pv⟩ := y
  rw [ep] at R
  obtain ⟨m, R1, ⟨a1, a2, a3, b1, b2, b3, R2⟩⟩ := RL.app.mp R
  dsimp only at a1 a2 a3 b1 b2 b3 R2
  subst a1
  have le2 := RL.le R2
  have hsz : (arrOf st).toList.length = (arrOf st).size := by simp
  generalize hT : (arrOf st).toList = T at *
  have e4 : T = T.take sa ++ ((T.drop sa).take na ++ ((T.drop (sa + na)).take nb ++ T.drop (sa + na + nb))) := by
    rw [show T.drop (sa + na + nb) = (T.drop (sa + na)).drop nb from List.drop_drop.symm, List.take_append_drop, show T.drop (sa + na) = (T.drop sa).drop na from List.drop_drop.symm, List.take_append_drop, List.take_append_drop]
  have n1 : (T.take sa).length = sa := by rw [List.length_take]; omega
  have n2 : ((T.drop sa).take na).length = na := by rw [List.length_take, List.length_drop]; omega
  have n3 : ((T.drop (sa + na)).take nb).length = nb := by rw [List.length_take, List.length_drop]; omega
  generalize hP : T.take sa = P at *
  generalize hX : (T.drop sa).take na = X at *
  generalize hY : (T.drop (sa + na)).take nb = Y at *
  generalize hZ : T.drop (sa + na + nb) = Z at *
  have hT4 := hT.trans e4
  have sx : Srt X := (so_srt (s := sa) (n := na) hT4 n1.symm n2.symm).mp a3
  have sy : Srt Y := (so_srt (s := sa + na) (n := nb) (P := P ++ X) (X := Y) (Z := Z) (by rw [hT4]; simp) (by simp; omega) n3.symm).mp b3
  refine mergeAt_ok hk hT4 p1 p2 n1.symm n2.symm b1 n3.symm a2 b2 sx sy fun st' W w1 w2 w3 w4 w5 w6 => ?_
  have hW : W.length = na + nb := by rw [w1.length_eq, List.length_append]; omega
  have hperm : (arrOf st').Perm (arrOf st) := by
    refine Array.perm_iff_toList_perm.mpr ?_
    rw [w3, hT4, ← List.append_assoc X]
    exact List.Perm.append_left P (List.Perm.append_right Z w1)
  have epd : (pendingOf st').toList = l1 ++ (sa, na + nb, pw) :: l2 := by
    rw [w6, Array.toList_eraseIdxIfInBounds, Array.toList_setIfInBounds, ep, List.set_append_right _ _ (by omega), show i - l1.length = 0 by omega, List.set_cons_zero,
      List.eraseIdx_append_of_length_le (by omega), show i + 1 - l1.length = 1 by omega]
    rfl
  have klow : ∀ k, k < sa → K (arrOf st') k = K (arrOf st) k := by
    intro k hk'
    rw [K_list, K_list, w3, hT4, List.getElem?_append_left (by omega), List.getElem?_append_left (by omega)]
  have khi : ∀ k, sa + na + nb ≤ k → K (arrOf st') k = K (arrOf st) k := by
    intro k hk'
    rw [K_list, K_list, w3, hT4, List.getElem?_append_right (by omega), List.getElem?_append_right (by omega), List.getElem?_append_right (by omega), List.getElem?_append_right (by omega), List.getElem?_append_right (by omega)]
    rw [show k - P.length - W.length = k - P.length - X.length - Y.length by omega]
  refine h st' ⟨w4.trans hk.kind, w5.trans hk.fl, fun p hp => hk.ik p ((Array.perm_iff_toList_perm.mp hperm).mem_iff.mp hp)⟩ hperm ?_ ?_ fun k hk' => khi k (by omega)
  · rw [epd]
    refine RL.app.mpr ⟨sa, R1.congr fun k _ hk' => klow k hk', rfl, by show 0 < na + nb; omega, (so_srt (s := sa) (n := na + nb) w3 n1.symm hW.symm).mpr w2, ?_⟩
    show RL (arrOf st') (sa + (na + nb)) l2 e
    rw [← Nat.add_assoc]
    exact R2.congr fun k hk' _ => khi k hk'
  · have c1 : (pendingOf st').toList.length = (pendingOf st').size := by simp
    have c2 : (pendingOf st).toList.length = (pendingOf st).size := by simp
    rw [← c1, ← c2, epd, ep]
    simp
    omega
end
end LS
set_option Elab.async false
set_option linter.all false
set_option maxRecDepth 100000
namespace LS
open PySem PyProof PyProof.Rows
section
variable {prog : Program} {w : World} {A : Around} {E : Value → Shared → Prop} {s : Shared} {a₀ : Array Keyed}
structure Rn (a₀ : Array Keyed) (e : Nat) (st : SortSt) : Prop where
  kn : Kn st
  perm : (arrOf st).Perm a₀
  rl : RL (arrOf st) 0 (pendingOf st).toList e
  le : e ≤ a₀.size
theorem Rn.size {e : Nat} {st : SortSt} (h : Rn a₀ e st) : (arrOf st).size = a₀.size := h.perm.size_eq
theorem mI_ok {st : SortSt} {e n pw : Nat} {Q : MI → SortSt → Prop} (h0 : Rn a₀ e st)
    (h : ∀ st', Rn a₀ e st' → (∀ k, e ≤ k → K (arrOf st') k = K (arrOf st) k) → Q (none, ()) st') : wpS (model prog w) A E s (forIn [0:n] ((none, ()) : MI) (mI pw)) Q st := by
  refine wpS_forRange (I := fun _ c st' => c = (none, ()) ∧ Rn a₀ e st' ∧ ∀ k, e ≤ k → K (arrOf st') k = K (arrOf st) k) ?_ (fun c st' hh => by obtain ⟨rfl, a, b⟩ := hh; exact h st' a b) ⟨rfl, h0, fun _ _ => rfl⟩
  rintro x c st' _ _ ⟨rfl, hr, hp'⟩
  unfold mI
  refine wpS_bind (wpS_get ?_)
  by_cases c1 : (pendingOf st').size > 1
  · rw [if_pos c1]
    have e1 : (pendingOf st')[(pendingOf st').size - 2]? = some (pendingOf st')[(pendingOf st').size - 2] := getElem?_pos _ _ (by omega)
    rw [e1]
    generalize (pendingOf st')[(pendingOf st').size - 2] = y
    obtain ⟨y1, y2, y3⟩ := y
    dsimp only
    by_cases c2 : y3 ≤ pw
    · rw [if_pos c2]
      exact wpS_pure (h st' hr hp')
    · rw [if_neg c2]
      refine wpS_bind (merge_runs hr.kn hr.rl (by rw [hr.size]; exact hr.le) (by omega) fun st2 b1 b2 b3 b4 b5 => ?_)
      rw [if_neg (by simp)]
      exact wpS_pure ⟨rfl, ⟨b1, b2.trans hr.perm, b3, hr.le⟩, fun k hk => (b5 k hk).trans (hp' k hk)⟩
  · rw [if_neg c1]
    exact wpS_pure (h st' hr hp')
def PR (a₀ : Array Keyed) (m : Nat) (r : ForInStep RO) (st' : SortSt) : Prop := match r with
  | .done (none, e) => e = a₀.size ∧ Rn a₀ e st'
  | .yield (none, e) => Rn a₀ e st' ∧ m ≤ e
  | _ => False
theorem r3_ok {st : SortSt} {lo n m : Nat} (h0 : Rn a₀ lo st) (hn : 0 < n) (hs : So (arrOf st) lo n) (hle : lo + n ≤ a₀.size) (hm : m ≤ lo + n) :
    wpS (model prog w) A E s (r3 lo n) (PR a₀ m) st := by
  unfold r3
  refine wpS_bind (wpS_modify (wpS_pure ⟨⟨⟨h0.kn.kind, h0.kn.fl, h0.kn.ik⟩, h0.perm, ?_, hle⟩, hm⟩))
  show RL (arrOf st) 0 ((pendingOf st).push (lo, n, 0)).toList (lo + n)
  rw [Array.toList_push]
  exact RL.app.mpr ⟨lo, h0.rl, rfl, hn, hs, rfl⟩
theorem rl_modify {xs : Array Keyed} {pw : Nat} : ∀ {l : List Pn} {i s e : Nat}, RL xs s l e → RL xs s (l.modify i fun x => (x.1, x.2.1, pw)) e
  | [], i, s, e, h => by simpa using h
  | x :: t, 0, s, e, h => by rw [List.modify_zero_cons]; exact h
  | x :: t, i + 1, s, e, h => by
    rw [List.modify_succ_cons]
    exact ⟨h.1, h.2.1, h.2.2.1, rl_modify h.2.2.2⟩
theorem r2_ok {st : SortSt} {size lo n m : Nat} (h0 : Rn a₀ lo st) (hn : 0 < n) (hs : So (arrOf st) lo n) (hle : lo + n ≤ a₀.size) (hm : m ≤ lo + n) :
    wpS (model prog w) A E s (r2 size lo n) (PR a₀ m) st := by
  unfold r2
  refine wpS_bind (wpS_get ?_)
  cases (pendingOf st).back? with
  | none => exact r3_ok h0 hn hs hle hm
  | some x =>
    obtain ⟨s1, n1, pw⟩ := x
    dsimp only
    refine wpS_bind (mI_ok h0 fun st' hr hk => ?_)
    dsimp only
    refine wpS_bind (wpS_modify ?_)
    refine r3_ok ⟨⟨hr.kn.kind, hr.kn.fl, hr.kn.ik⟩, hr.perm, ?_, hr.le⟩ hn (hs.congr fun k a _ => hk k a) hle hm
    show RL (arrOf st') 0 ((pendingOf st').modify _ _).toList lo
    rw [Array.toList_modify]
    exact rl_modify hr.rl
theorem Rn.of {st st' : SortSt} {lo : Nat} (h : Rn a₀ lo st) (b : Rb lo st st') : Rn a₀ lo st' := by
  refine ⟨b.kn h.kn, b.perm.trans h.perm, ?_, h.le⟩
  rw [b.pend]
  exact h.rl.congr fun k _ hk => K_congr (b.low k hk)
theorem r1_ok {st : SortSt} {c : RO} {x : Nat} (h2 : 0 < a₀.size) (hc : c.1 = none) (h0 : Rn a₀ c.2 st) (hx : x ≤ c.2) :
    wpS (model prog w) A E s (r1 a₀.size x c) (PR a₀ (x + 1)) st := by
  obtain ⟨r, lo⟩ := c
  dsimp only at hc h0 hx
  unfold r1
  dsimp only
  have hle := h0.le
  have hz := h0.size
  by_cases c1 : lo ≥ a₀.size
  · rw [if_pos c1]
    exact wpS_pure ⟨by omega, h0⟩
  · rw [if_neg c1]
    refine wpS_bind (countRun_ok h0.kn (by omega) (by omega) fun m st' hb m1 m2 hs => ?_)
    dsimp only
    by_cases c2 : m < minRun' a₀.size a₀.size 0
    · rw [if_pos c2]
      refine wpS_bind (wpS_lift (wpAny_rule ⟨rfl, ?_⟩))
      refine wpS_bind (binarySort_ok h0.kn hb (by omega) m1 (by omega) hs fun st2 hb2 hs2 => ?_)
      rw [if_neg (by simp)]
      exact r2_ok (h0.of hb2) (by omega) hs2 (by omega) (by omega)
    · rw [if_neg c2]
      exact r2_ok (h0.of hb) (by omega) hs (by omega) (by omega)
theorem f1_ok {st : SortSt} {Q : MI → SortSt → Prop} {n : Nat} (hn : n = a₀.size) (h0 : Rn a₀ n st)
    (h : ∀ st', Rn a₀ n st' → (pendingOf st').size ≤ 1 → Q (none, ()) st') : wpS (model prog w) A E s (forIn [0:n] ((none, ()) : MI) f1) Q st := by
  have hl0 := RL.le h0.rl
  have hl1 : (pendingOf st).toList.length = (pendingOf st).size := by simp
  refine wpS_forRange (I := fun x c st' => c = (none, ()) ∧ Rn a₀ n st' ∧ ((pendingOf st').size + x ≤ n ∨ (pendingOf st').size ≤ 1)) ?_ ?_ ⟨rfl, h0, .inl (by omega)⟩
  · rintro x c st' _ hx ⟨rfl, hr, hp⟩
    unfold f1
    refine wpS_bind (wpS_get ?_)
    by_cases c1 : (pendingOf st').size ≤ 1
    · rw [if_pos c1]
      exact wpS_pure (h st' hr c1)
    · rw [if_neg c1]
      refine wpS_bind ?_
      have hi : ∀ b : Bool, (if b = true then (pendingOf st').size - 2 - 1 else (pendingOf st').size - 2) + 1 < (pendingOf st').size := by
        intro b
        cases b <;> simp <;> omega
      refine merge_runs hr.kn hr.rl (by rw [hr.size]; exact hr.le) (hi _) fun st2 b1 b2 b3 b4 b5 => ?_
      rw [if_neg (by simp)]
      exact wpS_pure ⟨rfl, ⟨b1, b2.trans hr.perm, b3, hr.le⟩, .inl (by omega)⟩
  · rintro c st' ⟨rfl, hr, hp⟩
    exact h st' hr (by omega)
theorem sortRuns_ok {st : SortSt} {Q : Unit → SortSt → Prop} (h0 : IntKeys (arrOf st)) (hk : kindOf st = oneType') (hf : failedOf st = none) (hp : pendingOf st = #[]) (h2 : 0 < (arrOf st).size)
    (h : ∀ st', (arrOf st').Perm (arrOf st) → failedOf st' = none → SortedTo (arrOf st') (arrOf st).size → Q () st') : wpS (model prog w) A E s sortRuns' Q st := by
  rw [sortRuns_eq]
  refine wpS_bind (wpS_get ?_)
  have r0 : Rn (arrOf st) 0 st := ⟨⟨hk, hf, h0⟩, Array.Perm.refl _, by rw [hp]; rfl, by omega⟩
  refine wpS_bind (wpS_mono (wpS_forRange (I := fun x (c : RO) st' => c.1 = none ∧ Rn (arrOf st) c.2 st' ∧ x ≤ c.2) (Q := fun c st' => c = (none, (arrOf st).size) ∧ Rn (arrOf st) (arrOf st).size st') ?_ ?_ ⟨rfl, r0, Nat.le_refl _⟩) ?_)
  · rintro x c st' _ hx ⟨c1, c2, c3⟩
    refine wpS_mono (r1_ok h2 c1 c2 c3) ?_
    rintro (⟨r, e⟩ | ⟨r, e⟩) st2 hh
    · cases r with
      | some r => exact hh.elim
      | none =>
        obtain ⟨rfl, hr⟩ := hh
        exact ⟨rfl, hr⟩
    · cases r with
      | some r => exact hh.elim
      | none => exact ⟨rfl, hh.1, hh.2⟩
  · rintro ⟨r, e⟩ st' ⟨c1, c2, c3⟩
    dsimp only at c1 c2 c3
    have := c2.le
    have : e = (arrOf st).size := by omega
    subst this c1
    exact ⟨rfl, c2⟩
  · rintro c st' ⟨rfl, hr⟩
    dsimp only
    refine wpS_bind (f1_ok rfl hr fun st2 hr2 hs => ?_)
    refine wpS_pure (h st2 hr2.perm hr2.kn.fl ?_)
    have rl := hr2.rl
    have hl1 : (pendingOf st2).toList.length = (pendingOf st2).size := by simp
    generalize (pendingOf st2).toList = l at rl hl1
    match l, rl, hl1 with
    | [], rl, _ =>
      have : 0 = (arrOf st).size := rl
      omega
    | [x], rl, _ =>
      have e : 0 + x.2.1 = (arrOf st).size := rl.2.2.2
      intro i j a b
      have := rl.2.2.1 i j a (by omega)
      simpa using this
    | x :: y :: t, _, hl => simp at hl; omega
end
end LS
set_option Elab.async false
set_option linter.all false
set_option maxRecDepth 100000
set_option maxHeartbeats 4000000
namespace SO
open PySem PySem.W PySem.Calls PyProof.Rows
section
variable {P : Program} {w : World} {A : Around} {E : Value → Shared → Prop} {s : Shared} {vs : List Value}
theorem lsort_int {a : Addr} {c0 : Nat} {ns : List Int} {F : PySem.Fin → Shared → Prop} (ho : s.heap.get? a = some (seqObj "list" vs.toArray c0)) (hI : IntsAre vs ns) (hz : vs.length ≤ sizeLine)
    (hq : ∀ (out : List Value) (ns' : List Int) (h' : Heap) (c : Nat), IntsAre out ns' → ns'.Perm ns → ns'.Pairwise (· ≤ ·) → Kb a s.heap h' → h'.get? a = some (seqObj "list" out.toArray c) → F (.done (.ret .none)) { s with heap := h' }) :
    wpAny (model P w) A (Builtin.«list.sort» ⟨[.ref a], []⟩) F E s := by
  obtain ⟨c1, h1⟩ : ∃ c1, (s.heap.update a (Obj.mapSeq fun _ => (#[] : Array Value))).get? a = some (seqObj "list" #[] c1) := ⟨_, get?_update_seq ho fun _ => #[]⟩
  have k1 : Kb a s.heap (((s.heap.update a (Obj.mapSeq fun _ => (#[] : Array Value))).push (seqObj "tuple" vs.toArray 0)).push (seqObj "list" #[] 0)) := ((kb_upd _ _ _).trans (kb_push _ _ _)).trans (kb_push _ _ _)
  have h3 : (((s.heap.update a (Obj.mapSeq fun _ => (#[] : Array Value))).push (seqObj "tuple" vs.toArray 0)).push (seqObj "list" #[] 0)).get? a = some (seqObj "list" #[] c1) := Heap.get?_push_of_some _ (Heap.get?_push_of_some _ h1)
  rw [list_sort_plain]
  refine wpAny_bind (listItems_at ho rfl (wpAny_bind (listUpdate_at ho rfl (wpAny_bind (seqEpoch_at h1 rfl (wpAny_bind (wpAny_newTuple (wpAny_bind (wpAny_newList (wpAny_holding ?_) (Nat.zero_le _))) ?z2)))) ?z1 (Nat.zero_le _))))
  case z1 => rw [List.size_toArray]; omega
  case z2 => exact hz
  show wpAny (model P w) A _ F E ({ s with heap := ((s.heap.update a (Obj.mapSeq fun _ => (#[] : Array Value))).push (seqObj "tuple" vs.toArray 0)).push (seqObj "list" #[] 0) } : Shared)
  generalize ((s.heap.update a (Obj.mapSeq fun _ => (#[] : Array Value))).push (seqObj "tuple" vs.toArray 0)).push (seqObj "list" #[] 0) = hp at k1 h3
  dsimp only
  have fin : ∀ (st : SortSt), (arrOf st).Perm (pairsOf vs) → SortedTo (arrOf st) (pairsOf vs).size → failedOf st = none → wpAny (model P w) A (do
      let touched := (← seqEpoch a) != c1
      Builtin.List.listUpdate (.ref a) fun _ => (arrOf st).map (·.2)
      if let some e := failedOf st then rule "list.sort.comparison-raised"; throw e
      if touched then rule "list.sort.modified"; raiseError "ValueError" "list modified during sort"
      ret .none) F E { s with heap := hp } := by
    intro st hpm hs hfail
    obtain ⟨ns', a1, a2, a3⟩ := sorted_out hI hpm hs
    have hlen : ((arrOf st).map (·.2)).size = vs.length := (Array.size_map ..).trans (hpm.size_eq.trans (pairsOf_size _))
    obtain ⟨c2, h4⟩ : ∃ c2, (hp.update a (Obj.mapSeq fun _ => (arrOf st).map (·.2))).get? a = some (seqObj "list" ((arrOf st).map (·.2)) c2) := ⟨_, get?_update_seq h3 fun _ => (arrOf st).map (·.2)⟩
    rw [hfail]
    refine wpAny_bind (seqEpoch_at h3 rfl (wpAny_bind (listUpdate_at h3 rfl ?_ (Nat.zero_le _) ?z3)))
    case z3 => rw [hlen]; omega
    simp only [bne_self_eq_false, Bool.false_eq_true, if_false]
    exact wpAny_pure (hq _ ns' _ c2 a1 a2 a3 (k1.trans (kb_upd _ _ _)) (by rw [h4]))
  by_cases hsmall : vs.toArray.size < 2
  · rw [if_pos hsmall, if_pos hsmall]
    have hs2 : vs.length < 2 := by simpa using hsmall
    refine wpAny_bind (wpAny_pure ?_)
    rw [StateT.run_pure]
    refine wpAny_bind (wpAny_pure (fin (SortSt.mk' general' (vs.toArray.zip vs.toArray) #[] 7 none) (Array.Perm.refl _) ?_ rfl))
    intro i j hij hj
    have : i = j := by rw [pairsOf_size] at hj; omega
    subst this; exact Int.le_refl _
  · rw [if_neg hsmall, if_neg hsmall]
    obtain ⟨v₁, v₂, rest, rfl⟩ : ∃ v₁ v₂ rest, vs = v₁ :: v₂ :: rest := by
      match vs, hsmall with
      | [], h2 => simp at h2
      | [_], h2 => simp at h2
      | v₁ :: v₂ :: rest, _ => exact ⟨v₁, v₂, rest, rfl⟩
    rw [keyKind_ints hI]
    refine wpAny_bind (wpAny_pure ?_)
    refine wpAny_bind (wpAny_mono (LS.sortRuns_ok (st := SortSt.mk' oneType' ((v₁ :: v₂ :: rest).toArray.zip (v₁ :: v₂ :: rest).toArray) #[] 7 none)
      (Q := fun _ st' => (arrOf st').Perm (pairsOf (v₁ :: v₂ :: rest)) ∧ failedOf st' = none ∧ SortedTo (arrOf st') (pairsOf (v₁ :: v₂ :: rest)).size)
      hI.intKeys rfl rfl rfl (by show 0 < (pairsOf (v₁ :: v₂ :: rest)).size; rw [pairsOf_size]; simp) fun st' a1 a2 a3 => ⟨a1, a2, a3⟩) ?_ fun _ _ e => e)
    rintro ⟨⟨⟩, st'⟩ s' ⟨rfl, hp', hf, hs⟩
    exact fin st' hp' hs hf
end
end SO
namespace MR
open PySem PySem.Spec PyProof.Rows PySem.Calls L2 SO
noncomputable def sortI (ns : List Int) : List Int := ns.mergeSort (fun a b => decide (a ≤ b))
theorem sortI_perm (ns : List Int) : (sortI ns).Perm ns := List.mergeSort_perm _ _
theorem sortI_up (ns : List Int) : (sortI ns).Pairwise (· ≤ ·) := by
  have := List.pairwise_mergeSort (le := fun a b : Int => decide (a ≤ b)) (fun a b c h1 h2 => by simp at h1 h2 ⊢; omega) (fun a b => by simp; omega) ns
  exact this.imp fun h => by simpa using h
theorem up_same {a b : List Int} (h : a.Perm b) (ha : a.Pairwise (· ≤ ·)) (hb : b.Pairwise (· ≤ ·)) : a = b :=
  h.eq_of_pairwise (fun x y _ _ h1 h2 => Int.le_antisymm h1 h2) ha hb
theorem sortI_of {a b : List Int} (h : a.Perm b) (hb : b.Pairwise (· ≤ ·)) : sortI a = b := up_same ((sortI_perm a).trans h) (sortI_up a) hb
section
variable {X : Cx}
theorem call_sortI (hc : X.calm = true) : CallR X (.builtin "sorted") (fun xs H Q => ∃ (l : Addr) (ns : List Int), xs = [.ref l] ∧ SqT X.K H l (ns.map V.int) ∧
    ∀ (p : Addr), H p = none → Q (.ref p) (upd H p (.lst ((sortI ns).map V.int)))) := by
  intro pins s σ H xs us Q I r h
  obtain ⟨l, ns, rfl, hq, q⟩ := h
  obtain ⟨u, rfl, rx⟩ := vals1 r
  cases rx
  obtain ⟨its, rv, tp, hz⟩ := I.tuple hq
  obtain ⟨o, ho, hcl, cn, hd⟩ := tp
  have hI : IntsAre its ns := intsAre_of rv
  have hlen := rv.length
  refine call_function_entry kind_sorted plain_sorted entry_sorted (args_sorted1 _) ?_
  unfold Builtin.«sorted»
  refine wpAny_bind (m := checkCount "sorted" 1 1 _) (wpAny_pure (wpAny_bind (wpAny_collect_seq l (.inr rfl) ho hcl hd (fun h1 kp => ?_) (by rw [List.size_toArray]; omega))))
  rw [show its.toArray.toList = its from by simp]
  refine wpAny_bind (wpAny_newList ?_ (by omega))
  have e2 : (h1.push (seqObj "list" its.toArray 0)).get? h1.objs.size = some (seqObj "list" its.toArray 0) := Heap.get?_push_size _ rfl
  have e3 : ∀ b o, h1.get? b = some o → (h1.push (seqObj "list" its.toArray 0)).get? b = some o := fun b o q => Heap.get?_push_of_some _ q
  have e4 : ∀ (h' : Heap), Kb h1.objs.size (h1.push (seqObj "list" its.toArray 0)) h' → ∀ b o, h1.get? b = some o → h'.get? b = some o := fun h' k b o q =>
    k b o (Nat.ne_of_lt (Heap.lt_size q)) (e3 b o q)
  show wpAny _ _ _ _ _ ({ s with heap := h1.push (seqObj "list" its.toArray 0) } : Shared)
  generalize h1.push (seqObj "list" its.toArray 0) = hp at e2 e3 e4
  refine wpAny_bind (wpAny_holding (wpAny_call_entry slot_list_sort ⟨_, e2, rfl⟩ entry_list_sort (lsort_int (s := { s with heap := hp }) e2 hI (by omega) fun out ns' h' c a1 a2 a3 a4 a5 => ⟨_, rfl, ?_⟩) (args_list_sort _)))
  have J0 : L2.Inv X pins σ H { s with heap := h1 } := I.kept (t' := s.toks) kp
  have en : ns' = sortI ns := (sortI_of a2.symm a3).symm
  subst en
  have hsz : ((sortI ns).map V.int).length ≤ sizeLine := by
    rw [List.length_map, (sortI_perm ns).length_eq]
    rw [List.length_map] at hz
    exact hz
  have I1 : Inv X pins σ (upd H h1.objs.size (.lst ((sortI ns).map V.int))) { s with heap := h' } := J0.laid (t' := s.toks) (e4 h' a4) (Nat.le_refl _) ⟨hsz, out, c, vals_ints a1, a5⟩
  exact wpAny_pure ⟨_, rfl, .ref h1.objs.size, _, I1, rfl, q _ (J0.hok.fresh (Nat.le_refl _))⟩
end
noncomputable def semSortI : SC := fun us L => match us with
  | [.tup l] => (mapO toI l).bind fun ns => some (.ref L.length, L ++ [.lst ((sortI ns).map U.int)])
  | _ => none
theorem sem_sortI {K : PySem.W.Frag} : SemC K (fun xs H Q => ∃ (l : Addr) (ns : List Int), xs = [.ref l] ∧ SqT K H l (ns.map V.int) ∧
    ∀ (p : Addr), H p = none → Q (.ref p) (upd H p (.lst ((sortI ns).map V.int)))) semSortI := by
  intro H α L us xs z L' Q A r e q
  unfold semSortI at e
  split at e
  · obtain ⟨ns, hns, e⟩ := Option.bind_eq_some_iff.mp e
    cases e
    obtain ⟨x, rfl, rx⟩ := r.one
    unfold RepU at rx
    obtain ⟨a, ys, rfl, sq, r2⟩ := rx
    rw [toIs_ok r2 hns] at sq
    refine ⟨a, ns, rfl, sq, fun p hp => ?_⟩
    have rl : RepL K H α ((sortI ns).map U.int) ((sortI ns).map V.int) := by
      generalize sortI ns = ws
      induction ws with
      | nil => exact .nil
      | cons w ws ih => exact .cons (by unfold RepU; rfl) ih
    obtain ⟨g2, A2, r3⟩ := A.lst rl hp
    exact q _ _ _ g2 A2 r3
  · cases e
end MR
set_option Elab.async false
set_option linter.all false
set_option maxRecDepth 100000
set_option maxHeartbeats 1000000
namespace MR
open PySem L2
@[simp] theorem fVar_eq (i : Nat) (δ : UE) (L : UH) : fVar i δ L = (δ[i]?).join.map fun u => (u, L) := rfl
@[simp] theorem fC_eq (u : U) (δ : UE) (L : UH) : fC u δ L = some (u, L) := rfl
@[simp] theorem f2_eq (s : S2) (a b : FE) (δ : UE) (L : UH) : f2 s a b δ L = (a δ L).bind fun p => (b δ p.2).bind fun q => s p.1 q.1 q.2 := rfl
@[simp] theorem fTest_eq (f : FE) (δ : UE) (L : UH) : fTest f δ L = (f δ L).bind fun p => match p.1 with | .bl k => some (k, p.2) | _ => none := rfl
@[simp] theorem fAnd_eq (f g : FT) (δ : UE) (L : UH) : fAnd f g δ L = (f δ L).bind fun p => if p.1 = true then g δ p.2 else some (false, p.2) := rfl
@[simp] theorem fOr_eq (f g : FT) (δ : UE) (L : UH) : fOr f g δ L = (f δ L).bind fun p => if p.1 = true then some (true, p.2) else g δ p.2 := rfl
@[simp] theorem fNot_eq (f : FT) (δ : UE) (L : UH) : fNot f δ L = (f δ L).map fun p => (!p.1, p.2) := rfl
@[simp] theorem fAndV_eq (f g : FE) (δ : UE) (L : UH) : fAndV f g δ L = (f δ L).bind fun p => match p.1 with | .bl k => if k = true then g δ p.2 else some (.bl false, p.2) | _ => none := rfl
@[simp] theorem fOrV_eq (f g : FE) (δ : UE) (L : UH) : fOrV f g δ L = (f δ L).bind fun p => match p.1 with | .bl k => if k = true then some (.bl true, p.2) else g δ p.2 | _ => none := rfl
@[simp] theorem fNotV_eq (f : FE) (δ : UE) (L : UH) : fNotV f δ L = (f δ L).bind fun p => match p.1 with | .bl k => some (.bl (!k), p.2) | _ => none := rfl
@[simp] theorem fIf_eq (c : FT) (f g : FE) (δ : UE) (L : UH) : fIf c f g δ L = (c δ L).bind fun p => if p.1 = true then f δ p.2 else g δ p.2 := rfl
@[simp] theorem fNil_eq (δ : UE) (L : UH) : fNil δ L = some ([], L) := rfl
@[simp] theorem fCons_eq (f : FE) (g : FA) (δ : UE) (L : UH) : fCons f g δ L = (f δ L).bind fun p => (g δ p.2).map fun q => (p.1 :: q.1, q.2) := rfl
@[simp] theorem fTup_eq (g : FA) (δ : UE) (L : UH) : fTup g δ L = (g δ L).bind fun p => if small p.1.length = true then some (.tup p.1, p.2) else none := rfl
@[simp] theorem fLst_eq (g : FA) (δ : UE) (L : UH) : fLst g δ L = (g δ L).bind fun p => if small p.1.length = true then some (.ref p.2.length, p.2 ++ [.lst p.1]) else none := rfl
@[simp] theorem fCall_eq (s : SC) (g : FA) (δ : UE) (L : UH) : fCall s g δ L = (g δ L).bind fun p => s p.1 p.2 := rfl
@[simp] theorem fOwn_eq (n : Nat) (F : FN) (g : FA) (δ : UE) (L : UH) : fOwn n F g δ L = (g δ L).bind fun p => if p.1.length = n then F p.1 p.2 else none := rfl
@[simp] theorem fMeth_eq (T : String) (s : SM) (f : FE) (g : FA) (δ : UE) (L : UH) : fMeth T s f g δ L = (f δ L).bind fun p => if tyU T p.1 p.2 = true then (g δ p.2).bind fun q => s p.1 q.1 q.2 else none := rfl
@[simp] theorem fPart_eq (f : FE) (δ : UE) (L : UH) : fPart f δ L = (f δ L).bind fun p => match p.1 with | .int i => some (some i, p.2) | _ => none := rfl
@[simp] theorem fNoPart_eq (δ : UE) (L : UH) : fNoPart δ L = some (none, L) := rfl
@[simp] theorem fSl_eq (s : SS) (f : FE) (l h : FO) (δ : UE) (L : UH) : fSl s f l h δ L = (f δ L).bind fun p => (l δ p.2).bind fun q => (h δ q.2).bind fun r => s p.1 q.1 r.1 r.2 := rfl
@[simp] theorem fNeg_eq (f : FE) (δ : UE) (L : UH) : fNeg f δ L = (f δ L).bind fun p => match p.1 with | .int i => some (.int (-i), p.2) | _ => none := rfl
@[simp] theorem fTru_eq (f : FE) (δ : UE) (L : UH) : fTru f δ L = (f δ L).bind fun p => (truU p.1 p.2).map fun k => (k, p.2) := rfl
@[simp] theorem fIsi_eq (c : String) (f : FE) (δ : UE) (L : UH) : fIsi c f δ L = (f δ L).bind fun p => (tyName p.1 p.2).map fun t => (.bl (isT t c), p.2) := rfl
@[simp] theorem fNext_eq (δ : UE) (L : UH) : fNext δ L = some (.nx δ, L) := rfl
@[simp] theorem fSeq_eq (f g : FS) (δ : UE) (L : UH) : fSeq f g δ L = (f δ L).bind fun p => match p.1 with | .nx δ' => g δ' p.2 | fl => some (fl, p.2) := rfl
@[simp] theorem fRet_eq (f : FE) (δ : UE) (L : UH) : fRet f δ L = (f δ L).map fun p => (.rt p.1, p.2) := rfl
@[simp] theorem fDrop_eq (f : FE) (δ : UE) (L : UH) : fDrop f δ L = (f δ L).map fun p => (.nx δ, p.2) := rfl
@[simp] theorem fRetN_eq (δ : UE) (L : UH) : fRetN δ L = some (.rt .non, L) := rfl
@[simp] theorem fIfS_eq (c : FT) (f g : FS) (δ : UE) (L : UH) : fIfS c f g δ L = (c δ L).bind fun p => if p.1 = true then f δ p.2 else g δ p.2 := rfl
@[simp] theorem gN_eq (i : Nat) (u : U) (δ : UE) (L : UH) : gN i u δ L = some (δ.set i (some u), L) := rfl
@[simp] theorem gNil_eq (δ : UE) (L : UH) : MR.gNil [] δ L = some (δ, L) := rfl
@[simp] theorem gCons_eq (f : FG) (g : FGs) (u : U) (r : List U) (δ : UE) (L : UH) : MR.gCons f g (u :: r) δ L = (f u δ L).bind fun p => g r p.1 p.2 := rfl
@[simp] theorem gTup_eq (n : Nat) (g : FGs) (us : List U) (δ : UE) (L : UH) : MR.gTup n g (.tup us) δ L = if us.length = n then g us δ L else none := rfl
@[simp] theorem gSub_eq (a b : FE) (v : U) (δ : UE) (L : UH) : MR.gSub a b v δ L = (a δ L).bind fun p => (b δ p.2).bind fun q => match p.1, q.1 with
  | .ref n, .int k => (lstAt q.2 n).bind fun l => (ixN l.length k).map fun j => (δ, q.2.set n (.lst (l.set j v)))
  | _, _ => none := rfl
@[simp] theorem fAsg_eq (f : FE) (g : FG) (δ : UE) (L : UH) : fAsg f g δ L = (f δ L).bind fun p => (g p.1 δ p.2).map fun q => (.nx q.1, q.2) := rfl
@[simp] theorem fFor_eq (fi : FI) (g : FG) (b : FS) (δ : UE) (L : UH) : fFor fi g b δ L = (fi δ L).bind fun p => loopU p.1 g b (p.1.size p.2 + 1) 0 δ p.2 := rfl
@[simp] theorem fSeqI_eq (f : FE) (δ : UE) (L : UH) : fSeqI f δ L = (f δ L).bind fun p => (iSeqU p.1 p.2).map fun i => (i, p.2) := rfl
@[simp] theorem fRng1_eq (g : FA) (δ : UE) (L : UH) : fRng1 g δ L = (g δ L).bind fun p => match p.1 with
  | [.int j] => if -(2 ^ 62) ≤ j ∧ j < 2 ^ 62 then some (.seq (rangeU 0 j.toNat), p.2) else none
  | _ => none := rfl
@[simp] theorem semAdd_int (i j : Int) (L : UH) : semAdd (.int i) (.int j) L = some (.int (i + j), L) := rfl
@[simp] theorem semSub_int (i j : Int) (L : UH) : semSub (.int i) (.int j) L = some (.int (i - j), L) := rfl
@[simp] theorem semMul_int (i j : Int) (L : UH) : semMul (.int i) (.int j) L = if mulOk i j = true then some (.int (i * j), L) else none := rfl
@[simp] theorem semDiv_int (i j : Int) (L : UH) : semDiv (.int i) (.int j) L = if divOk i j = true then some (.int (i / j), L) else none := rfl
@[simp] theorem semMod_int (i j : Int) (L : UH) : semMod (.int i) (.int j) L = if decide (0 < j) = true then some (.int (i % j), L) else none := rfl
@[simp] theorem semPow_int (i j : Int) (L : UH) : semPow (.int i) (.int j) L = if powOk i j = true then some (.int (i ^ j.toNat), L) else none := rfl
@[simp] theorem semLe_int (i j : Int) (L : UH) : semLe (.int i) (.int j) L = some (.bl (decide (i ≤ j)), L) := rfl
@[simp] theorem semLt_int (i j : Int) (L : UH) : semLt (.int i) (.int j) L = some (.bl (decide (i < j)), L) := rfl
@[simp] theorem semGt_int (i j : Int) (L : UH) : semGt (.int i) (.int j) L = some (.bl (decide (j < i)), L) := rfl
@[simp] theorem semGe_int (i j : Int) (L : UH) : semGe (.int i) (.int j) L = some (.bl (decide (j ≤ i)), L) := rfl
@[simp] theorem semEq_int (i j : Int) (L : UH) : semEq (.int i) (.int j) L = some (.bl (i == j), L) := rfl
@[simp] theorem semNe_int (i j : Int) (L : UH) : semNe (.int i) (.int j) L = some (.bl (!(i == j)), L) := rfl
@[simp] theorem semEq_bl (i j : Bool) (L : UH) : semEq (.bl i) (.bl j) L = some (.bl (i == j), L) := rfl
@[simp] theorem semNe_bl (i j : Bool) (L : UH) : semNe (.bl i) (.bl j) L = some (.bl (!(i == j)), L) := rfl
@[simp] theorem semIs_bl (i j : Bool) (L : UH) : semIs false (.bl i) (.bl j) L = some (.bl (i == j), L) := rfl
@[simp] theorem semIx_tup (l : List U) (i : Int) (L : UH) : semIx (.tup l) (.int i) L = (L2.atI l i).map fun z => (z, L) := rfl
@[simp] theorem semIx_ref (n : Nat) (i : Int) (L : UH) : semIx (.ref n) (.int i) L = (seqAt L n).bind fun l => (L2.atI l i).map fun z => (z, L) := rfl
@[simp] theorem truU_bl (b : Bool) (L : UH) : truU (.bl b) L = some b := rfl
theorem seqAt_lst {L : UH} {n : Nat} {us : List U} (h : L[n]? = some (.lst us)) : seqAt L n = some us := by unfold seqAt; rw [h]
theorem lstAt_lst {L : UH} {n : Nat} {us : List U} (h : L[n]? = some (.lst us)) : lstAt L n = some us := by unfold lstAt; rw [h]
theorem small_of {n : Nat} (h : n ≤ 16777216) : small n = true := by unfold small sizeLine; exact decide_eq_true (by omega)
theorem atI_of {β : Type} {l : List β} {i : Int} (h0 : 0 ≤ i) (h : i < l.length) : L2.atI l i = l[i.toNat]? := by
  unfold L2.atI ixN
  rw [if_pos h0, if_pos h]; rfl
theorem ixN_of {n : Nat} {i : Int} (h0 : 0 ≤ i) (h : i < n) : ixN n i = some i.toNat := by
  unfold ixN
  rw [if_pos h0, if_pos h]
theorem mulOk_l {i j : Int} (h1 : -1000000000000000000 ≤ i) (h2 : i ≤ 1000000000000000000) : mulOk i j = true := by
  unfold mulOk; simp only [Bool.or_eq_true, Bool.and_eq_true, decide_eq_true_eq]; left; constructor <;> omega
theorem mulOk_r {i j : Int} (h1 : -1000000000000000000 ≤ j) (h2 : j ≤ 1000000000000000000) : mulOk i j = true := by
  unfold mulOk; simp only [Bool.or_eq_true, Bool.and_eq_true, decide_eq_true_eq]; right; constructor <;> omega
theorem divOk_of {i j : Int} (h1 : 0 < j) (h2 : j < 1152921504606846976) : divOk i j = true := by
  unfold divOk; simp only [Bool.and_eq_true, decide_eq_true_eq]; exact ⟨h1, h2⟩
end MR
set_option Elab.async false
set_option linter.all false
set_option maxRecDepth 100000
set_option maxHeartbeats 1000000
namespace MR
open PySem L2
noncomputable def GoesOn (g : FG) (body : FS) (u : U) (δ : UE) (L : UH) (R : UE → UH → Prop) : Prop := ∃ δ1 L1, g u δ L = some (δ1, L1) ∧ ∃ δ2 L2, (body δ1 L1 = some (.nx δ2, L2) ∨ body δ1 L1 = some (.ct δ2, L2)) ∧ R δ2 L2
theorem loop_any {it : IU} {g : FG} {body : FS} {us : List U} (P : Nat → UE → UH → Prop) (hat : ∀ k δ L, k ≤ us.length → P k δ L → it.at k L = some us[k]?)
    (step : ∀ k u δ L, us[k]? = some u → P k δ L → GoesOn g body u δ L (P (k + 1))) :
    ∀ (m k : Nat) (δ : UE) (L : UH), us.length < m + k → k ≤ us.length → P k δ L → ∃ δ' L', loopU it g body m k δ L = some (.nx δ', L') ∧ P us.length δ' L'
  | 0, k, δ, L, h1, h2, _ => by omega
  | m + 1, k, δ, L, h1, h2, hP => by
    have hk := hat k δ L h2 hP
    unfold loopU
    rw [hk]
    cases hu : us[k]? with
    | none =>
      have : k = us.length := by have := List.getElem?_eq_none_iff.mp hu; omega
      subst this
      exact ⟨δ, L, rfl, hP⟩
    | some u =>
      have hlt : k < us.length := (List.getElem?_eq_some_iff.mp hu).1
      obtain ⟨δ1, L1, e1, δ2, L2, e2, hP2⟩ := step k u δ L hu hP
      obtain ⟨δ', L', e3, hP3⟩ := loop_any P hat step m (k + 1) δ2 L2 (by omega) (by omega) hP2
      refine ⟨δ', L', ?_, hP3⟩
      rcases e2 with e2 | e2
      · simp only [e1, Option.bind_some, e2, e3]
      · simp only [e1, Option.bind_some, e2, e3]
theorem for_seq {fi : FI} {g : FG} {body : FS} {us : List U} {δ : UE} {L L0 : UH} (P : Nat → UE → UH → Prop) (hi : fi δ L = some (.seq us, L0)) (h0 : P 0 δ L0) (step : ∀ k u δ L, us[k]? = some u → P k δ L → GoesOn g body u δ L (P (k + 1))) :
    ∃ δ' L', fFor fi g body δ L = some (.nx δ', L') ∧ P us.length δ' L' := by
  obtain ⟨δ', L', e, h⟩ := loop_any (it := .seq us) (g := g) (body := body) (us := us) P (fun _ _ _ _ _ => rfl) step (us.length + 1) 0 δ L0 (by omega) (by omega) h0
  exact ⟨δ', L', by rw [fFor_eq, hi]; exact e, h⟩
theorem rangeU_get {lo : Int} {n k : Nat} {u : U} (h : (rangeU lo n)[k]? = some u) : k < n ∧ u = .int (lo + k) := by
  unfold rangeU at h
  rw [List.getElem?_map] at h
  by_cases hk : k < n
  · rw [List.getElem?_range hk] at h
    simp at h
    exact ⟨hk, h.symm⟩
  · rw [List.getElem?_eq_none (by simpa using hk)] at h
    simp at h
theorem rangeU_len {lo : Int} {n : Nat} : (rangeU lo n).length = n := by simp [rangeU]
end MR
set_option Elab.async false
set_option linter.all false
set_option maxRecDepth 100000
set_option maxHeartbeats 1000000
namespace MR
open PySem L2
@[simp] theorem fEnum_eq (g : FA) (δ : UE) (L : UH) : fEnum g δ L = (g δ L).bind fun p => match p.1 with
  | [.ref n] => (seqAt p.2 n).map fun _ => (.enm n, p.2)
  | _ => none := rfl
@[simp] theorem fZip_eq (g : FA) (δ : UE) (L : UH) : fZip g δ L = (g δ L).bind fun p => match p.1 with
  | [.ref n, .ref m] => (seqAt p.2 n).bind fun _ => (seqAt p.2 m).map fun _ => (.zip2 n m, p.2)
  | _ => none := rfl
@[simp] theorem fRev_eq (f : FE) (δ : UE) (L : UH) : fRev f δ L = (f δ L).bind fun p => match p.1 with | .ref n => (seqAt p.2 n).map fun l => (.ref p.2.length, p.2 ++ [.lst l.reverse]) | .tup l => some (.tup l.reverse, p.2) | _ => none := rfl
@[simp] theorem fRng2_eq (g : FA) (δ : UE) (L : UH) : fRng2 g δ L = (g δ L).bind fun p => match p.1 with
  | [.int i, .int j] => if (-(2 ^ 62) ≤ i ∧ i < 2 ^ 62) ∧ (-(2 ^ 62) ≤ j ∧ j < 2 ^ 62) then some (.seq (rangeU i (j - i).toNat), p.2) else none
  | _ => none := by first | rfl | (unfold fRng2; rfl)
theorem comp_any {it : IU} {g : FG} {tt : Option FT} {fe : FE} {us : List U} (P : Nat → List U → UE → UH → Prop) (hat : ∀ k acc δ L, k ≤ us.length → P k acc δ L → it.at k L = some us[k]?)
    (step : ∀ k u acc δ L, us[k]? = some u → P k acc δ L → ∃ δ1 L1, g u δ L = some (δ1, L1) ∧ ∃ b L2, testU tt δ1 L1 = some (b, L2) ∧ (b = true → ∃ r L3, fe δ1 L2 = some (r, L3) ∧ acc.length < 16777216 ∧ P (k + 1) (acc ++ [r]) δ1 L3) ∧ (b = false → P (k + 1) acc δ1 L2)) :
    ∀ (m k : Nat) (acc : List U) (δ : UE) (L : UH), us.length < m + k → k ≤ us.length → P k acc δ L → ∃ ys δ' L', compU it g tt fe m k acc δ L = some (ys, L') ∧ P us.length ys δ' L'
  | 0, k, acc, δ, L, h1, h2, _ => by omega
  | m + 1, k, acc, δ, L, h1, h2, hP => by
    have hk := hat k acc δ L h2 hP
    unfold compU
    rw [hk]
    cases hu : us[k]? with
    | none =>
      have : k = us.length := by have := List.getElem?_eq_none_iff.mp hu; omega
      subst this
      exact ⟨acc, δ, L, rfl, hP⟩
    | some u =>
      have hlt : k < us.length := (List.getElem?_eq_some_iff.mp hu).1
      obtain ⟨δ1, L1, e1, b, L2, e2, h3, h4⟩ := step k u acc δ L hu hP
      cases b with
      | true =>
        obtain ⟨r, L3, e3, hl, hP2⟩ := h3 rfl
        obtain ⟨ys, δ', L', e4, hP3⟩ := comp_any P hat step m (k + 1) (acc ++ [r]) δ1 L3 (by omega) (by omega) hP2
        refine ⟨ys, δ', L', ?_, hP3⟩
        have hz : decide (acc.length < sizeLine) = true := decide_eq_true (by unfold sizeLine; omega)
        simp only [e1, Option.bind_some, e2, e3, if_true, hz, e4]
      | false =>
        obtain ⟨ys, δ', L', e4, hP3⟩ := comp_any P hat step m (k + 1) acc δ1 L2 (by omega) (by omega) (h4 rfl)
        refine ⟨ys, δ', L', ?_, hP3⟩
        simp only [e1, Option.bind_some, e2, e4, Bool.false_eq_true, if_false]
theorem fcomp {ix : List (Option Nat)} {fi : FI} {it : IU} {g : FG} {tt : Option FT} {fe : FE} {us : List U} {δ : UE} {L L0 : UH} (P : Nat → List U → UE → UH → Prop) (hi : fi δ L = some (it, L0)) (hsz : us.length ≤ it.size L0) (h0 : P 0 [] (innerU ix δ) L0)
    (hat : ∀ k acc δ L, k ≤ us.length → P k acc δ L → it.at k L = some us[k]?)
    (step : ∀ k u acc δ L, us[k]? = some u → P k acc δ L → ∃ δ1 L1, g u δ L = some (δ1, L1) ∧ ∃ b L2, testU tt δ1 L1 = some (b, L2) ∧ (b = true → ∃ r L3, fe δ1 L2 = some (r, L3) ∧ acc.length < 16777216 ∧ P (k + 1) (acc ++ [r]) δ1 L3) ∧ (b = false → P (k + 1) acc δ1 L2)) :
    ∃ ys δ' L', fComp ix fi g tt fe δ L = some (.ref L'.length, L' ++ [.lst ys]) ∧ P us.length ys δ' L' := by
  obtain ⟨ys, δ', L', e, h⟩ := comp_any P hat step (it.size L0 + 1) 0 [] (innerU ix δ) L0 (by omega) (by omega) h0
  refine ⟨ys, δ', L', ?_, h⟩
  unfold fComp
  simp only [hi, Option.bind_some, e, Option.map_some]
theorem comp_grow {β : Type} {ix : List (Option Nat)} {fi : FI} {it : IU} {g : FG} {tt : Option FT} {fe : FE} {δ : UE} {L L0 : UH} (as : List β) (rep : β → U) (f : β → Bool) (e : β → U) (E : UE → Prop) (hi : fi δ L = some (it, L0)) (hsz : as.length ≤ it.size L0) (hl : as.length < 16777216) (h0 : E (innerU ix δ))
    (hat : ∀ k x, it.at k (L0 ++ x) = some (as.map rep)[k]?)
    (step : ∀ (a : β) δ x, a ∈ as → E δ → ∃ δ1, g (rep a) δ (L0 ++ x) = some (δ1, L0 ++ x) ∧ E δ1 ∧ ∃ y, testU tt δ1 (L0 ++ x) = some (f a, L0 ++ x ++ y) ∧ (f a = true → ∃ z, fe δ1 (L0 ++ x ++ y) = some (e a, L0 ++ x ++ y ++ z))) :
    ∃ x, fComp ix fi g tt fe δ L = some (.ref (L0 ++ x).length, L0 ++ x ++ [.lst ((as.filter f).map e)]) := by
  obtain ⟨ys, δ', L', e1, ⟨h1, h2, x, rfl⟩, h3⟩ := fcomp (us := as.map rep) (ix := ix) (tt := tt) (g := g) (fe := fe) (δ := δ) (fun k acc δ L => (acc = ((as.take k).filter f).map e ∧ E δ ∧ ∃ x, L = L0 ++ x) ∧ acc.length ≤ k) hi (by simpa using hsz) ⟨⟨rfl, h0, [], by simp⟩, by simp⟩
    (fun k acc δ L _ ⟨⟨_, _, x, hx⟩, _⟩ => by rw [hx]; exact hat k x)
    (fun k u acc δ L hu ⟨⟨ha, hE, x, hx⟩, hlen⟩ => by
      subst hx
      rw [List.getElem?_map] at hu
      obtain ⟨a, hk, rfl⟩ := Option.map_eq_some_iff.mp hu
      have hk' := (List.getElem?_eq_some_iff.mp hk).1
      obtain ⟨δ1, g1, E1, y, t1, r1⟩ := step a δ x (List.mem_of_getElem? hk) hE
      have ht : as.take (k + 1) = as.take k ++ [a] := by
        rw [List.take_add_one, hk]; rfl
      refine ⟨δ1, _, g1, f a, _, t1, fun hf => ?_, fun hf => ?_⟩
      · obtain ⟨z, q⟩ := r1 hf
        refine ⟨_, _, q, by omega, ⟨?_, E1, x ++ y ++ z, by simp⟩, by simp; omega⟩
        rw [ha, ht]; simp [hf]
      · refine ⟨⟨?_, E1, x ++ y, by simp⟩, by omega⟩
        rw [ha, ht]; simp [hf])
  refine ⟨x, ?_⟩
  rw [e1, h1]
  simp
theorem seqAt_app {L x : UH} {n : Nat} {us : List U} (h : seqAt L n = some us) : seqAt (L ++ x) n = some us := by
  unfold seqAt at h ⊢
  cases hn : L[n]? with
  | none => rw [hn] at h; cases h
  | some o => rw [List.getElem?_append_left (List.getElem?_eq_some_iff.mp hn).1, hn]; rw [hn] at h; exact h
end MR
set_option Elab.async false
set_option linter.all false
set_option maxRecDepth 100000
set_option maxHeartbeats 1000000
namespace MR
open PySem L2
noncomputable def Pl : Nat → U → Prop
  | _, .non => True
  | _, .int _ => True
  | _, .str x => PyData.strOk x = true
  | n + 1, .tup l => ∀ u ∈ l, Pl n u
  | _, _ => False
mutual
noncomputable def pd : U → PyData
  | .non => .none
  | .bl b => .bool b
  | .int i => .int i
  | .str x => .str x
  | .tup l => .tuple (pds l)
  | .ref _ => .none
noncomputable def pds : List U → List PyData
  | [] => []
  | u :: r => pd u :: pds r
end
theorem pl_tup {n : Nat} {l : List U} : Pl (n + 1) (.tup l) ↔ ∀ u ∈ l, Pl n u := by rw [Pl]
theorem toP_pls {L : UH} {n m : Nat} (ih : ∀ u, Pl n u → toP L m u = some (pd u)) : ∀ l : List U, (∀ u ∈ l, Pl n u) → mapO (toP L m) l = some (pds l)
  | [], _ => rfl
  | u :: r, h => by
    simp only [mapO, ih u (h u (List.mem_cons_self ..)), toP_pls ih r (fun x hx => h x (List.mem_cons_of_mem _ hx)), Option.bind_some, Option.map_some, pds]
theorem toP_pl (L : UH) : ∀ (n m : Nat) (u : U), n < m → Pl n u → toP L m u = some (pd u)
  | n, 0, u, h, _ => by omega
  | n, m + 1, .non, _, _ => rfl
  | n, m + 1, .int _, _, _ => rfl
  | n, m + 1, .str _, _, _ => rfl
  | n, m + 1, .bl _, _, h => by cases n <;> exact absurd h (by simp [Pl])
  | n, m + 1, .ref _, _, h => by cases n <;> exact absurd h (by simp [Pl])
  | 0, m + 1, .tup l, _, h => absurd h (by simp [Pl])
  | n + 1, m + 1, .tup l, hm, h => by
    have := toP_pls (L := L) (n := n) (m := m) (fun u hu => toP_pl L n m u (by omega) hu) l (pl_tup.mp h)
    show (mapO (toP L m) l).map PyData.tuple = _
    rw [this]
    rfl
theorem pds_lay {n : Nat} (ih : ∀ u, Pl n u → PyData.canLay0 (pd u) = true ∧ PyData.depth (pd u) ≤ n) : ∀ l : List U, (∀ u ∈ l, Pl n u) → PyData.canLayAll0 (pds l) = true ∧ PyData.depthAll (pds l) ≤ n
  | [], _ => ⟨rfl, Nat.zero_le _⟩
  | u :: r, h => by
    obtain ⟨a1, a2⟩ := ih u (h u (List.mem_cons_self ..))
    obtain ⟨b1, b2⟩ := pds_lay ih r (fun x hx => h x (List.mem_cons_of_mem _ hx))
    refine ⟨by simp [pds, PyData.canLayAll0, a1, b1], ?_⟩
    simp only [pds, PyData.depthAll]
    omega
theorem pd_lay : ∀ (n : Nat) (u : U), Pl n u → PyData.canLay0 (pd u) = true ∧ PyData.depth (pd u) ≤ n
  | n, .non, _ => by simp [pd, PyData.canLay0, PyData.depth]
  | n, .int _, _ => by simp [pd, PyData.canLay0, PyData.depth]
  | n, .str x, h => by
    have h' : PyData.strOk x = true := by cases n <;> simpa [Pl] using h
    simp [pd, PyData.canLay0, PyData.depth, h']
  | n, .bl _, h => by cases n <;> exact absurd h (by simp [Pl])
  | n, .ref _, h => by cases n <;> exact absurd h (by simp [Pl])
  | 0, .tup l, h => absurd h (by simp [Pl])
  | n + 1, .tup l, h => by
    obtain ⟨a, b⟩ := pds_lay (fun u hu => pd_lay n u hu) l (pl_tup.mp h)
    simp only [pd, PyData.canLay0, PyData.depth]
    exact ⟨a, by omega⟩
theorem eqvAll_iff {n : Nat} (ih : ∀ u w, Pl n u → Pl n w → (PyData.eqv (pd u) (pd w) = true ↔ u = w)) : ∀ l m : List U, (∀ u ∈ l, Pl n u) → (∀ u ∈ m, Pl n u) → (PyData.eqvAll (pds l) (pds m) = true ↔ l = m)
  | [], [], _, _ => by simp [pds, PyData.eqvAll]
  | [], _ :: _, _, _ => by simp [pds, PyData.eqvAll]
  | _ :: _, [], _, _ => by simp [pds, PyData.eqvAll]
  | u :: l, w :: m, h1, h2 => by
    simp only [pds, PyData.eqvAll, Bool.and_eq_true, ih u w (h1 u (List.mem_cons_self ..)) (h2 w (List.mem_cons_self ..)), eqvAll_iff ih l m (fun x hx => h1 x (List.mem_cons_of_mem _ hx)) (fun x hx => h2 x (List.mem_cons_of_mem _ hx)), List.cons.injEq]
theorem eqv_iff : ∀ (n : Nat) (u w : U), Pl n u → Pl n w → (PyData.eqv (pd u) (pd w) = true ↔ u = w)
  | n, .bl _, _, h, _ => by cases n <;> exact absurd h (by simp [Pl])
  | n, .ref _, _, h, _ => by cases n <;> exact absurd h (by simp [Pl])
  | n, _, .bl _, _, h => by cases n <;> exact absurd h (by simp [Pl])
  | n, _, .ref _, _, h => by cases n <;> exact absurd h (by simp [Pl])
  | 0, .tup _, _, h, _ => absurd h (by simp [Pl])
  | 0, _, .tup _, _, h => absurd h (by simp [Pl])
  | n + 1, .tup l, .tup m, h1, h2 => by
    simp only [pd, PyData.eqv, U.tup.injEq]
    exact eqvAll_iff (fun u w => eqv_iff n u w) l m (pl_tup.mp h1) (pl_tup.mp h2)
  | n, .non, .non, _, _ => by simp [pd, PyData.eqv]
  | n, .non, .int _, _, _ => by simp [pd, PyData.eqv]
  | n, .non, .str _, _, _ => by simp [pd, PyData.eqv]
  | n + 1, .non, .tup _, _, _ => by simp [pd, PyData.eqv]
  | n, .int _, .non, _, _ => by simp [pd, PyData.eqv]
  | n, .int _, .int _, _, _ => by simp [pd, PyData.eqv]
  | n, .int _, .str _, _, _ => by simp [pd, PyData.eqv]
  | n + 1, .int _, .tup _, _, _ => by simp [pd, PyData.eqv]
  | n, .str _, .non, _, _ => by simp [pd, PyData.eqv]
  | n, .str _, .int _, _, _ => by simp [pd, PyData.eqv]
  | n, .str _, .str _, _, _ => by simp [pd, PyData.eqv]
  | n + 1, .str _, .tup _, _, _ => by simp [pd, PyData.eqv]
  | n + 1, .tup _, .non, _, _ => by simp [pd, PyData.eqv]
  | n + 1, .tup _, .int _, _, _ => by simp [pd, PyData.eqv]
  | n + 1, .tup _, .str _, _, _ => by simp [pd, PyData.eqv]
noncomputable def eqB (u w : U) : Bool := PyData.eqv (pd u) (pd w)
theorem eqB_iff {u w : U} (h1 : Pl 6 u) (h2 : Pl 6 w) : eqB u w = true ↔ u = w := eqv_iff 6 u w h1 h2
theorem eqB_self {u : U} (h1 : Pl 6 u) : eqB u u = true := (eqB_iff h1 h1).mpr rfl
theorem eqP_pl {u w : U} (L : UH) (h1 : Pl 6 u) (h2 : Pl 6 w) : eqP u w L = some (eqB u w) := by
  obtain ⟨a1, a2⟩ := pd_lay 6 u h1
  obtain ⟨b1, b2⟩ := pd_lay 6 w h2
  have s1 : SeqAt.shaped (pd u) = true := by unfold SeqAt.shaped; rw [a1]; simp; omega
  have s2 : SeqAt.shaped (pd w) = true := by unfold SeqAt.shaped; rw [b1]; simp; omega
  unfold eqP
  simp only [toP_pl L 6 8 u (by decide) h1, toP_pl L 6 8 w (by decide) h2, Option.bind_some, s1, s2, and_self, if_true, eqB]
theorem semNe_pl {u w : U} (L : UH) (h1 : Pl 6 u) (h2 : Pl 6 w) : semNe u w L = some (.bl (!eqB u w), L) := by unfold semNe; rw [eqP_pl L h1 h2]; rfl
theorem Pl.int (n : Nat) (i : Int) : Pl n (.int i) := by cases n <;> exact trivial
theorem rng1_ok {g : FA} {δ : UE} {L L' : UH} {j : Int} (hg : g δ L = some ([.int j], L')) (h0 : 0 ≤ j) (h1 : j < 1000000) : fRng1 g δ L = some (.seq (rangeU 0 j.toNat), L') := by
  rw [fRng1_eq, hg]
  simp only [Option.bind_some]
  rw [if_pos ⟨by omega, by omega⟩]
theorem rng1_nat {g : FA} {δ : UE} {L L' : UH} {n : Nat} (hg : g δ L = some ([.int n], L')) (h1 : n < 1000000) : fRng1 g δ L = some (.seq (rangeU 0 n), L') := by
  have := rng1_ok hg (by omega) (by omega)
  rwa [Int.toNat_natCast] at this
end MR
set_option Elab.async false
set_option linter.all false
set_option maxRecDepth 100000
set_option maxHeartbeats 1000000
namespace Lw
open PySem L2 MR
end Lw
set_option Elab.async false
set_option linter.all false
set_option maxRecDepth 100000
set_option maxHeartbeats 1000000
namespace Lw
open PySem L2 MR
noncomputable def b_l_deck : FS := (fRet (fLst (fCons (fSl semSl (fVar 0) fNoPart (fPart (fC (.int 63)))) (fCons (fC (.int 0)) (fCons (fC (.int 0)) (fCons (fC (.int 0)) (fCons (fCall semSum (fCons (fSl semSl (fVar 0) fNoPart (fPart (fC (.int 63)))) fNil)) fNil)))))))
noncomputable def m_l_deck : FN := fnU 1 1 b_l_deck
noncomputable def b_l_mix : FS := (fSeq (fAsg (f2 semAdd (f2 semMod (fVar 0) (fC (.int 2147483629))) (f2 semMul (f2 semMul (fC (.int 1000003)) (fVar 1)) (fVar 1))) (gN 2)) (fSeq (fAsg (f2 semMod (f2 semAdd (fVar 2) (f2 semMul (fC (.int 7919)) (fVar 1))) (fC (.int 2147483629))) (gN 2)) (fSeq (fAsg (f2 semMod (f2 semMul (fVar 2) (fVar 2)) (fC (.int 2147483587))) (gN 2)) (fRet (f2 semDiv (f2 semMod (f2 semMul (fVar 2) (f2 semAdd (fVar 2) (fC (.int 40961)))) (fC (.int 2147483563))) (fC (.int 4)))))))
noncomputable def m_l_mix : FN := fnU 3 2 b_l_mix
noncomputable def b_l_next : FS := (fSeq (fIfS (fAnd (fTest (f2 semEq (f2 semIx (fVar 0) (fC (.int 2))) (fC (.int 0)))) (fTest (f2 semLt (f2 semIx (fVar 0) (fC (.int 1))) (fCall semLen (fCons (f2 semIx (fVar 0) (fC (.int 0))) fNil))))) (fSeq (fAsg (f2 semIx (f2 semIx (fVar 0) (fC (.int 0))) (f2 semIx (fVar 0) (fC (.int 1)))) (gN 2)) (fSeq (fAsg (f2 semAdd (f2 semIx (fVar 0) (fC (.int 1))) (fC (.int 1))) (MR.gSub (fVar 0) (fC (.int 1)))) (fSeq (fIfS (fTest (f2 semLt (fVar 2) (f2 semPow (fC (.int 10)) (fC (.int 18))))) (fRet (f2 semMod (fOwn 2 m_l_mix (fCons (fVar 2) (fCons (f2 semIx (fVar 0) (fC (.int 1))) fNil))) (fVar 1))) fNext) (fAsg (fVar 2) (MR.gSub (fVar 0) (fC (.int 2))))))) fNext) (fSeq (fIfS (fTest (f2 semGt (f2 semIx (fVar 0) (fC (.int 2))) (fC (.int 0)))) (fSeq (fAsg (f2 semMod (f2 semIx (fVar 0) (fC (.int 2))) (fVar 1)) (gN 3)) (fSeq (fAsg (f2 semDiv (f2 semIx (fVar 0) (fC (.int 2))) (fVar 1)) (MR.gSub (fVar 0) (fC (.int 2)))) (fRet (fVar 3)))) fNext) (fSeq (fAsg (f2 semAdd (f2 semIx (fVar 0) (fC (.int 3))) (fC (.int 1))) (MR.gSub (fVar 0) (fC (.int 3)))) (fRet (f2 semMod (fOwn 2 m_l_mix (fCons (f2 semIx (fVar 0) (fC (.int 4))) (fCons (f2 semAdd (f2 semIx (fVar 0) (fC (.int 3))) (fC (.int 683))) fNil))) (fVar 1))))))
noncomputable def m_l_next : FN := fnU 4 2 b_l_next
structure Ex (d : Nat) (L L' : UH) : Prop where
  le : L.length ≤ L'.length
  at_ : ∀ i, i < L.length → i ≠ d → L'[i]? = L[i]?
theorem Ex.refl (d : Nat) (L : UH) : Ex d L L := ⟨Nat.le_refl _, fun _ _ _ => rfl⟩
theorem Ex.trans {d : Nat} {L L1 L2 : UH} (a : Ex d L L1) (b : Ex d L1 L2) : Ex d L L2 :=
  ⟨Nat.le_trans a.le b.le, fun i h1 h2 => by rw [b.at_ i (Nat.lt_of_lt_of_le h1 a.le) h2, a.at_ i h1 h2]⟩
theorem Ex.new (d : Nat) (L : UH) (x : List HU) : Ex d L (L ++ x) := ⟨by simp, fun i h _ => by rw [List.getElem?_append_left h]⟩
theorem Ex.put (d : Nat) (L : UH) (o : HU) : Ex d L (L.set d o) := ⟨by simp, fun i _ h => by rw [List.getElem?_set_ne (Ne.symm h)]⟩
structure Deck (L : UH) (d : Nat) (B : Int) : Prop where
  ex : ∃ (sn : Nat) (cells : List Int) (a b c e : Int), L[d]? = some (.lst [.ref sn, .int a, .int b, .int c, .int e]) ∧ L[sn]? = some (.lst (cells.map U.int)) ∧ sn < d ∧ cells.length ≤ 63 ∧ 0 ≤ a ∧ a ≤ cells.length ∧ 0 ≤ b ∧ 0 ≤ c ∧ c ≤ B
theorem Deck.lt {L : UH} {d : Nat} {B : Int} (h : Deck L d B) : d < L.length := by
  obtain ⟨sn, cells, a, b, c, e, h1, _⟩ := h.ex
  exact (List.getElem?_eq_some_iff.mp h1).1
theorem Deck.mono {L : UH} {d : Nat} {B B' : Int} (h : Deck L d B) (hb : B ≤ B') : Deck L d B' := by
  obtain ⟨sn, cells, a, b, c, e, h1, h2, h3, h4, h5, h6, h7, h8, h9⟩ := h.ex
  exact ⟨sn, cells, a, b, c, e, h1, h2, h3, h4, h5, h6, h7, h8, by omega⟩
theorem Deck.new {L : UH} {d : Nat} {B : Int} (h : Deck L d B) (x : List HU) : Deck (L ++ x) d B := by
  obtain ⟨sn, cells, a, b, c, e, h1, h2, h3⟩ := h.ex
  exact ⟨sn, cells, a, b, c, e, by rw [List.getElem?_append_left (List.getElem?_eq_some_iff.mp h1).1]; exact h1, by rw [List.getElem?_append_left (List.getElem?_eq_some_iff.mp h2).1]; exact h2, h3⟩
theorem Deck.set {L : UH} {d : Nat} {B : Int} (h : Deck L d B) {n : Nat} (hn : d < n) (o : HU) : Deck (L.set n o) d B := by
  obtain ⟨sn, cells, a, b, c, e, h1, h2, h3, h4⟩ := h.ex
  exact ⟨sn, cells, a, b, c, e, by rw [List.getElem?_set_ne (by omega)]; exact h1, by rw [List.getElem?_set_ne (by omega)]; exact h2, h3, h4⟩
theorem Ex.set {d : Nat} {L L' : UH} (h : Ex d L L') {n : Nat} (hn : L.length ≤ n) (o : HU) : Ex d L (L'.set n o) :=
  ⟨by rw [List.length_set]; exact h.le, fun i h1 h2 => by rw [List.getElem?_set_ne (by omega)]; exact h.at_ i h1 h2⟩
theorem Ex.get {d : Nat} {L L' : UH} {i : Nat} {o : HU} (h : Ex d L L') (e : L[i]? = some o) (hi : i ≠ d) : L'[i]? = some o := by
  rw [h.at_ i (List.getElem?_eq_some_iff.mp e).1 hi]; exact e
theorem mix_ok (c k : Int) (L : UH) (h0 : 0 ≤ k) (h1 : k ≤ 1000000000000000000) : ∃ r, m_l_mix [.int c, .int k] L = some (.int r, L) ∧ 0 ≤ r := by
  have e1 : ∀ x : Int, 0 ≤ x % 2147483629 ∧ x % 2147483629 < 2147483629 := fun x => ⟨Int.emod_nonneg _ (by decide), Int.emod_lt_of_pos _ (by decide)⟩
  have e2 : ∀ x : Int, 0 ≤ x % 2147483587 ∧ x % 2147483587 < 2147483587 := fun x => ⟨Int.emod_nonneg _ (by decide), Int.emod_lt_of_pos _ (by decide)⟩
  have e3 : ∀ x : Int, 0 ≤ x % 2147483563 ∧ x % 2147483563 < 2147483563 := fun x => ⟨Int.emod_nonneg _ (by decide), Int.emod_lt_of_pos _ (by decide)⟩
  generalize hA : (c % 2147483629 + 1000003 * k * k + 7919 * k) % 2147483629 = A
  have hA' := e1 (c % 2147483629 + 1000003 * k * k + 7919 * k)
  rw [hA] at hA'
  generalize hB : A * A % 2147483587 = Bn
  have hB' := e2 (A * A)
  rw [hB] at hB'
  refine ⟨(Bn * (Bn + 40961) % 2147483563) / 4, ?_, Int.ediv_nonneg (e3 _).1 (by decide)⟩
  have m1 : mulOk 1000003 k = true := mulOk_l (by decide) (by decide)
  have m2 : mulOk (1000003 * k) k = true := mulOk_r (by omega) (by omega)
  have m3 : mulOk 7919 k = true := mulOk_l (by decide) (by decide)
  have m4 : mulOk A A = true := mulOk_l (by omega) (by omega)
  have m5 : mulOk Bn (Bn + 40961) = true := mulOk_l (by omega) (by omega)
  have d1 : ∀ x : Int, divOk x 4 = true := fun x => divOk_of (by decide) (by decide)
  simp [m_l_mix, fnU, b_l_mix, m1, m2, m3, hA, m4, hB, m5, d1]
theorem next_ok {L : UH} {d : Nat} {B many : Int} (D : Deck L d B) (hB : B ≤ 100000000000000000) (h0 : 0 < many) (h1 : many < 1073741824) :
    ∃ r L', m_l_next [.ref d, .int many] L = some (.int r, L') ∧ 0 ≤ r ∧ r < many ∧ Deck L' d (B + 1) ∧ Ex d L L' := by
  obtain ⟨sn, cells, a, b, c, e, hd, hs, hlt0, hl, ha0, ha1, hb0, hc0, hc1⟩ := D.ex
  have hne : sn ≠ d := Nat.ne_of_lt hlt0
  have hdl : d < L.length := (List.getElem?_eq_some_iff.mp hd).1
  have q1 := seqAt_lst hd
  have q2 := lstAt_lst hd
  have q3 := seqAt_lst hs
  have md : ∀ x : Int, 0 ≤ x % many ∧ x % many < many := fun x => ⟨Int.emod_nonneg _ (by omega), Int.emod_lt_of_pos _ h0⟩
  have i0 : ∀ (x0 x1 x2 x3 x4 : U), L2.atI [x0, x1, x2, x3, x4] 0 = some x0 := fun _ _ _ _ _ => rfl
  have i1 : ∀ (x0 x1 x2 x3 x4 : U), L2.atI [x0, x1, x2, x3, x4] 1 = some x1 := fun _ _ _ _ _ => rfl
  have i2 : ∀ (x0 x1 x2 x3 x4 : U), L2.atI [x0, x1, x2, x3, x4] 2 = some x2 := fun _ _ _ _ _ => rfl
  have i3 : ∀ (x0 x1 x2 x3 x4 : U), L2.atI [x0, x1, x2, x3, x4] 3 = some x3 := fun _ _ _ _ _ => rfl
  have i4 : ∀ (x0 x1 x2 x3 x4 : U), L2.atI [x0, x1, x2, x3, x4] 4 = some x4 := fun _ _ _ _ _ => rfl
  have j1 : ixN 5 1 = some 1 := rfl
  have j2 : ixN 5 2 = some 2 := rfl
  have j3 : ixN 5 3 = some 3 := rfl
  have set1 : ∀ (o : HU) (us : List U), o = .lst us → seqAt (L.set d o) d = some us ∧ lstAt (L.set d o) d = some us := fun o us ho => by
    have : (L.set d o)[d]? = some (.lst us) := by rw [List.getElem?_set_self hdl, ho]
    exact ⟨seqAt_lst this, lstAt_lst this⟩
  have keep : ∀ (x1 x2 x3 : Int) (o : HU), o = .lst [.ref sn, .int x1, .int x2, .int x3, .int e] → 0 ≤ x1 → x1 ≤ cells.length → 0 ≤ x2 → 0 ≤ x3 → x3 ≤ B + 1 → Deck (L.set d o) d (B + 1) ∧ Ex d L (L.set d o) := fun x1 x2 x3 o ho g1 g2 g3 g4 g5 =>
    ⟨⟨sn, cells, x1, x2, x3, e, by rw [List.getElem?_set_self hdl, ho], by rw [List.getElem?_set_ne (Ne.symm hne)]; exact hs, hlt0, hl, g1, g2, g3, g4, g5⟩, Ex.put d L o⟩
  have seto : ∀ (o : HU) (i : Nat), i ≠ d → seqAt (L.set d o) i = seqAt L i := fun o i hi => by
    unfold seqAt; rw [List.getElem?_set_ne (Ne.symm hi)]
  have lens : semLen [.ref sn] L = some (.int cells.length, L) := by simp [semLen, lenU, q3]
  by_cases hb : b = 0
  · subst hb
    by_cases hal : a < cells.length
    · have hat : L2.atI (cells.map U.int) a = some (.int (cells[a.toNat]'(by omega))) := by
        rw [atI_of ha0 (by simpa using hal), List.getElem?_map, List.getElem?_eq_getElem (by omega)]; rfl
      generalize hcell : cells[a.toNat]'(by omega) = cell at hat
      have s1 := set1 (.lst [.ref sn, .int (a + 1), .int 0, .int c, .int e]) _ rfl
      by_cases hc : cell < 1000000000000000000
      · obtain ⟨r, er, hr⟩ := mix_ok cell (a + 1) (L.set d (.lst [.ref sn, .int (a + 1), .int 0, .int c, .int e])) (by omega) (by omega)
        have hk := keep (a + 1) 0 c _ rfl (by omega) (by omega) (by omega) hc0 (by omega)
        refine ⟨r % many, _, ?_, (md r).1, (md r).2, hk.1, hk.2⟩
        simp [m_l_next, fnU, b_l_next, q1, q2, i0, i1, i2, i3, i4, lens, hal, q3, hat, j1, s1, hc, er, h0, show powOk 10 18 = true from rfl]
      · have s2 := set1 (.lst [.ref sn, .int (a + 1), .int cell, .int c, .int e]) _ rfl
        have hcp : 0 < cell := by omega
        have hk := keep (a + 1) (cell / many) c _ rfl (by omega) (by omega) (Int.ediv_nonneg (by omega) (by omega)) hc0 (by omega)
        refine ⟨cell % many, _, ?_, (md cell).1, (md cell).2, hk.1, hk.2⟩
        simp [m_l_next, fnU, b_l_next, q1, q2, i0, i1, i2, i3, i4, lens, hal, q3, hat, j1, j2, s1, hc, h0, show powOk 10 18 = true from rfl, s2, hcp, divOk_of h0 (Int.lt_trans h1 (by decide))]
    · have hk := keep a 0 (c + 1) _ rfl ha0 ha1 (by omega) (by omega) (by omega)
      have s1 := set1 (.lst [.ref sn, .int a, .int 0, .int (c + 1), .int e]) _ rfl
      obtain ⟨r, er, hr⟩ := mix_ok e (c + 1 + 683) (L.set d (.lst [.ref sn, .int a, .int 0, .int (c + 1), .int e])) (by omega) (by omega)
      refine ⟨r % many, _, ?_, (md r).1, (md r).2, hk.1, hk.2⟩
      simp [m_l_next, fnU, b_l_next, q1, q2, i0, i1, i2, i3, i4, lens, hal, q3, j3, s1, h0, er]
  · have hb' : 0 < b := by omega
    have hk := keep a (b / many) c _ rfl ha0 ha1 (Int.ediv_nonneg (by omega) (by omega)) hc0 (by omega)
    refine ⟨b % many, _, ?_, (md b).1, (md b).2, hk.1, hk.2⟩
    simp [m_l_next, fnU, b_l_next, q1, q2, i0, i1, i2, i3, i4, hb, hb', j2, h0, divOk_of h0 (Int.lt_trans h1 (by decide))]
theorem Deck.start (ns : List Int) (L : UH) (n : Nat) (hn : L[n]? = some (.ro (ns.map U.int))) (hl : ns.length ≤ 63) : ∃ d L', m_l_deck [.ref n] L = some (.ref d, L') ∧ Deck L' d 0 ∧ L.length ≤ d ∧ (∀ i, i < L.length → L'[i]? = L[i]?) := by
  have hq : seqAt L n = some (ns.map U.int) := by unfold seqAt; rw [hn]
  have hcut : cutU (ns.map U.int) none (some 63) = ns.map U.int := by
    unfold cutU HT.sIx
    simp only [List.length_map, List.drop_zero]
    rw [if_neg (by decide)]
    exact List.take_of_length_le (by simp; omega)
  have hI : ∀ l : List Int, mapO toI (l.map U.int) = some l := by
    intro l
    induction l with
    | nil => rfl
    | cons a r ih => simp [mapO, toI, ih]
  have hlt : n < L.length := (List.getElem?_eq_some_iff.mp hn).1
  refine ⟨L.length + 2, L ++ [.lst (ns.map U.int)] ++ [.lst (ns.map U.int)] ++ [.lst [.ref L.length, .int 0, .int 0, .int 0, .int ns.sum]], ?_, ⟨L.length, ns, 0, 0, 0, ns.sum, by simp, by simp [List.getElem?_append], by omega, hl, by omega, by omega, by omega, by omega, by omega⟩, by omega, fun i hi => by rw [List.append_assoc, List.append_assoc, List.getElem?_append_left hi]⟩
  have hq2 : seqAt (L ++ [HU.lst (ns.map U.int)]) n = some (ns.map U.int) := by unfold seqAt; rw [List.getElem?_append_left hlt, hn]
  have hq3 : seqAt (L ++ [HU.lst (ns.map U.int), HU.lst (ns.map U.int)]) (L.length + 1) = some (ns.map U.int) := by unfold seqAt; rw [List.getElem?_append_right (by omega)]; simp
  simp [m_l_deck, fnU, b_l_deck, semSl, hq, hcut, hq2, semSum, hq3, hI, small_of]
end Lw
set_option Elab.async false
set_option linter.all false
set_option maxRecDepth 100000
set_option maxHeartbeats 1000000
namespace Lw
open PySem L2 MR
noncomputable def b_many_greater_1e : FE := (fVar 0)
noncomputable def b_many_greater_1t : FT := (fTest (f2 semGt (fVar 0) (fVar 1)))
noncomputable def b_many_greater : FS := (fRet (fCall semLen (fCons (fComp [none, some 1] (fSeqI (fVar 0)) (gN 0) (some b_many_greater_1t) b_many_greater_1e) fNil)))
noncomputable def m_many_greater : FN := fnU 2 2 b_many_greater
noncomputable def b_counts_of_1e : FE := (fOwn 2 m_many_greater (fCons (fSl semSl (fVar 2) fNoPart (fPart (fVar 0))) (fCons (fVar 1) fNil)))
noncomputable def b_counts_of : FS := (fRet (fCall semTuple (fCons (fComp [none, none, some 0] (fEnumA (fCons (fVar 0) fNil)) (MR.gTup 2 (MR.gCons (gN 0) (MR.gCons (gN 1) MR.gNil))) none b_counts_of_1e) fNil)))
noncomputable def m_counts_of : FN := fnU 1 1 b_counts_of
noncomputable def b_count_of : FS := (fRet (fCall semSum (fCons (fOwn 1 m_counts_of (fCons (fVar 0) fNil)) fNil)))
noncomputable def m_count_of : FN := fnU 1 1 b_count_of
noncomputable def b_need_counts_1 : FS := (fIfS (fOr (fTest (f2 semLt (fVar 2) (fC (.int 0)))) (fTest (f2 semGt (fVar 2) (fVar 1)))) fNever fNext)
noncomputable def b_need_counts : FS := (fFor (fEnumA (fCons (fVar 0) fNil)) (MR.gTup 2 (MR.gCons (gN 1) (MR.gCons (gN 2) MR.gNil))) b_need_counts_1)
noncomputable def m_need_counts : FN := fnU 3 1 b_need_counts
noncomputable def b_row_of_1 : FS := (fDrop (fMeth "list" semAppend (fVar 2) (fCons (fMeth "list" semPop (fVar 1) (fCons (f2 semSub (fVar 3) (f2 semIx (fVar 0) (fVar 3))) fNil)) fNil)))
noncomputable def b_row_of : FS := (fSeq (fDrop (fOwn 1 m_need_counts (fCons (fVar 0) fNil))) (fSeq (fAsg (fLRng2 (fCons (fC (.int 1)) (fCons (f2 semAdd (fCall semLen (fCons (fVar 0) fNil)) (fC (.int 1))) fNil))) (gN 1)) (fSeq (fAsg (fLst fNil) (gN 2)) (fSeq (fFor (fRngD (fCons (f2 semSub (fCall semLen (fCons (fVar 0) fNil)) (fC (.int 1))) (fCons (fNeg (fC (.int 1))) (fCons (fNeg (fC (.int 1))) fNil)))) (gN 3) b_row_of_1) (fRet (fTRev (fCons (fVar 2) fNil)))))))
noncomputable def m_row_of : FN := fnU 4 1 b_row_of
noncomputable def b_l_any_right_1e : FE := (f2 semIx (fVar 1) (f2 semSub (fVar 0) (fC (.int 1))))
noncomputable def b_l_any_right : FS := (fSeq (fAsg (fCall semLen (fCons (fVar 1) fNil)) (gN 2)) (fSeq (fAsg (fOwn 1 m_row_of (fCons (fOwn 1 m_counts_of (fCons (fVar 1) fNil)) fNil)) (gN 3)) (fSeq (fAsg (fCall semSortI (fCons (fVar 1) fNil)) (gN 4)) (fSeq (fIfS (fOr (fTest (f2 semNe (fCall semTuple (fCons (fComp [none, some 4] (fSeqI (fVar 3)) (gN 0) none b_l_any_right_1e) fNil)) (fVar 1))) (fTest (f2 semNe (fOwn 1 m_counts_of (fCons (fVar 3) fNil)) (fOwn 1 m_counts_of (fCons (fVar 1) fNil))))) (fRet (fC (.bl false))) fNext) (fSeq (fIfS (fOr (fTest (f2 semNe (fOwn 1 m_count_of (fCons (fRev (fVar 1)) fNil)) (f2 semSub (f2 semDiv (f2 semMul (fVar 2) (f2 semSub (fVar 2) (fC (.int 1)))) (fC (.int 2))) (fOwn 1 m_count_of (fCons (fVar 1) fNil))))) (fTest (f2 semNe (fOwn 1 m_count_of (fCons (fVar 1) fNil)) (fCall semSum (fCons (fOwn 1 m_counts_of (fCons (fVar 1) fNil)) fNil))))) (fRet (fC (.bl false))) fNext) (fSeq (fIfS (fTest (f2 semGt (fVar 2) (fC (.int 1)))) (fSeq (fAsg (fOwn 2 m_l_next (fCons (fVar 0) (fCons (f2 semSub (fVar 2) (fC (.int 1))) fNil))) (gN 5)) (fSeq (fAsg (f2 semAddA (f2 semAddA (fSl semSlA (fVar 1) fNoPart (fPart (fVar 5))) (fTup (fCons (f2 semIx (fVar 1) (f2 semAddA (fVar 5) (fC (.int 1)))) (fCons (f2 semIx (fVar 1) (fVar 5)) fNil)))) (fSl semSlA (fVar 1) (fPart (f2 semAddA (fVar 5) (fC (.int 2)))) fNoPart)) (gN 6)) (fIfS (fTest (f2 semNe (f2 semSub (fOwn 1 m_count_of (fCons (fVar 6) fNil)) (fOwn 1 m_count_of (fCons (fVar 1) fNil))) (f2 semIx (fLst (fCons (fNeg (fC (.int 1))) (fCons (fC (.int 1)) fNil))) (fCall semInt (fCons (f2 semLt (f2 semIx (fVar 1) (fVar 5)) (f2 semIx (fVar 1) (f2 semAddA (fVar 5) (fC (.int 1))))) fNil))))) (fRet (fC (.bl false))) fNext))) fNext) (fRet (fC (.bl true)))))))))
noncomputable def m_l_any_right : FN := fnU 7 2 b_l_any_right
noncomputable def b_l_row_1e : FE := (fMeth "list" semPop (fVar 1) (fCons (fOwn 2 m_l_next (fCons (fVar 2) (fCons (fCall semLen (fCons (fVar 1) fNil)) fNil))) fNil))
noncomputable def b_l_row_2 : FS := (fSeq (fDrop (fMeth "list" semAppend (fVar 7) (fCons (fVar 6) fNil))) (fAsg (f2 semAdd (f2 semAdd (fVar 6) (fC (.int 1))) (f2 semMod (f2 semAdd (f2 semMul (fOwn 2 m_l_next (fCons (fVar 0) (fCons (f2 semPow (fC (.int 10)) (fC (.int 5))) fNil))) (f2 semPow (fC (.int 10)) (fC (.int 5)))) (fOwn 2 m_l_next (fCons (fVar 0) (fCons (f2 semPow (fC (.int 10)) (fC (.int 5))) fNil)))) (fVar 5))) (gN 6)))
noncomputable def b_l_row : FS := (fSeq (fAsg (f2 semIx (fLst (fCons (fOwn 2 m_l_next (fCons (fVar 0) (fCons (f2 semAdd (fVar 1) (fC (.int 1))) fNil))) (fCons (fOwn 2 m_l_next (fCons (fVar 0) (fCons (fC (.int 7)) fNil))) (fCons (fVar 1) fNil)))) (fOwn 2 m_l_next (fCons (fVar 0) (fCons (fC (.int 3)) fNil)))) (gN 2)) (fSeq (fAsg (fOwn 2 m_l_next (fCons (fVar 0) (fCons (fC (.int 4)) fNil))) (gN 3)) (fSeq (fAsg (fOwn 2 m_l_next (fCons (fVar 0) (fCons (fC (.int 4)) fNil))) (gN 4)) (fSeq (fAsg (f2 semIx (fLst (fCons (fC (.int 1)) (fCons (fC (.int 7)) (fCons (f2 semPow (fC (.int 10)) (fC (.int 6))) (fCons (f2 semDiv (fC (.int 19999999998)) (fCall semMax (fCons (fC (.int 1)) (fCons (fVar 2) fNil)))) fNil))))) (fVar 4)) (gN 5)) (fSeq (fAsg (f2 semIx (fLst (fCons (fC (.int 1)) (fCons (f2 semSub (fC (.int 0)) (fOwn 2 m_l_next (fCons (fVar 0) (fCons (fC (.int 99)) fNil)))) (fCons (f2 semSub (fC (.int 0)) (fC (.int 9999999999))) (fCons (f2 semSub (fC (.int 9999999999)) (f2 semMul (fC (.int 8)) (fVar 2))) fNil))))) (fOwn 2 m_l_next (fCons (fVar 0) (fCons (fC (.int 4)) fNil)))) (gN 6)) (fSeq (fIfS (fTest (f2 semGt (fVar 4) (fC (.int 1)))) (fAsg (f2 semSub (fC (.int 0)) (fC (.int 9999999999))) (gN 6)) fNext) (fSeq (fAsg (fLst fNil) (gN 7)) (fSeq (fFor (fRng1 (fCons (fVar 2) fNil)) (gN 8) b_l_row_2) (fSeq (fIfS (fTest (f2 semEq (fVar 3) (fC (.int 1)))) (fAsg (fRev (fVar 7)) (gN 7)) fNext) (fSeq (fIfS (fTest (f2 semGt (fVar 3) (fC (.int 1)))) (fAsg (fComp [none, some 7, some 0] (fRng1 (fCons (fVar 2) fNil)) (gN 0) none b_l_row_1e) (gN 7)) fNext) (fSeq (fIfS (fAnd (fTest (f2 semEq (fVar 3) (fC (.int 0)))) (fTest (f2 semGt (fVar 2) (fC (.int 1))))) (fSeq (fAsg (fOwn 2 m_l_next (fCons (fVar 0) (fCons (f2 semSub (fVar 2) (fC (.int 1))) fNil))) (gN 9)) (fAsg (fTup (fCons (f2 semIx (fVar 7) (f2 semAdd (fVar 9) (fC (.int 1)))) (fCons (f2 semIx (fVar 7) (fVar 9)) fNil))) (MR.gTup 2 (MR.gCons (MR.gSub (fVar 7) (fVar 9)) (MR.gCons (MR.gSub (fVar 7) (f2 semAdd (fVar 9) (fC (.int 1)))) MR.gNil))))) fNext) (fRet (fCall semTuple (fCons (fVar 7) fNil))))))))))))))
noncomputable def m_l_row : FN := fnU 10 2 b_l_row
noncomputable def b_ways_with_one_more_1e : FE := (fCall semSum (fCons (fSl semSl (fVar 1) (fPart (fCall semMax (fCons (fC (.int 0)) (fCons (f2 semSub (fVar 0) (fVar 2)) fNil)))) (fPart (f2 semAdd (fVar 0) (fC (.int 1))))) fNil))
noncomputable def b_ways_with_one_more : FS := (fRet (fComp [none, some 0, some 1] (fRng1 (fCons (f2 semAdd (fCall semLen (fCons (fVar 0) fNil)) (fVar 1)) fNil)) (gN 0) none b_ways_with_one_more_1e))
noncomputable def m_ways_with_one_more : FN := fnU 2 2 b_ways_with_one_more
noncomputable def b_ways_from_each_1 : FS := (fDrop (fMeth "list" semAppend (fVar 1) (fCons (fOwn 2 m_ways_with_one_more (fCons (f2 semIx (fVar 1) (fNeg (fC (.int 1)))) (fCons (fVar 2) fNil))) fNil)))
noncomputable def b_ways_from_each : FS := (fSeq (fAsg (fLst (fCons (fLst (fCons (fC (.int 1)) fNil)) fNil)) (gN 1)) (fSeq (fFor (fRngD (fCons (f2 semSub (fVar 0) (fC (.int 1))) (fCons (fNeg (fC (.int 1))) (fCons (fNeg (fC (.int 1))) fNil)))) (gN 2) b_ways_from_each_1) (fRet (fLRev (fCons (fVar 1) fNil)))))
noncomputable def m_ways_from_each : FN := fnU 3 1 b_ways_from_each
noncomputable def b_ways_to : FS := (fRet (fIf (fTest (fChain semLe semLt (fC (.int 0)) (fVar 1) (fCall semLen (fCons (fVar 0) fNil)))) (f2 semIx (fVar 0) (fVar 1)) (fC (.int 0))))
noncomputable def m_ways_to : FN := fnU 2 2 b_ways_to
noncomputable def b_nth_row_2c : FT := (fTest (f2 semGe (fVar 6) (fOwn 2 m_ways_to (fCons (f2 semIx (fVar 3) (f2 semAdd (fVar 7) (fC (.int 1)))) (fCons (f2 semSub (fVar 5) (fVar 8)) fNil)))))
noncomputable def b_nth_row_2 : FS := (fSeq (fAsg (f2 semSub (fVar 6) (fOwn 2 m_ways_to (fCons (f2 semIx (fVar 3) (f2 semAdd (fVar 7) (fC (.int 1)))) (fCons (f2 semSub (fVar 5) (fVar 8)) fNil)))) (gN 6)) (fAsg (f2 semAdd (fVar 8) (fC (.int 1))) (gN 8)))
noncomputable def b_nth_row_1 : FS := (fSeq (fAsg (fC (.int 0)) (gN 8)) (fSeq (whileU b_nth_row_2c b_nth_row_2 100000) (fSeq (fDrop (fMeth "list" semAppend (fVar 4) (fCons (fVar 8) fNil))) (fAsg (f2 semSub (fVar 5) (fVar 8)) (gN 5)))))
noncomputable def b_nth_row : FS := (fSeq (fAsg (fOwn 1 m_ways_from_each (fCons (fVar 0) fNil)) (gN 3)) (fSeq (fIfS (fOr (fTest (f2 semLt (fVar 2) (fC (.int 0)))) (fTest (f2 semGe (fVar 2) (fOwn 2 m_ways_to (fCons (f2 semIx (fVar 3) (fC (.int 0))) (fCons (fVar 1) fNil)))))) fNever fNext) (fSeq (fAsg (fLst fNil) (gN 4)) (fSeq (fAsg (fVar 1) (gN 5)) (fSeq (fAsg (fVar 2) (gN 6)) (fSeq (fFor (fRng1 (fCons (fVar 0) fNil)) (gN 7) b_nth_row_1) (fRet (fOwn 1 m_row_of (fCons (fVar 4) fNil)))))))))
noncomputable def m_nth_row : FN := fnU 9 3 b_nth_row
noncomputable def b_place_of_row_2e : FE := (fOwn 2 m_ways_to (fCons (f2 semIx (fVar 1) (f2 semAdd (fVar 2) (fC (.int 1)))) (fCons (f2 semSub (fVar 3) (fVar 0)) fNil)))
noncomputable def b_place_of_row_1 : FS := (fSeq (fAsg (f2 semAdd (fVar 4) (fCall semSum (fCons (fComp [none, some 1, some 5, some 3] (fRng1 (fCons (fVar 6) fNil)) (gN 0) none b_place_of_row_2e) fNil))) (gN 4)) (fAsg (f2 semSub (fVar 3) (fVar 6)) (gN 3)))
noncomputable def b_place_of_row : FS := (fSeq (fAsg (fOwn 1 m_ways_from_each (fCons (fCall semLen (fCons (fVar 0) fNil)) fNil)) (gN 1)) (fSeq (fAsg (fOwn 1 m_counts_of (fCons (fVar 0) fNil)) (gN 2)) (fSeq (fAsg (fCall semSum (fCons (fVar 2) fNil)) (gN 3)) (fSeq (fAsg (fC (.int 0)) (gN 4)) (fSeq (fFor (fEnumA (fCons (fVar 2) fNil)) (MR.gTup 2 (MR.gCons (gN 5) (MR.gCons (gN 6) MR.gNil))) b_place_of_row_1) (fRet (fVar 4)))))))
noncomputable def m_place_of_row : FN := fnU 7 1 b_place_of_row
noncomputable def b_rows_with : FS := (fRet (fCall semTuple (fCons (f2 semIx (fOwn 1 m_ways_from_each (fCons (fVar 0) fNil)) (fC (.int 0))) fNil)))
noncomputable def m_rows_with : FN := fnU 1 1 b_rows_with
noncomputable def b_law_2 : FS := (fAsg (f2 semMul (fVar 6) (fVar 7)) (gN 6))
noncomputable def b_law_1 : FS := (fSeq (fIfS (fNot (fTru (fOwn 2 m_l_any_right (fCons (fVar 1) (fCons (fOwn 2 m_l_row (fCons (fVar 1) (fCons (f2 semIx (fLst (fCons (fC (.int 200)) (fCons (fC (.int 60)) (fCons (fC (.int 9)) fNil)))) (fVar 2)) fNil))) fNil))))) (fRet (fC (.bl false))) fNext) (fSeq (fAsg (fOwn 1 m_row_of (fCons (fOwn 1 m_counts_of (fCons (fOwn 2 m_l_row (fCons (fVar 1) (fCons (fC (.int 12)) fNil))) fNil)) fNil)) (gN 3)) (fSeq (fAsg (fCall semLen (fCons (fVar 3) fNil)) (gN 4)) (fSeq (fAsg (fOwn 1 m_rows_with (fCons (fVar 4) fNil)) (gN 5)) (fSeq (fAsg (fC (.int 1)) (gN 6)) (fSeq (fFor (fRng2 (fCons (fC (.int 1)) (fCons (f2 semAdd (fVar 4) (fC (.int 1))) fNil))) (gN 7) b_law_2) (fSeq (fIfS (fOr (fTest (f2 semNe (fCall semSum (fCons (fVar 5) fNil)) (fVar 6))) (fOr (fTest (f2 semNe (fVar 5) (fRev (fVar 5)))) (fTest (f2 semNe (fCall semLen (fCons (fVar 5) fNil)) (f2 semAdd (f2 semDiv (f2 semMul (fVar 4) (f2 semSub (fVar 4) (fC (.int 1)))) (fC (.int 2))) (fC (.int 1))))))) (fRet (fC (.bl false))) fNext) (fSeq (fIfS (fTest (f2 semNe (fOwn 3 m_nth_row (fCons (fVar 4) (fCons (fOwn 1 m_count_of (fCons (fVar 3) fNil)) (fCons (fOwn 1 m_place_of_row (fCons (fVar 3) fNil)) fNil)))) (fVar 3))) (fRet (fC (.bl false))) fNext) (fSeq (fAsg (fOwn 2 m_l_next (fCons (fVar 1) (fCons (fCall semLen (fCons (fVar 5) fNil)) fNil))) (gN 8)) (fSeq (fAsg (fOwn 2 m_l_next (fCons (fVar 1) (fCons (f2 semIx (fVar 5) (fVar 8)) fNil))) (gN 9)) (fIfS (fOr (fTest (f2 semNe (fOwn 1 m_place_of_row (fCons (fOwn 3 m_nth_row (fCons (fVar 4) (fCons (fVar 8) (fCons (fVar 9) fNil)))) fNil)) (fVar 9))) (fTest (f2 semNe (fOwn 1 m_count_of (fCons (fOwn 3 m_nth_row (fCons (fVar 4) (fCons (fVar 8) (fCons (fVar 9) fNil)))) fNil)) (fVar 8)))) (fRet (fC (.bl false))) fNext)))))))))))
noncomputable def b_law : FS := (fSeq (fAsg (fOwn 1 m_l_deck (fCons (fVar 0) fNil)) (gN 1)) (fSeq (fFor (fRng1 (fCons (fC (.int 3)) fNil)) (gN 2) b_law_1) (fRet (fC (.bl true)))))
noncomputable def m_law : FN := fnU 10 1 b_law
theorem fSeq_nx {f g : FS} {δ δ' : UE} {L L' : UH} (h : f δ L = some (.nx δ', L')) : fSeq f g δ L = g δ' L' := by rw [fSeq_eq, h]; rfl
theorem append_ok {L : UH} {n : Nat} {l : List U} (u : U) (h : L[n]? = some (.lst l)) (hl : l.length < 16777216) : semAppend (.ref n) [u] L = some (.non, L.set n (.lst (l ++ [u]))) := by
  show (lstAt L n).bind _ = _
  rw [lstAt_lst h]
  simp only [Option.bind_some]
  rw [if_pos (decide_eq_true (by unfold sizeLine; omega))]
theorem tyU_lst {L : UH} {n : Nat} {l : List U} (h : L[n]? = some (.lst l)) : tyU "list" (.ref n) L = true := by simp [tyU, h]
theorem pop_ok {L : UH} {n : Nat} {l : List U} {i : Int} (h : L[n]? = some (.lst l)) (h0 : 0 ≤ i) (h1 : i < l.length) (hs : l.length < 1000000) : semPop (.ref n) [.int i] L = some (l[i.toNat]'(by omega), L.set n (.lst (l.eraseIdx i.toNat))) := by
  have hk : seqIndex? i l.length = some i.toNat := by unfold seqIndex?; simp; omega
  have hg : l[i.toNat]? = some (l[i.toNat]'(by omega)) := List.getElem?_eq_getElem (by omega)
  simp only [semPop, lstAt_lst h, Option.bind_some, hk, hg, Option.map_some]
  rw [if_pos ⟨by omega, by omega⟩]
theorem len_lst {L : UH} {n : Nat} {l : List U} (h : L[n]? = some (.lst l)) : semLen [.ref n] L = some (.int l.length, L) := by simp [semLen, lenU, seqAt_lst h]
theorem eraseIdx_mapU {β γ : Type} (f : β → γ) (l : List β) (i : Nat) : (l.map f).eraseIdx i = (l.eraseIdx i).map f := by
  rw [List.eraseIdx_eq_take_drop_succ, List.eraseIdx_eq_take_drop_succ, List.map_append, List.map_take, List.map_drop]
theorem erase_perm {β : Type} : ∀ (l : List β) (i : Nat) (h : i < l.length), (l[i]'h :: l.eraseIdx i).Perm l
  | a :: l, 0, _ => by simp
  | a :: l, i + 1, h => by
    have ih := erase_perm l i (by simpa using h)
    simp only [List.getElem_cons_succ, List.eraseIdx_cons_succ]
    exact (List.Perm.swap _ _ _).trans (ih.cons a)
theorem pop_turnP {β : Type} (rep : β → U) {L : UH} {d n : Nat} {B : Int} {l : List β} (D : Deck L d B) (hB : B ≤ 10000000000000000) (hd : d < n) (h : L[n]? = some (.lst (l.map rep))) (hl : 0 < l.length) (hs : l.length < 1000) (x0 : Option U) :
    ∃ (r : β) (L' : UH) (l' : List β), (fMeth "list" semPop (fVar 1) (fCons (fOwn 2 m_l_next (fCons (fVar 2) (fCons (fCall semLen (fCons (fVar 1) fNil)) fNil))) fNil)) [x0, some (.ref n), some (.ref d)] L = some (rep r, L') ∧ Deck L' d (B + 1) ∧ L'[n]? = some (.lst (l'.map rep)) ∧ l'.length + 1 = l.length ∧ r ∈ l ∧ (∀ y ∈ l', y ∈ l) ∧ (∀ L0, Ex d L0 L → L0.length ≤ n → Ex d L0 L') ∧ (r :: l').Perm l := by
  obtain ⟨i, L1, e1, i0, i1, D1, x1⟩ := next_ok (many := ((l.map rep).length : Nat)) D (by omega) (by simp; omega) (by simp; omega)
  have h' : L1[n]? = some (.lst (l.map rep)) := x1.get h (by omega)
  have hi : i < l.length := by simpa using i1
  have hp := pop_ok h' i0 i1 (by simp; omega)
  refine ⟨l[i.toNat]'(by omega), L1.set n (.lst ((l.map rep).eraseIdx i.toNat)), l.eraseIdx i.toNat, ?_, D1.set hd _, ?_, ?_, List.getElem_mem _, fun y hy => List.mem_of_mem_eraseIdx hy, fun L0 x0 hn => (x0.trans x1).set hn _, erase_perm l i.toNat (by omega)⟩
  · have ty := tyU_lst h
    have e1' := e1
    simp only [List.length_map] at e1'
    simp [ty, len_lst h, e1', hp]
  · rw [List.getElem?_set_self (by have := (List.getElem?_eq_some_iff.mp h').1; exact this)]
    rw [eraseIdx_mapU]
  · rw [List.length_eraseIdx, if_pos (by omega)]; omega
noncomputable def Gw (L L' : UH) : Prop := ∃ x, L' = L ++ x
theorem Gw.refl (L : UH) : Gw L L := ⟨[], by simp⟩
theorem Gw.trans {L L1 M : UH} (a : Gw L L1) (b : Gw L1 M) : Gw L M := by obtain ⟨x, rfl⟩ := a; obtain ⟨y, rfl⟩ := b; exact ⟨x ++ y, by simp⟩
theorem Gw.new (L x : UH) : Gw L (L ++ x) := ⟨x, rfl⟩
theorem Gw.set {L L' : UH} (h : Gw L L') {n : Nat} (hn : L.length ≤ n) (o : HU) : Gw L (L'.set n o) := by
  obtain ⟨x, rfl⟩ := h
  exact ⟨x.set (n - L.length) o, by rw [List.set_append_right _ _ hn]⟩
theorem Gw.le {L L' : UH} (h : Gw L L') : L.length ≤ L'.length := by obtain ⟨x, rfl⟩ := h; simp
theorem Gw.get {L L' : UH} (h : Gw L L') {n : Nat} {o : HU} (e : L[n]? = some o) : L'[n]? = some o := by
  obtain ⟨x, rfl⟩ := h
  rw [List.getElem?_append_left (List.getElem?_eq_some_iff.mp e).1]; exact e
theorem Gw.seq {L L' : UH} (h : Gw L L') {n : Nat} {us : List U} (e : seqAt L n = some us) : seqAt L' n = some us := by
  obtain ⟨x, rfl⟩ := h; exact seqAt_app e
theorem Gw.deck {L L' : UH} (h : Gw L L') {d : Nat} {B : Int} (D : Deck L d B) : Deck L' d B := by obtain ⟨x, rfl⟩ := h; exact D.new x
theorem Gw.ex {L L' : UH} (h : Gw L L') (d : Nat) : Ex d L L' := by obtain ⟨x, rfl⟩ := h; exact Ex.new d L x
noncomputable def gtv (row : List Int) (i : Nat) : Nat := ((row.take i).filter fun o => decide (row.getD i 0 < o)).length
noncomputable def cntv (row : List Int) : List Int := (List.range row.length).map fun i => ((gtv row i : Nat) : Int)
theorem toI_ints (l : List Int) : mapO toI (l.map U.int) = some l := by
  induction l with
  | nil => rfl
  | cons a r ih => simp only [List.map_cons, mapO, toI, ih, Option.bind_some, Option.map_some]
theorem sum_tup (l : List Int) (L : UH) : semSum [.tup (l.map U.int)] L = some (.int l.sum, L) := by
  simp only [semSum, toI_ints, Option.map_some]
theorem take_one {row : List Int} {k : Nat} (h : k < row.length) : row.take (k + 1) = row.take k ++ [row.getD k 0] := by
  rw [List.take_add_one, List.getElem?_eq_getElem h]
  simp [List.getD_eq_getElem?_getD, h]
theorem pl_ints (xs : List Int) : Pl 6 (.tup (xs.map U.int)) := by
  rw [pl_tup]
  intro u hu
  obtain ⟨a, _, rfl⟩ := List.mem_map.mp hu
  exact Pl.int _ _
theorem ne_self (xs : List Int) (L : UH) : semNe (.tup (xs.map U.int)) (.tup (xs.map U.int)) L = some (.bl false, L) := by
  rw [semNe_pl L (pl_ints xs) (pl_ints xs), eqB_self (pl_ints xs)]; rfl
theorem many_greater_ok (xs : List Int) (v : Int) (L : UH) (hl : xs.length < 1000000) : ∃ L', m_many_greater [.tup (xs.map U.int), .int v] L = some (.int ((xs.filter fun o => decide (v < o)).length : Nat), L') ∧ Gw L L' := by
  obtain ⟨x, e⟩ := comp_grow (ix := [none, some 1]) (fi := fSeqI (fVar 0)) (it := .seq (xs.map U.int)) (g := gN 0) (tt := some b_many_greater_1t) (fe := b_many_greater_1e) (δ := [some (.tup (xs.map U.int)), some (.int v)]) (L := L) (L0 := L)
    xs U.int (fun o => decide (v < o)) U.int (fun δ => ∃ a, δ = [a, some (.int v)]) (by simp [iSeqU]) (by simp [IU.size]) (by omega) ⟨none, rfl⟩
    (fun k x => rfl)
    (fun a δ x _ ⟨y, hδ⟩ => by
      subst hδ
      refine ⟨_, rfl, ⟨_, rfl⟩, [], ?_, fun _ => ⟨[], ?_⟩⟩
      · simp [testU, b_many_greater_1t]
      · simp [b_many_greater_1e])
  have q1 : (L ++ x ++ [HU.lst ((xs.filter fun o => decide (v < o)).map U.int)])[(L ++ x).length]? = some (.lst ((xs.filter fun o => decide (v < o)).map U.int)) := by simp
  have hlen := len_lst q1
  rw [List.length_map] at hlen
  refine ⟨L ++ x ++ [HU.lst ((xs.filter fun o => decide (v < o)).map U.int)], ?_, ⟨x ++ [HU.lst ((xs.filter fun o => decide (v < o)).map U.int)], by rw [List.append_assoc]⟩⟩
  unfold m_many_greater fnU b_many_greater
  simp only [List.length_cons, List.length_nil, if_true, List.map_cons, List.map_nil, Nat.sub_self, List.replicate_zero, List.append_nil, fRet_eq, fCall_eq, fCons_eq, fNil_eq, Option.map_some, Option.bind_some, e, hlen]
theorem enum_ints (row : List Int) : enumU (row.map U.int) = (List.range row.length).map fun (i : Nat) => U.tup [.int (i : Int), .int (row.getD i 0)] := by
  apply List.ext_getElem?
  intro i
  unfold enumU
  rw [List.getElem?_mapIdx, List.getElem?_map, List.getElem?_map]
  by_cases h : i < row.length
  · rw [List.getElem?_range h, List.getElem?_eq_getElem h]
    simp [List.getD_eq_getElem?_getD, h]
  · rw [List.getElem?_eq_none (by omega), List.getElem?_eq_none (by simpa using h)]; rfl
theorem cut_tup (row : List Int) (i : Nat) (h : i < row.length) (L : UH) : semSl (.tup (row.map U.int)) none (some (i : Int)) L = some (.tup ((row.take i).map U.int), L) := by
  have hs : cutU (row.map U.int) none (some (i : Int)) = (row.take i).map U.int := by
    unfold cutU
    rw [HT.sIx_none, HT.sIx_nat, List.drop_zero, Nat.sub_zero, List.length_map, Nat.min_eq_left (by omega), List.map_take]
  unfold semSl
  simp only
  rw [if_neg (by
    rw [HT.sIx_none, HT.sIx_nat, List.length_map, Nat.min_eq_left (by omega)]
    omega), hs]
theorem counts_of_ok (row : List Int) (L : UH) (hl : row.length < 100000) : ∃ L', m_counts_of [.tup (row.map U.int)] L = some (.tup ((cntv row).map U.int), L') ∧ Gw L L' := by
  have hi : (fEnumA (fCons (fVar 0) fNil)) [some (.tup (row.map U.int))] L = some (.seq ((List.range row.length).map fun (i : Nat) => U.tup [.int (i : Int), .int (row.getD i 0)]), L) := by
    rw [← enum_ints]; rfl
  obtain ⟨x, e⟩ := comp_grow (ix := [none, none, some 0]) (fi := fEnumA (fCons (fVar 0) fNil)) (it := .seq ((List.range row.length).map fun (i : Nat) => U.tup [.int (i : Int), .int (row.getD i 0)])) (g := (MR.gTup 2 (MR.gCons (gN 0) (MR.gCons (gN 1) MR.gNil)))) (tt := none) (fe := b_counts_of_1e) (δ := [some (.tup (row.map U.int))]) (L := L) (L0 := L)
    (List.range row.length) (fun (i : Nat) => U.tup [.int (i : Int), .int (row.getD i 0)]) (fun _ => true) (fun i => .int ((gtv row i : Nat) : Int)) (fun δ => ∃ a b, δ = [a, b, some (.tup (row.map U.int))]) hi (by simp [IU.size]) (by simp; omega) ⟨none, none, rfl⟩
    (fun k x => rfl)
    (fun i δ x hi ⟨y, z, hδ⟩ => by
      subst hδ
      have hin := List.mem_range.mp hi
      obtain ⟨L', e1, w, hw⟩ := many_greater_ok (row.take i) (row.getD i 0) (L ++ x) (by rw [List.length_take]; omega)
      refine ⟨[some (.int (i : Int)), some (.int (row.getD i 0)), some (.tup (row.map U.int))], rfl, ⟨_, _, rfl⟩, [], by simp [testU], fun _ => ⟨w, ?_⟩⟩
      have c1 : (fSl semSl (fVar 2) fNoPart (fPart (fVar 0))) [some (.int (i : Int)), some (.int (row.getD i 0)), some (.tup (row.map U.int))] (L ++ x) = some (.tup ((row.take i).map U.int), L ++ x) := by
        rw [fSl_eq]
        simp only [fVar_eq, fNoPart_eq, fPart_eq, List.getElem?_cons_succ, List.getElem?_cons_zero, Option.join_some, Option.map_some, Option.bind_some, cut_tup row i hin]
      unfold b_counts_of_1e
      simp only [List.append_nil]
      rw [fOwn_eq, fCons_eq, c1, Option.bind_some, fCons_eq]
      simp only [fVar_eq, fNil_eq, List.getElem?_cons_succ, List.getElem?_cons_zero, Option.join_some, Option.map_some, Option.bind_some, List.length_cons, List.length_nil, if_true, e1]
      rw [← hw]; rfl)
  have hf : List.filter (fun _ => true) (List.range row.length) = List.range row.length := List.filter_eq_self.mpr (fun _ _ => rfl)
  have hc : (List.range row.length).map (fun i => U.int ((gtv row i : Nat) : Int)) = (cntv row).map U.int := by simp [cntv]
  rw [hf, hc] at e
  have q2 : seqAt (L ++ x ++ [HU.lst ((cntv row).map U.int)]) (L ++ x).length = some ((cntv row).map U.int) := seqAt_lst (by simp)
  refine ⟨L ++ x ++ [HU.lst ((cntv row).map U.int)], ?_, ⟨x ++ [HU.lst ((cntv row).map U.int)], by rw [List.append_assoc]⟩⟩
  unfold m_counts_of fnU b_counts_of
  simp only [List.length_cons, List.length_nil, if_true, List.map_cons, List.map_nil, Nat.sub_self, List.replicate_zero, List.append_nil]
  rw [fRet_eq, fCall_eq, fCons_eq, e]
  simp only [Option.bind_some, fNil_eq, Option.map_some, semTuple, q2]
noncomputable def stepv (ws : List Int) (most t : Nat) : Int := ((ws.drop (min (t - most) ws.length)).take (min (t + 1) ws.length - min (t - most) ws.length)).sum
noncomputable def more (ws : List Int) (most : Nat) : List Int := (List.range (ws.length + most)).map (stepv ws most)
noncomputable def progW (many : Nat) : List Int := ((List.range many).map fun i => many - 1 - i).foldl more [1]
noncomputable def lawW (many : Nat) : List Int := ((List.range (many - 1)).map (· + 1)).foldl more [1]
theorem W_all : ((List.range 13).all fun m => decide (progW m = lawW m) && decide ((progW m).length ≤ 100)) = true := by decide +kernel
theorem W_eq {m : Nat} (h : m < 13) : progW m = lawW m ∧ (progW m).length ≤ 100 := by
  have := List.all_eq_true.mp W_all m (List.mem_range.mpr h)
  simpa using this
theorem more_len (ws : List Int) (p : Nat) : (more ws p).length = ws.length + p := by simp [more]
theorem cut_ok {L : UH} {r : Nat} {ws : List Int} (hr : seqAt L r = some (ws.map U.int)) (lo hi : Nat) : semSl (.ref r) (some (lo : Int)) (some (hi : Int)) L = some (.ref L.length, L ++ [.lst (((ws.drop (min lo ws.length)).take (min hi ws.length - min lo ws.length)).map U.int)]) := by
  simp only [semSl, hr, Option.map_some]
  unfold cutU
  rw [HT.sIx_nat, HT.sIx_nat, List.length_map, ← List.map_drop, ← List.map_take]
theorem step_sum {L : UH} {r : Nat} {ws : List Int} (hr : seqAt L r = some (ws.map U.int)) (most t : Nat) : (semSl (.ref r) (some ((t - most : Nat) : Int)) (some ((t + 1 : Nat) : Int)) L).bind (fun p => semSum [p.1] p.2) = some (.int (stepv ws most t), L ++ [.lst (((ws.drop (min (t - most) ws.length)).take (min (t + 1) ws.length - min (t - most) ws.length)).map U.int)]) := by
  rw [cut_ok hr]
  have q1 : seqAt (L ++ [HU.lst (((ws.drop (min (t - most) ws.length)).take (min (t + 1) ws.length - min (t - most) ws.length)).map U.int)]) L.length = some (((ws.drop (min (t - most) ws.length)).take (min (t + 1) ws.length - min (t - most) ws.length)).map U.int) := seqAt_lst (by simp)
  simp only [Option.bind_some, semSum, q1, toI_ints, Option.map_some, stepv]
theorem max0 (t most : Nat) (L : UH) : semMax [.int 0, .int ((t : Int) - (most : Int))] L = some (.int ((t - most : Nat) : Int), L) := by
  have : (if ((t : Int) - (most : Int)) > 0 then ((t : Int) - (most : Int)) else 0) = ((t - most : Nat) : Int) := by split <;> omega
  show some (U.int (if ((t : Int) - (most : Int)) > 0 then ((t : Int) - (most : Int)) else 0), L) = _
  rw [this]
theorem one_more_ok {L : UH} {r : Nat} {ws : List Int} {most : Nat} (hr : L[r]? = some (.lst (ws.map U.int))) (hl : ws.length ≤ 1000) (hm : most ≤ 1000) :
    ∃ (r' : Nat) (L' : UH), m_ways_with_one_more [.ref r, .int most] L = some (.ref r', L') ∧ L'[r']? = some (.lst ((more ws most).map U.int)) ∧ Gw L L' ∧ L.length ≤ r' := by
  have hs := seqAt_lst hr
  have hlen := len_lst hr
  rw [List.length_map] at hlen
  have hi : fRng1 (fCons (f2 semAdd (fCall semLen (fCons (fVar 0) fNil)) (fVar 1)) fNil) [some (.ref r), some (.int most)] L = some (.seq (rangeU 0 (ws.length + most)), L) := by
    refine rng1_nat ?_ (by omega)
    simp only [fCons_eq, fNil_eq, f2_eq, fCall_eq, fVar_eq, List.getElem?_cons_succ, List.getElem?_cons_zero, Option.join_some, Option.map_some, Option.bind_some, hlen, semAdd_int]
    rfl
  have hr0 : rangeU 0 (ws.length + most) = (List.range (ws.length + most)).map fun (t : Nat) => U.int (0 + (t : Int)) := rfl
  rw [hr0] at hi
  obtain ⟨x, e⟩ := comp_grow (ix := [none, some 0, some 1]) (fi := fRng1 (fCons (f2 semAdd (fCall semLen (fCons (fVar 0) fNil)) (fVar 1)) fNil)) (it := .seq ((List.range (ws.length + most)).map fun (t : Nat) => U.int (0 + (t : Int)))) (g := gN 0) (tt := none) (fe := b_ways_with_one_more_1e) (δ := [some (.ref r), some (.int most)]) (L := L) (L0 := L)
    (List.range (ws.length + most)) (fun (t : Nat) => U.int (0 + (t : Int))) (fun _ => true) (fun t => .int (stepv ws most t)) (fun δ => ∃ a, δ = [a, some (.ref r), some (.int most)]) hi (by simp [IU.size]) (by simp; omega) ⟨none, rfl⟩
    (fun k x => rfl)
    (fun t δ x _ ⟨y, hδ⟩ => by
      subst hδ
      have h0 : (0 : Int) + (t : Int) = (t : Int) := by omega
      refine ⟨[some (.int (t : Int)), some (.ref r), some (.int most)], by rw [h0]; rfl, ⟨_, rfl⟩, [], by simp [testU], fun _ => ⟨[.lst (((ws.drop (min (t - most) ws.length)).take (min (t + 1) ws.length - min (t - most) ws.length)).map U.int)], ?_⟩⟩
      have hst := step_sum (seqAt_app hs : seqAt (L ++ x) r = _) most t
      have c1 : (f2 semAdd (fVar 0) (fC (.int 1))) [some (.int (t : Int)), some (.ref r), some (.int most)] (L ++ x) = some (.int ((t + 1 : Nat) : Int), L ++ x) := by
        show some (U.int ((t : Int) + 1), L ++ x) = _
        have : (t : Int) + 1 = ((t + 1 : Nat) : Int) := by omega
        rw [this]
      have c2 : (fCall semMax (fCons (fC (.int 0)) (fCons (f2 semSub (fVar 0) (fVar 2)) fNil))) [some (.int (t : Int)), some (.ref r), some (.int most)] (L ++ x) = some (.int ((t - most : Nat) : Int), L ++ x) := by
        simp only [fCall_eq, fCons_eq, fNil_eq, fC_eq, f2_eq, fVar_eq, List.getElem?_cons_succ, List.getElem?_cons_zero, Option.join_some, Option.map_some, Option.bind_some, semSub_int, max0]
      rw [List.append_nil, ← hst]
      unfold b_ways_with_one_more_1e
      rw [fCall_eq, fCons_eq, fSl_eq]
      simp only [fPart_eq, c1, c2, fNil_eq, fVar_eq, List.getElem?_cons_succ, List.getElem?_cons_zero, Option.join_some, Option.map_some, Option.bind_some]
      cases semSl (.ref r) (some ((t - most : Nat) : Int)) (some ((t + 1 : Nat) : Int)) (L ++ x) <;> rfl)
  have hff : List.filter (fun _ => true) (List.range (ws.length + most)) = List.range (ws.length + most) := List.filter_eq_self.mpr (fun _ _ => rfl)
  have hmm : (List.range (ws.length + most)).map (fun t => U.int (stepv ws most t)) = (more ws most).map U.int := by simp [more]
  rw [hff, hmm] at e
  refine ⟨(L ++ x).length, L ++ x ++ [HU.lst ((more ws most).map U.int)], ?_, by simp, ⟨x ++ [HU.lst ((more ws most).map U.int)], by rw [List.append_assoc]⟩, by simp⟩
  unfold m_ways_with_one_more fnU b_ways_with_one_more
  simp only [List.length_cons, List.length_nil, if_true, List.map_cons, List.map_nil, Nat.sub_self, List.replicate_zero, List.append_nil, fRet_eq, e, Option.map_some, Option.bind_some]
theorem fold_take (f : List Int → Nat → List Int) (ps : List Nat) (k : Nat) (h : k < ps.length) : (ps.take (k + 1)).foldl f [1] = f ((ps.take k).foldl f [1]) (ps[k]'h) := by
  rw [List.take_add_one, List.getElem?_eq_getElem h, List.foldl_append]; rfl
noncomputable def places (many : Nat) : List Nat := (List.range many).map fun i => many - 1 - i
theorem fold_len : ∀ (ps : List Nat) (ws : List Int), (ps.foldl more ws).length = ws.length + ps.sum
  | [], ws => by simp
  | p :: ps, ws => by
    rw [List.foldl_cons, fold_len ps, more_len, List.sum_cons]; omega
noncomputable def Wj (m j : Nat) : List Int := ((places m).take j).foldl more [1]
theorem Wj_len {m : Nat} (hm : m ≤ 12) (j : Nat) : (Wj m j).length ≤ 100 := by
  unfold Wj
  rw [fold_len]
  have h1 : ((places m).take j).sum ≤ (places m).sum := by
    conv => rhs; rw [← List.take_append_drop j (places m)]
    rw [List.sum_append]; omega
  have h2 : ∀ m, m < 13 → (places m).sum ≤ 90 := by decide
  have := h2 m (by omega)
  have : ([1] : List Int).length = 1 := rfl
  omega
theorem Wj_0 (m : Nat) : Wj m 0 = [1] := rfl
theorem Wj_succ {m j : Nat} (hj : j < m) : Wj m (j + 1) = more (Wj m j) (m - 1 - j) := by
  unfold Wj
  rw [fold_take more (places m) j (by simpa [places] using hj)]
  congr 1
  simp [places]
noncomputable def tailv (ws : List Int) (t : Int) : Int := if 0 ≤ t then ws.getD t.toNat 0 else 0
noncomputable def sumL (ws : List Int) (left : Int) (c : Nat) : Int := ((List.range c).map fun (l : Nat) => tailv ws (left - (l : Int))).sum
theorem sumL_succ (ws : List Int) (left : Int) (c : Nat) : sumL ws left (c + 1) = sumL ws left c + tailv ws (left - (c : Int)) := by
  unfold sumL
  rw [List.range_succ, List.map_append, List.sum_append]
  simp
noncomputable def leftv (cs : List Int) (k : Nat) : Int := cs.sum - (cs.take k).sum
noncomputable def ahv (cs : List Int) (k : Nat) : Int := ((List.range k).map fun (j : Nat) => sumL (Wj cs.length (cs.length - (j + 1))) (leftv cs j) (cs.getD j 0).toNat).sum
theorem ahv_succ (cs : List Int) (k : Nat) : ahv cs (k + 1) = ahv cs k + sumL (Wj cs.length (cs.length - (k + 1))) (leftv cs k) (cs.getD k 0).toNat := by
  unfold ahv
  rw [List.range_succ, List.map_append, List.sum_append]
  simp
theorem leftv_succ {cs : List Int} {k : Nat} (h : k < cs.length) : leftv cs (k + 1) = leftv cs k - cs.getD k 0 := by
  unfold leftv
  rw [take_one h, List.sum_append]
  simp
  omega
theorem ix_nat {l : List U} {k : Nat} {u : U} (h : l[k]? = some u) : L2.atI l (k : Int) = some u := by
  rw [atI_of (by omega) (by have := (List.getElem?_eq_some_iff.mp h).1; omega), Int.toNat_natCast]; exact h
theorem from_each_all {m : Nat} (hm : m ≤ 12) (L : UH) : ∃ (q : Nat) (ds : List Nat) (L' : UH), m_ways_from_each [.int m] L = some (.ref q, L') ∧ L'[q]? = some (.lst (ds.map U.ref)) ∧ ds.length = m + 1 ∧ (∀ i, i ≤ m → ∃ r, ds[i]? = some r ∧ L'[r]? = some (.lst ((Wj m (m - i)).map U.int))) ∧ Gw L L' := by
  have sm1 : ∀ x : U, small [x].length = true := fun _ => small_of (by show 1 ≤ 16777216; decide)
  have s1 : (fAsg (fLst (fCons (fLst (fCons (fC (.int 1)) fNil)) fNil)) (gN 1)) [some (.int m), none, none] L = some (.nx [some (.int m), some (.ref (L.length + 1)), none], L ++ [.lst [.int 1]] ++ [.lst [.ref L.length]]) := by
    have h1 : (fLst (fCons (fC (.int 1)) fNil)) [some (.int m), none, none] L = some (.ref L.length, L ++ [.lst [.int 1]]) := by
      simp only [fLst_eq, fCons_eq, fC_eq, fNil_eq, Option.bind_some, Option.map_some]
      rw [if_pos (sm1 _)]
    have hl : (L ++ [HU.lst [.int 1]]).length = L.length + 1 := by simp
    rw [fAsg_eq, fLst_eq, fCons_eq, h1]
    simp only [Option.bind_some, fNil_eq, Option.map_some]
    rw [if_pos (sm1 _), hl]
    rfl
  have hi : fRngD (fCons (f2 semSub (fVar 0) (fC (.int 1))) (fCons (fNeg (fC (.int 1))) (fCons (fNeg (fC (.int 1))) fNil))) [some (.int m), some (.ref (L.length + 1)), none] (L ++ [.lst [.int 1]] ++ [.lst [.ref L.length]]) = some (.seq (downU ((m : Int) - 1) m), L ++ [.lst [.int 1]] ++ [.lst [.ref L.length]]) := by
    unfold fRngD
    simp only [fCons_eq, fNil_eq, f2_eq, fVar_eq, fC_eq, fNeg_eq, List.getElem?_cons_succ, List.getElem?_cons_zero, Option.join_some, Option.map_some, Option.bind_some, semSub_int]
    rw [if_pos ⟨trivial, by omega, by omega, by omega, by omega⟩]
    have : ((m : Int) - 1 - -1).toNat = m := by omega
    rw [this]
  obtain ⟨δ', L', e, P⟩ := for_seq (us := downU ((m : Int) - 1) m) (body := b_ways_from_each_1) (g := gN 2)
    (fun k δ' L' => ∃ (y2 : Option U) (rs : List Nat) (r : Nat), δ' = [some (.int m), some (.ref (L.length + 1)), y2] ∧ L'[L.length + 1]? = some (.lst ((rs ++ [r]).map U.ref)) ∧ rs.length = k ∧ (∀ i, i ≤ k → ∃ x, (rs ++ [r])[i]? = some x ∧ x ≠ L.length + 1 ∧ L'[x]? = some (.lst ((Wj m i).map U.int))) ∧ Gw L L' ∧ L.length + 2 ≤ L'.length ∧ k ≤ m)
    hi ⟨none, [], L.length, rfl, by simp, rfl, fun i hi => by
      have : i = 0 := by omega
      subst this
      exact ⟨L.length, rfl, by omega, by rw [Wj_0]; simp [List.getElem?_append]⟩, ⟨[.lst [.int 1], .lst [.ref L.length]], by simp⟩, by simp, by omega⟩
    (fun k u δ M hu ⟨y2, rs, r, hδ, hb, hk, hds, g, hlm, _⟩ => by
      subst hδ
      have hkm : k < m := by
        have := (List.getElem?_eq_some_iff.mp hu).1
        simpa [downU] using this
      have hu' : u = .int ((m - 1 - k : Nat) : Int) := by
        unfold downU at hu
        rw [List.getElem?_map, List.getElem?_range hkm] at hu
        have : (m : Int) - 1 - (k : Int) = ((m - 1 - k : Nat) : Int) := by omega
        rw [← this]
        simpa using hu.symm
      subst hu'
      obtain ⟨x, hx, hne, hr⟩ := hds k (by omega)
      have hx : r = x := by
        rw [List.getElem?_append_right (by omega), hk, Nat.sub_self] at hx
        simpa using hx
      subst hx
      have hwl := Wj_len hm k
      obtain ⟨r', M', e1, hr', g', hge⟩ := one_more_ok (most := m - 1 - k) hr (by omega) (by omega)
      rw [← Wj_succ hkm] at hr'
      have hix : L2.atI ((rs ++ [r]).map U.ref) (-1) = some (.ref r) := by
        have hl : ((rs ++ [r]).map U.ref).length = rs.length + 1 := by simp
        have hj : ixN (rs.length + 1) (-1) = some rs.length := by
          unfold ixN
          rw [if_neg (by omega), if_pos (by omega)]
          congr 1; omega
        unfold L2.atI
        rw [hl, hj, Option.bind_some]
        rw [List.map_append, List.getElem?_append_right (by simp)]
        simp
      have ty := tyU_lst hb
      have hb' := g'.get hb
      have ap := append_ok (.ref r') hb' (by simp; omega)
      have hx : (rs ++ [r]).map U.ref ++ [.ref r'] = ((rs ++ [r]) ++ [r']).map U.ref := by simp
      rw [hx] at ap
      have hlt := (List.getElem?_eq_some_iff.mp hb').1
      refine ⟨[some (.int m), some (.ref (L.length + 1)), some (.int ((m - 1 - k : Nat) : Int))], M, rfl, [some (.int m), some (.ref (L.length + 1)), some (.int ((m - 1 - k : Nat) : Int))], M'.set (L.length + 1) (.lst (((rs ++ [r]) ++ [r']).map U.ref)), .inl ?_, _, rs ++ [r], r', rfl, List.getElem?_set_self hlt, by simp [hk], fun i hi => ?_, (g.trans g').set (by omega) _, by have := g'.le; simp; omega, hkm⟩
      · unfold b_ways_from_each_1
        have i1 : (f2 semIx (fVar 1) (fNeg (fC (.int 1)))) [some (.int m), some (.ref (L.length + 1)), some (.int ((m - 1 - k : Nat) : Int))] M = some (.ref r, M) := by
          simp only [f2_eq, fVar_eq, fC_eq, fNeg_eq, List.getElem?_cons_succ, List.getElem?_cons_zero, Option.join_some, Option.map_some, Option.bind_some, semIx_ref, seqAt_lst hb, hix]
        have i2 : (fOwn 2 m_ways_with_one_more (fCons (f2 semIx (fVar 1) (fNeg (fC (.int 1)))) (fCons (fVar 2) fNil))) [some (.int m), some (.ref (L.length + 1)), some (.int ((m - 1 - k : Nat) : Int))] M = some (.ref r', M') := by
          rw [fOwn_eq, fCons_eq, i1]
          simp only [Option.bind_some, fCons_eq, fVar_eq, fNil_eq, List.getElem?_cons_succ, List.getElem?_cons_zero, Option.join_some, Option.map_some, List.length_cons, List.length_nil, if_true, e1]
        rw [fDrop_eq, fMeth_eq]
        simp only [fVar_eq, List.getElem?_cons_succ, List.getElem?_cons_zero, Option.join_some, Option.map_some, Option.bind_some, ty, if_true]
        rw [fCons_eq, i2]
        simp only [Option.bind_some, fNil_eq, Option.map_some, ap]
      · by_cases hik : i ≤ k
        · obtain ⟨x, hx, hn, hxr⟩ := hds i hik
          refine ⟨x, by rw [List.getElem?_append_left (by have := (List.getElem?_eq_some_iff.mp hx).1; exact this)]; exact hx, hn, ?_⟩
          rw [List.getElem?_set_ne (Ne.symm hn)]; exact g'.get hxr
        · have : i = k + 1 := by omega
          subst this
          refine ⟨r', by rw [List.getElem?_append_right (by simp [hk])]; simp [hk], by omega, ?_⟩
          rw [List.getElem?_set_ne (by omega)]; exact hr')
  obtain ⟨y2, rs, r, hδ, hb, hk, hds, g, hlm, _⟩ := P
  rw [hδ] at e
  have hdl : (downU ((m : Int) - 1) m).length = m := by simp [downU]
  rw [hdl] at hds hk
  have hrev : ((rs ++ [r]).map U.ref).reverse = (rs ++ [r]).reverse.map U.ref := by rw [List.map_reverse]
  refine ⟨L'.length, (rs ++ [r]).reverse, L' ++ [.lst ((rs ++ [r]).reverse.map U.ref)], ?_, by simp, by simp [hk], fun i hi => ?_, g.trans (Gw.new _ _)⟩
  · have s3 : (fLRev (fCons (fVar 1) fNil)) [some (.int m), some (.ref (L.length + 1)), y2] L' = some (.ref L'.length, L' ++ [.lst ((rs ++ [r]).reverse.map U.ref)]) := by
      unfold fLRev
      simp only [fCons_eq, fNil_eq, fVar_eq, List.getElem?_cons_succ, List.getElem?_cons_zero, Option.join_some, Option.map_some, Option.bind_some, seqAt_lst hb, hrev]
    unfold m_ways_from_each fnU b_ways_from_each
    simp only [List.length_cons, List.length_nil, if_true, List.map_cons, List.map_nil, List.replicate, List.cons_append, List.nil_append]
    rw [fSeq_nx s1, fSeq_nx e, fRet_eq, s3]
    rfl
  · obtain ⟨x, hx, _, hxr⟩ := hds (m - i) (by omega)
    refine ⟨x, ?_, (Gw.new L' _).get hxr⟩
    rw [List.getElem?_reverse (by simp; omega), ← hx]
    congr 1
    simp; omega
theorem ways_to_ok {L : UH} {r : Nat} {ws : List Int} (t : Int) (hr : L[r]? = some (.lst (ws.map U.int))) : m_ways_to [.ref r, .int t] L = some (.int (tailv ws t), L) := by
  have hlen := len_lst hr
  rw [List.length_map] at hlen
  have hlc : (fCall semLen (fCons (fVar 0) fNil)) [some (.ref r), some (.int t)] L = some (.int ws.length, L) := by
    simp only [fCall_eq, fCons_eq, fNil_eq, fVar_eq, List.getElem?_cons_zero, Option.join_some, Option.map_some, Option.bind_some, hlen]
  have tt : (fTest (fChain semLe semLt (fC (.int 0)) (fVar 1) (fCall semLen (fCons (fVar 0) fNil)))) [some (.ref r), some (.int t)] L = some (decide (0 ≤ t) && decide (t < ws.length), L) := by
    rw [fTest_eq]
    unfold fChain
    cases h : decide (0 ≤ t) <;> simp [h, hlc, hlen]
  unfold m_ways_to fnU b_ways_to
  simp only [List.length_cons, List.length_nil, if_true, List.map_cons, List.map_nil, Nat.sub_self, List.replicate_zero, List.append_nil]
  rw [fRet_eq, fIf_eq, tt]
  unfold tailv
  by_cases h0 : 0 ≤ t
  · rw [if_pos h0]
    by_cases h1 : t < ws.length
    · have hg : ws.getD t.toNat 0 = ws[t.toNat]'(by omega) := by simp [List.getD_eq_getElem?_getD, show t.toNat < ws.length by omega]
      have hix : L2.atI (ws.map U.int) t = some (.int (ws.getD t.toNat 0)) := by
        rw [atI_of h0 (by simp; omega), List.getElem?_map, List.getElem?_eq_getElem (by omega), hg]; rfl
      simp only [decide_eq_true h0, decide_eq_true h1, Bool.and_self, Option.bind_some, if_true, f2_eq, fVar_eq, List.getElem?_cons_succ, List.getElem?_cons_zero, Option.join_some, Option.map_some, semIx_ref, seqAt_lst hr, hix]
    · have hg : ws.getD t.toNat 0 = 0 := by rw [List.getD_eq_getElem?_getD, List.getElem?_eq_none (by omega)]; rfl
      simp only [decide_eq_true h0, decide_eq_false h1, Bool.and_false, Option.bind_some, Bool.false_eq_true, if_false, fC_eq, hg, Option.map_some]
  · rw [if_neg h0]
    simp only [decide_eq_false h0, Bool.false_and, Option.bind_some, Bool.false_eq_true, if_false, fC_eq, Option.map_some]
theorem sum_ref {L : UH} {r : Nat} {l : List Int} (h : L[r]? = some (.lst (l.map U.int))) : semSum [.ref r] L = some (.int l.sum, L) := by
  simp only [semSum, seqAt_lst h, Option.bind_some, toI_ints, Option.map_some]
theorem less_comp {M : UH} {q r k c : Nat} {ds : List Nat} {ws : List Int} {left found : Int} (hq : M[q]? = some (.lst (ds.map U.ref))) (hr : ds[k + 1]? = some r) (hd : M[r]? = some (.lst (ws.map U.int))) (hc : c ≤ 1000) (x0 x2 : Option U) :
    ∃ M', (fAsg (f2 semAdd (fVar 4) (fCall semSum (fCons (fComp [none, some 1, some 5, some 3] (fRng1 (fCons (fVar 6) fNil)) (gN 0) none b_place_of_row_2e) fNil))) (gN 4)) [x0, some (.ref q), x2, some (.int left), some (.int found), some (.int (k : Int)), some (.int (c : Int))] M = some (.nx [x0, some (.ref q), x2, some (.int left), some (.int (found + sumL ws left c)), some (.int (k : Int)), some (.int (c : Int))], M') ∧ Gw M M' := by
  have hi : fRng1 (fCons (fVar 6) fNil) [x0, some (.ref q), x2, some (.int left), some (.int found), some (.int (k : Int)), some (.int (c : Int))] M = some (.seq ((List.range c).map fun (t : Nat) => U.int (0 + (t : Int))), M) := rng1_nat (n := c) rfl (by omega)
  have hix : L2.atI (ds.map U.ref) ((k + 1 : Nat) : Int) = some (.ref r) := ix_nat (by rw [List.getElem?_map, hr]; rfl)
  have h1 : ((k : Int) + 1) = ((k + 1 : Nat) : Int) := by omega
  obtain ⟨x, e⟩ := comp_grow (ix := [none, some 1, some 5, some 3]) (fi := fRng1 (fCons (fVar 6) fNil)) (it := .seq ((List.range c).map fun (t : Nat) => U.int (0 + (t : Int)))) (g := gN 0) (tt := none) (fe := b_place_of_row_2e) (δ := [x0, some (.ref q), x2, some (.int left), some (.int found), some (.int (k : Int)), some (.int (c : Int))]) (L := M) (L0 := M)
    (List.range c) (fun (t : Nat) => U.int (0 + (t : Int))) (fun _ => true) (fun (t : Nat) => .int (tailv ws (left - (t : Int)))) (fun δ => ∃ a, δ = [a, some (.ref q), some (.int (k : Int)), some (.int left)]) hi (by simp [IU.size]) (by simp; omega) ⟨none, rfl⟩
    (fun k x => rfl)
    (fun t δ x _ ⟨y, hδ⟩ => by
      subst hδ
      have h0 : (0 : Int) + (t : Int) = (t : Int) := by omega
      rw [h0]
      refine ⟨[some (.int (t : Int)), some (.ref q), some (.int (k : Int)), some (.int left)], rfl, ⟨_, rfl⟩, [], by simp [testU], fun _ => ⟨[], ?_⟩⟩
      rw [List.append_nil, List.append_nil]
      have hq' : (M ++ x)[q]? = some (.lst (ds.map U.ref)) := (Gw.new M x).get hq
      have e1 : (f2 semIx (fVar 1) (f2 semAdd (fVar 2) (fC (.int 1)))) [some (.int (t : Int)), some (.ref q), some (.int (k : Int)), some (.int left)] (M ++ x) = some (.ref r, M ++ x) := by
        simp only [f2_eq, fVar_eq, fC_eq, List.getElem?_cons_succ, List.getElem?_cons_zero, Option.join_some, Option.map_some, Option.bind_some, semAdd_int, semIx_ref, seqAt_lst hq', h1, hix]
      unfold b_place_of_row_2e
      rw [fOwn_eq, fCons_eq, e1]
      simp only [Option.bind_some, fCons_eq, f2_eq, fVar_eq, fNil_eq, List.getElem?_cons_succ, List.getElem?_cons_zero, Option.join_some, Option.map_some, semSub_int, List.length_cons, List.length_nil, if_true, ways_to_ok (left - (t : Int)) ((Gw.new M x).get hd)])
  have hff : List.filter (fun _ => true) (List.range c) = List.range c := List.filter_eq_self.mpr (fun _ _ => rfl)
  have hmm : (List.range c).map (fun (t : Nat) => U.int (tailv ws (left - (t : Int)))) = ((List.range c).map fun (t : Nat) => tailv ws (left - (t : Int))).map U.int := by simp
  rw [hff, hmm] at e
  have hs := sum_ref (L := M ++ x ++ [HU.lst (((List.range c).map fun (t : Nat) => tailv ws (left - (t : Int))).map U.int)]) (r := (M ++ x).length) (l := (List.range c).map fun (t : Nat) => tailv ws (left - (t : Int))) (by simp)
  refine ⟨M ++ x ++ [HU.lst (((List.range c).map fun (t : Nat) => tailv ws (left - (t : Int))).map U.int)], ?_, ⟨x ++ [HU.lst (((List.range c).map fun (t : Nat) => tailv ws (left - (t : Int))).map U.int)], by rw [List.append_assoc]⟩⟩
  rw [fAsg_eq, f2_eq]
  have h4 : fVar 4 [x0, some (.ref q), x2, some (.int left), some (.int found), some (.int (k : Int)), some (.int (c : Int))] M = some (.int found, M) := rfl
  rw [h4, Option.bind_some, fCall_eq, fCons_eq, e]
  simp only [Option.bind_some, fNil_eq, Option.map_some, hs, semAdd_int, gN_eq, List.set_cons_succ, List.set_cons_zero]
  rfl
theorem cntv_len (row : List Int) : (cntv row).length = row.length := by simp [cntv]
theorem cntv_mem {row : List Int} {c : Int} (h : c ∈ cntv row) : 0 ≤ c ∧ c ≤ row.length := by
  unfold cntv at h
  obtain ⟨i, hi, rfl⟩ := List.mem_map.mp h
  have : gtv row i ≤ row.length := by
    unfold gtv
    exact Nat.le_trans (List.length_filter_le _ _) (by rw [List.length_take]; omega)
  omega
theorem place_ok {row : List Int} (hl : row.length ≤ 12) (L : UH) : ∃ L', m_place_of_row [.tup (row.map U.int)] L = some (.int (ahv (cntv row) row.length), L') ∧ Gw L L' := by
  have hlen : semLen [.tup (row.map U.int)] L = some (.int row.length, L) := by simp [semLen, lenU]
  obtain ⟨q, ds, L1, e1, hq, hdl, hds, g1⟩ := from_each_all hl L
  obtain ⟨K2, e2, g2⟩ := counts_of_ok row L1 (by omega)
  have hcl := cntv_len row
  have hcm : ∀ c ∈ cntv row, 0 ≤ c ∧ c ≤ row.length := fun c h => cntv_mem h
  generalize cntv row = cs at e2 hcl hcm
  have s1 : (fAsg (fOwn 1 m_ways_from_each (fCons (fCall semLen (fCons (fVar 0) fNil)) fNil)) (gN 1)) [some (.tup (row.map U.int)), none, none, none, none, none, none] L = some (.nx [some (.tup (row.map U.int)), some (.ref q), none, none, none, none, none], L1) := by
    simp only [fAsg_eq, fOwn_eq, fCall_eq, fCons_eq, fNil_eq, fVar_eq, List.getElem?_cons_succ, List.getElem?_cons_zero, Option.join_some, Option.map_some, Option.bind_some, hlen, List.length_cons, List.length_nil, if_true, e1, gN_eq, List.set_cons_succ, List.set_cons_zero]
  have s2 : (fAsg (fOwn 1 m_counts_of (fCons (fVar 0) fNil)) (gN 2)) [some (.tup (row.map U.int)), some (.ref q), none, none, none, none, none] L1 = some (.nx [some (.tup (row.map U.int)), some (.ref q), some (.tup (cs.map U.int)), none, none, none, none], K2) := by
    simp only [fAsg_eq, fOwn_eq, fCons_eq, fNil_eq, fVar_eq, List.getElem?_cons_succ, List.getElem?_cons_zero, Option.join_some, Option.map_some, Option.bind_some, List.length_cons, List.length_nil, if_true, e2, gN_eq, List.set_cons_succ, List.set_cons_zero]
  have s3 : (fAsg (fCall semSum (fCons (fVar 2) fNil)) (gN 3)) [some (.tup (row.map U.int)), some (.ref q), some (.tup (cs.map U.int)), none, none, none, none] K2 = some (.nx [some (.tup (row.map U.int)), some (.ref q), some (.tup (cs.map U.int)), some (.int cs.sum), none, none, none], K2) := by
    simp only [fAsg_eq, fCall_eq, fCons_eq, fNil_eq, fVar_eq, List.getElem?_cons_succ, List.getElem?_cons_zero, Option.join_some, Option.map_some, Option.bind_some, sum_tup, gN_eq, List.set_cons_succ, List.set_cons_zero]
  have s4 : (fAsg (fC (.int 0)) (gN 4)) [some (.tup (row.map U.int)), some (.ref q), some (.tup (cs.map U.int)), some (.int cs.sum), none, none, none] K2 = some (.nx [some (.tup (row.map U.int)), some (.ref q), some (.tup (cs.map U.int)), some (.int cs.sum), some (.int 0), none, none], K2) := rfl
  have hi : (fEnumA (fCons (fVar 2) fNil)) [some (.tup (row.map U.int)), some (.ref q), some (.tup (cs.map U.int)), some (.int cs.sum), some (.int 0), none, none] K2 = some (.seq ((List.range cs.length).map fun (i : Nat) => U.tup [.int (i : Int), .int (cs.getD i 0)]), K2) := by
    rw [← enum_ints]; rfl
  obtain ⟨δ', L', e, P⟩ := for_seq (us := (List.range cs.length).map fun (i : Nat) => U.tup [.int (i : Int), .int (cs.getD i 0)]) (body := b_place_of_row_1) (g := (MR.gTup 2 (MR.gCons (gN 5) (MR.gCons (gN 6) MR.gNil))))
    (fun k δ' L' => Gw K2 L' ∧ ∃ z5 z6, δ' = [some (.tup (row.map U.int)), some (.ref q), some (.tup (cs.map U.int)), some (.int (leftv cs k)), some (.int (ahv cs k)), z5, z6])
    hi ⟨.refl _, none, none, by
      have h1 : leftv cs 0 = cs.sum := by unfold leftv; simp
      have h2 : ahv cs 0 = 0 := rfl
      rw [h1, h2]⟩
    (fun k u δ M' hu ⟨gM, z5, z6, hδ⟩ => by
      subst hδ
      rw [List.getElem?_map] at hu
      obtain ⟨t, ht, rfl⟩ := Option.map_eq_some_iff.mp hu
      have hk : k < cs.length := by
        have := (List.getElem?_eq_some_iff.mp ht).1
        simpa using this
      rw [List.getElem?_range hk] at ht
      cases ht
      have hmem : cs.getD k 0 ∈ cs := by rw [List.getD_eq_getElem?_getD, List.getElem?_eq_getElem hk]; exact List.getElem_mem hk
      obtain ⟨c0, c1⟩ := hcm _ hmem
      obtain ⟨c, hcc⟩ : ∃ c : Nat, cs.getD k 0 = c := ⟨(cs.getD k 0).toNat, by omega⟩
      obtain ⟨r, hr, hd⟩ := hds (k + 1) (by omega)
      obtain ⟨M2, el, g3⟩ := less_comp (left := leftv cs k) (found := ahv cs k) (gM.get (g2.get hq)) hr (gM.get (g2.get hd)) (c := c) (by omega) (some (.tup (row.map U.int))) (some (.tup (cs.map U.int)))
      have hs := ahv_succ cs k
      rw [hcc, Int.toNat_natCast, hcl] at hs
      rw [← hs, ← hcc] at el
      refine ⟨[some (.tup (row.map U.int)), some (.ref q), some (.tup (cs.map U.int)), some (.int (leftv cs k)), some (.int (ahv cs k)), some (.int (k : Int)), some (.int (cs.getD k 0))], M', rfl, _, M2, .inl ?_, gM.trans g3, some (.int (k : Int)), some (.int (cs.getD k 0)), rfl⟩
      unfold b_place_of_row_1
      rw [fSeq_nx el, leftv_succ hk]
      rfl)
  obtain ⟨gM, z5, z6, hδ⟩ := P
  rw [List.length_map, List.length_range, hcl] at hδ
  rw [hδ] at e
  refine ⟨L', ?_, g1.trans (g2.trans gM)⟩
  unfold m_place_of_row fnU b_place_of_row
  simp only [List.length_cons, List.length_nil, if_true, List.map_cons, List.map_nil, List.replicate, List.cons_append, List.nil_append]
  rw [fSeq_nx s1, fSeq_nx s2, fSeq_nx s3, fSeq_nx s4, fSeq_nx e, fRet_eq]
  rfl
noncomputable def bad (cs : List Int) (k : Nat) : Bool := decide (cs.getD k 0 < 0) || decide ((k : Int) < cs.getD k 0)
noncomputable def rb (cs : List Int) : Nat → List Int → List Int
  | 0, _ => []
  | n + 1, l => rb cs n (l.eraseIdx (n - (cs.getD n 0).toNat)) ++ [l.getD (n - (cs.getD n 0).toNat) 0]
theorem rb_len (cs : List Int) : ∀ n l, (rb cs n l).length = n
  | 0, _ => rfl
  | n + 1, l => by unfold rb; rw [List.length_append, rb_len cs n]; rfl
theorem rb_perm (cs : List Int) : ∀ n (l : List Int), l.length = n → (rb cs n l).Perm l
  | 0, l, h => by rw [List.length_eq_zero_iff.mp h]; exact List.Perm.refl _
  | n + 1, l, h => by
    unfold rb
    have hi : n - (cs.getD n 0).toNat < l.length := by omega
    have e : l.getD (n - (cs.getD n 0).toNat) 0 = l[n - (cs.getD n 0).toNat] := by rw [List.getD_eq_getElem?_getD, List.getElem?_eq_getElem hi]; rfl
    rw [e]
    have ih := rb_perm cs n (l.eraseIdx (n - (cs.getD n 0).toNat)) (by rw [List.length_eraseIdx_of_lt hi]; omega)
    exact (ih.append_right _).trans ((List.perm_append_singleton _ _).trans (erase_perm l _ hi))
theorem above_len : ∀ (l : List Int) (i : Nat) (h : i < l.length), l.Pairwise (· < ·) → ((l.eraseIdx i).filter fun o => decide (l[i] < o)).length = l.length - 1 - i
  | [], i, h, _ => by simp at h
  | x :: t, 0, h, hp => by
    have h1 := (List.pairwise_cons.mp hp).1
    rw [List.eraseIdx_cons_zero, List.getElem_cons_zero, List.filter_eq_self.mpr fun o ho => by simpa using h1 o ho]
    simp
  | x :: t, i + 1, h, hp => by
    have h1 := (List.pairwise_cons.mp hp).1
    have ht : i < t.length := by simpa using h
    rw [List.eraseIdx_cons_succ, List.getElem_cons_succ, List.filter_cons_of_neg (by have := h1 _ (List.getElem_mem ht); simp; omega), above_len t i ht (List.pairwise_cons.mp hp).2]
    simp
    omega
theorem cnt_app (r : List Int) (v : Int) : cntv (r ++ [v]) = cntv r ++ [(((r.filter fun o => decide (v < o)).length : Nat) : Int)] := by
  unfold cntv
  rw [List.length_append, List.length_singleton, List.range_succ, List.map_append, List.map_singleton]
  congr 1
  · refine List.map_congr_left fun i hi => ?_
    have hi' : i < r.length := List.mem_range.mp hi
    unfold gtv
    rw [List.take_append_of_le_length (by omega), List.getD_eq_getElem?_getD, List.getD_eq_getElem?_getD, List.getElem?_append_left hi']
  · unfold gtv
    rw [List.take_left' rfl]
    simp
theorem rb_cnt (cs : List Int) : ∀ n (l : List Int), l.length = n → n ≤ cs.length → l.Pairwise (· < ·) → (∀ i, i < n → bad cs i = false) → cntv (rb cs n l) = cs.take n
  | 0, l, _, _, _, _ => rfl
  | n + 1, l, h, hc, hp, hb => by
    unfold rb
    have hbn := hb n (by omega)
    unfold bad at hbn
    simp only [Bool.or_eq_false_iff, decide_eq_false_iff_not] at hbn
    have hi : n - (cs.getD n 0).toNat < l.length := by omega
    have e : l.getD (n - (cs.getD n 0).toNat) 0 = l[n - (cs.getD n 0).toNat] := by rw [List.getD_eq_getElem?_getD, List.getElem?_eq_getElem hi]; rfl
    have le : (l.eraseIdx (n - (cs.getD n 0).toNat)).length = n := by rw [List.length_eraseIdx_of_lt hi]; omega
    rw [cnt_app, rb_cnt cs n _ le (by omega) (hp.sublist (List.eraseIdx_sublist _ _)) fun i hi => hb i (by omega)]
    have pf := ((rb_perm cs n _ le).filter fun o => decide (l.getD (n - (cs.getD n 0).toNat) 0 < o)).length_eq
    rw [pf, e, above_len l _ hi hp, take_one (by omega : n < cs.length)]
    congr 2
    omega
end Lw
set_option Elab.async false
set_option linter.all false
set_option maxRecDepth 100000
set_option maxHeartbeats 1000000
namespace Lw
open PySem L2 MR
theorem waysF : ((List.range 13).all fun m => decide ((progW m).sum = ((((List.range m).map fun i => i + 1).foldl (· * ·) 1 : Nat) : Int)) && (decide ((progW m).reverse = progW m) && (decide ((progW m).length = m * (m - 1) / 2 + 1) && (progW m).all fun c => decide (1 ≤ c) && decide (c ≤ 500000000)))) = true := by decide +kernel
theorem ways_facts {m : Nat} (h : m ≤ 12) : (progW m).sum = ((((List.range m).map fun i => i + 1).foldl (· * ·) 1 : Nat) : Int) ∧ (progW m).reverse = progW m ∧ (progW m).length = m * (m - 1) / 2 + 1 ∧ ∀ c ∈ progW m, 1 ≤ c ∧ c ≤ 500000000 := by
  have := List.all_eq_true.mp waysF m (List.mem_range.mpr (by omega))
  simp only [Bool.and_eq_true, decide_eq_true_eq, List.all_eq_true] at this
  exact this
theorem Wj_pos : ((List.range 13).all fun m => (List.range 13).all fun j => (Wj m j).all fun c => decide (0 ≤ c)) = true := by decide +kernel
theorem Wj_nn {m j : Nat} (hm : m ≤ 12) (hj : j ≤ 12) : ∀ c ∈ Wj m j, 0 ≤ c := by
  have := List.all_eq_true.mp (List.all_eq_true.mp Wj_pos m (List.mem_range.mpr (by omega))) j (List.mem_range.mpr (by omega))
  intro c hc
  exact of_decide_eq_true (List.all_eq_true.mp this c hc)
theorem tailv_nn {m j : Nat} (hm : m ≤ 12) (hj : j ≤ 12) (t : Int) : 0 ≤ tailv (Wj m j) t := by
  unfold tailv
  split
  · rw [List.getD_eq_getElem?_getD]
    cases h : (Wj m j)[t.toNat]? with
    | none => exact Int.le_refl _
    | some c => exact Wj_nn hm hj c (List.mem_of_getElem? h)
  · exact Int.le_refl _
theorem sumL_up {m j : Nat} (hm : m ≤ 12) (hj : j ≤ 12) (left : Int) : ∀ a b, a ≤ b → sumL (Wj m j) left a ≤ sumL (Wj m j) left b
  | a, b, h => by
    induction b with
    | zero => rw [show a = 0 by omega]; exact Int.le_refl _
    | succ b ih =>
      by_cases c : a = b + 1
      · rw [c]; exact Int.le_refl _
      · have := ih (by omega)
        rw [sumL_succ]
        have := tailv_nn hm hj (left - (b : Int))
        omega
theorem stepF : ((List.range 13).all fun m => (List.range m).all fun j => (List.range 121).all fun t => decide (tailv (Wj m (j + 1)) (t : Nat) = sumL (Wj m j) (t : Nat) (m - 1 - j + 1))) = true := by decide +kernel
theorem sumL_zero {ws : List Int} {left : Int} : ∀ c : Nat, (∀ l : Nat, l < c → tailv ws (left - (l : Int)) = 0) → sumL ws left c = 0
  | 0, _ => rfl
  | c + 1, h => by rw [sumL_succ, sumL_zero c fun l hl => h l (by omega), h c (by omega)]; rfl
theorem tail_step1 {m j : Nat} (hm : m ≤ 12) (hj : j < m) (t : Int) : tailv (Wj m (j + 1)) t = sumL (Wj m j) t (m - 1 - j + 1) := by
  by_cases h0 : 0 ≤ t
  · by_cases h1 : t ≤ 120
    · have := List.all_eq_true.mp (List.all_eq_true.mp (List.all_eq_true.mp stepF m (List.mem_range.mpr (by omega))) j (List.mem_range.mpr hj)) t.toNat (List.mem_range.mpr (by omega))
      have := of_decide_eq_true this
      rwa [Int.toNat_of_nonneg h0] at this
    · have big : ∀ (i : Nat) (u : Int), 100 ≤ u → tailv (Wj m i) u = 0 := fun i u hu => by
        unfold tailv
        have := Wj_len hm i
        rw [if_pos (by omega), List.getD_eq_getElem?_getD, List.getElem?_eq_none (by omega)]; rfl
      rw [big _ t (by omega), sumL_zero _ fun l hl => big _ _ (by omega)]
  · have neg : ∀ (i : Nat) (u : Int), u < 0 → tailv (Wj m i) u = 0 := fun i u hu => by unfold tailv; rw [if_neg (by omega)]
    rw [neg _ t (by omega), sumL_zero _ fun l hl => neg _ _ (by omega)]
theorem tail_last (m : Nat) (t : Int) : tailv (Wj m 0) t = if t = 0 then 1 else 0 := by
  rw [Wj_0]
  unfold tailv
  by_cases h : t = 0
  · subst h; rfl
  · rw [if_neg h]
    split
    · rw [List.getD_eq_getElem?_getD, List.getElem?_eq_none (by simp; omega)]; rfl
    · rfl
theorem digit {m j : Nat} (hm : m ≤ 12) (hj : j ≤ 12) (left ahead : Int) (h0 : 0 ≤ ahead) : ∀ n, ahead < sumL (Wj m j) left n → ∃ c, c < n ∧ sumL (Wj m j) left c ≤ ahead ∧ ahead < sumL (Wj m j) left (c + 1)
  | 0, h => by have : sumL (Wj m j) left 0 = 0 := rfl; omega
  | n + 1, h => by
    by_cases c : ahead < sumL (Wj m j) left n
    · obtain ⟨d, d1, d2, d3⟩ := digit hm hj left ahead h0 n c
      exact ⟨d, by omega, d2, d3⟩
    · exact ⟨n, by omega, by omega, h⟩
noncomputable def good (cs : List Int) : Prop := ∀ i, i < cs.length → bad cs i = false
theorem good_at {cs : List Int} (h : good cs) {k : Nat} (hk : k < cs.length) : 0 ≤ cs.getD k 0 ∧ cs.getD k 0 ≤ (k : Int) := by
  have := h k hk
  unfold bad at this
  simp only [Bool.or_eq_false_iff, decide_eq_false_iff_not] at this
  omega
noncomputable abbrev rest (cs : List Int) (k : Nat) : Int := ahv cs cs.length - ahv cs k
theorem leftv_end (cs : List Int) : leftv cs cs.length = 0 := by unfold leftv; rw [List.take_length]; omega
theorem rest_ok {cs : List Int} (hm : cs.length ≤ 12) (hg : good cs) : ∀ j k, k + j = cs.length → 0 ≤ rest cs k ∧ rest cs k < tailv (Wj cs.length j) (leftv cs k)
  | 0, k, h => by
    have hk : k = cs.length := by omega
    subst hk
    rw [tail_last, if_pos (leftv_end cs)]
    unfold rest
    omega
  | j + 1, k, h => by
    obtain ⟨i1, i2⟩ := rest_ok hm hg j (k + 1) (by omega)
    have hk : k < cs.length := by omega
    obtain ⟨g1, g2⟩ := good_at hg hk
    have e := ahv_succ cs k
    rw [show cs.length - (k + 1) = j by omega] at e
    rw [leftv_succ hk] at i2
    have es := sumL_succ (Wj cs.length j) (leftv cs k) (cs.getD k 0).toNat
    rw [Int.toNat_of_nonneg g1] at es
    have u1 := sumL_up hm (by omega : j ≤ 12) (leftv cs k) ((cs.getD k 0).toNat + 1) (k + 1) (by omega)
    have u0 := sumL_up hm (by omega : j ≤ 12) (leftv cs k) 0 (cs.getD k 0).toNat (by omega)
    have z : sumL (Wj cs.length j) (leftv cs k) 0 = 0 := rfl
    rw [tail_step1 hm (by omega), show cs.length - 1 - j + 1 = k + 1 by omega]
    unfold rest at *
    omega
theorem ahead_of {m : Nat} (hm : m ≤ 12) : ∀ j k (pre : List Int) (left ahead : Int), k + j = m → pre.length = k → (∀ i, i < k → bad pre i = false) → 0 ≤ ahead → ahead < tailv (Wj m j) left →
    ∃ ds : List Int, (pre ++ ds).length = m ∧ good (pre ++ ds) ∧ ds.sum = left ∧ ahead = rest (pre ++ ds) k
  | 0, k, pre, left, ahead, h, hp, hb, h0, h1 => by
    rw [tail_last] at h1
    have hl : left = 0 := by
      by_cases c : left = 0
      · exact c
      · rw [if_neg c] at h1; omega
    rw [if_pos hl] at h1
    refine ⟨[], by simp; omega, ?_, by simp [hl], ?_⟩
    · rw [List.append_nil]; intro i hi; exact hb i (by omega)
    · rw [List.append_nil]
      unfold rest
      rw [hp]
      omega
  | j + 1, k, pre, left, ahead, h, hp, hb, h0, h1 => by
    rw [tail_step1 hm (by omega), show m - 1 - j + 1 = k + 1 by omega] at h1
    obtain ⟨c, c1, c2, c3⟩ := digit hm (by omega : j ≤ 12) left ahead h0 (k + 1) h1
    rw [sumL_succ] at c3
    have hgc : (pre ++ [(c : Int)]).getD k 0 = c := by
      rw [List.getD_eq_getElem?_getD, List.getElem?_append_right (by omega), hp, Nat.sub_self]; rfl
    obtain ⟨ds, d1, d2, d3, d4⟩ := ahead_of hm j (k + 1) (pre ++ [(c : Int)]) (left - c) (ahead - sumL (Wj m j) left c) (by omega) (by simp; omega) (fun i hi => by
      by_cases q : i < k
      · have := hb i q
        unfold bad at this ⊢
        rw [List.getD_eq_getElem?_getD, List.getElem?_append_left (by omega), ← List.getD_eq_getElem?_getD]
        exact this
      · have : i = k := by omega
        subst this
        unfold bad
        rw [hgc]
        simp
        omega) (by omega) (by omega)
    rw [List.append_assoc, List.singleton_append] at d1 d2 d4
    refine ⟨(c : Int) :: ds, d1, d2, by rw [List.sum_cons, d3]; omega, ?_⟩
    have hk : k < (pre ++ (c : Int) :: ds).length := by omega
    have e := ahv_succ (pre ++ (c : Int) :: ds) k
    have gk : (pre ++ (c : Int) :: ds).getD k 0 = c := by
      rw [List.getD_eq_getElem?_getD, List.getElem?_append_right (by omega), hp, Nat.sub_self]; rfl
    have lk : leftv (pre ++ (c : Int) :: ds) k = left := by
      unfold leftv
      rw [List.take_left' hp, List.sum_append, List.sum_cons, d3]
      omega
    rw [gk, lk, d1, show m - (k + 1) = j by omega, Int.toNat_natCast] at e
    unfold rest at d4 ⊢
    omega
end Lw
set_option Elab.async false
set_option linter.all false
set_option maxRecDepth 100000
set_option maxHeartbeats 1000000
namespace Lw
open PySem L2 MR
theorem setN {fe : FE} {v : U} {i : Nat} {δ : UE} {L L' : UH} (e : fe δ L = some (v, L')) : (fAsg fe (gN i)) δ L = some (.nx (δ.set i (some v)), L') := by
  rw [fAsg_eq, e]
  simp only [Option.bind_some, gN_eq, Option.map_some]
theorem own1 {f : FN} {i : Nat} {u v : U} {δ : UE} {L L' : UH} (h : fVar i δ L = some (u, L)) (e : f [u] L = some (v, L')) : (fOwn 1 f (fCons (fVar i) fNil)) δ L = some (v, L') := by
  rw [fOwn_eq, fCons_eq, h]
  simp only [Option.bind_some, fNil_eq, Option.map_some, List.length_cons, List.length_nil, if_true, e]
theorem own1e {f : FN} {fe : FE} {u v : U} {δ : UE} {L L1 L' : UH} (h : fe δ L = some (u, L1)) (e : f [u] L1 = some (v, L')) : (fOwn 1 f (fCons fe fNil)) δ L = some (v, L') := by
  rw [fOwn_eq, fCons_eq, h]
  simp only [Option.bind_some, fNil_eq, Option.map_some, List.length_cons, List.length_nil, if_true, e]
theorem fn1 {n : Nat} {b : FS} {u v : U} {L L' : UH} (h : b (some u :: List.replicate n none) L = some (.rt v, L')) : fnU (n + 1) 1 b [u] L = some (v, L') := by
  unfold fnU
  simp only [List.length_cons, List.length_nil, if_true, List.map_cons, List.map_nil, List.cons_append, List.nil_append, Nat.add_sub_cancel, h]
  rfl
theorem ret_ok {fe : FE} {v : U} {δ : UE} {L L' : UH} (e : fe δ L = some (v, L')) : fRet fe δ L = some (.rt v, L') := by
  rw [fRet_eq, e]; rfl
theorem if_no {c : FT} {f : FS} {δ : UE} {L L' : UH} (h : c δ L = some (false, L')) : fIfS c f fNext δ L = some (.nx δ, L') := by
  rw [fIfS_eq, h]; rfl
theorem if_yes {c : FT} {f g : FS} {δ : UE} {L L' : UH} (h : c δ L = some (true, L')) : fIfS c f g δ L = f δ L' := by
  rw [fIfS_eq, h]; rfl
theorem own2 {f : FN} {fa fb : FE} {u w v : U} {δ : UE} {L L1 L2 L' : UH} (h : fa δ L = some (u, L1)) (h2 : fb δ L1 = some (w, L2)) (e : f [u, w] L2 = some (v, L')) : (fOwn 2 f (fCons fa (fCons fb fNil))) δ L = some (v, L') := by
  rw [fOwn_eq, fCons_eq, h, Option.bind_some, fCons_eq, h2]
  simp only [Option.bind_some, fNil_eq, Option.map_some, List.length_cons, List.length_nil, if_true, e]
theorem fn2 {n : Nat} {b : FS} {u w v : U} {L L' : UH} (h : b (some u :: some w :: List.replicate n none) L = some (.rt v, L')) : fnU (n + 2) 2 b [u, w] L = some (v, L') := by
  unfold fnU
  simp only [List.length_cons, List.length_nil, if_true, List.map_cons, List.map_nil, List.cons_append, List.nil_append, Nat.add_sub_cancel, h]
  rfl
theorem nxt {L : UH} {d i : Nat} {B many : Int} {δ : UE} {fb : FE} (D : Deck L d B) (hB : B ≤ 100000000000000000) (h0 : 0 < many) (h1 : many < 1073741824) (hv : fVar i δ L = some (.ref d, L)) (hb : fb δ L = some (.int many, L)) :
    ∃ (r : Nat) (L' : UH), (fOwn 2 m_l_next (fCons (fVar i) (fCons fb fNil))) δ L = some (.int (r : Int), L') ∧ (r : Int) < many ∧ Deck L' d (B + 1) ∧ Ex d L L' := by
  obtain ⟨r, L', e, h2, h3, h4, h5⟩ := next_ok D hB h0 h1
  refine ⟨r.toNat, L', ?_, by omega, h4, h5⟩
  rw [Int.toNat_of_nonneg h2]
  exact own2 hv hb e
theorem ix_int {L : UH} {X i : Nat} {l : List Int} (h : L[X]? = some (.lst (l.map U.int))) (hi : i < l.length) : semIx (.ref X) (.int (i : Int)) L = some (.int (l.getD i 0), L) := by
  rw [semIx_ref, seqAt_lst h, Option.bind_some, atI_of (by omega) (by simp; omega), List.getElem?_map, Int.toNat_natCast, List.getElem?_eq_getElem hi]
  simp [List.getD_eq_getElem?_getD, hi]
theorem lst_ok {g : FA} {δ : UE} {L L1 : UH} {us : List U} (hg : g δ L = some (us, L1)) (hl : us.length ≤ 1000) : fLst g δ L = some (.ref L1.length, L1 ++ [.lst us]) := by
  rw [fLst_eq, hg, Option.bind_some, if_pos (small_of (by show us.length ≤ 16777216; omega))]
theorem cons_ok {fe : FE} {g : FA} {δ : UE} {L L1 L2 : UH} {u : U} {us : List U} (h1 : fe δ L = some (u, L1)) (h2 : g δ L1 = some (us, L2)) : fCons fe g δ L = some (u :: us, L2) := by
  rw [fCons_eq, h1, Option.bind_some, h2]; rfl
theorem pick {g : FA} {fi : FE} {δ : UE} {L L1 L2 : UH} {xs : List Int} {i d : Nat} (hg : g δ L = some (xs.map U.int, L1)) (hl : xs.length ≤ 1000) (hi : fi δ (L1 ++ [.lst (xs.map U.int)]) = some (.int (i : Int), L2)) (hx : Ex d (L1 ++ [.lst (xs.map U.int)]) L2) (hd : d < L1.length) (hlt : i < xs.length) :
    f2 semIx (fLst g) fi δ L = some (.int (xs.getD i 0), L2) := by
  have e := lst_ok hg (by rw [List.length_map]; exact hl)
  have at1 : L2[L1.length]? = some (.lst (xs.map U.int)) := hx.get (by simp) (by omega)
  rw [f2_eq, e, Option.bind_some, hi, Option.bind_some, ix_int at1 hlt]
noncomputable abbrev nItem (cs : List Int) : List U := (List.range cs.length).map fun (i : Nat) => U.tup [.int (i : Int), .int (cs.getD i 0)]
theorem nItem_at {cs : List Int} {k : Nat} (h : k < cs.length) : (nItem cs)[k]? = some (.tup [.int (k : Int), .int (cs.getD k 0)]) := by
  unfold nItem
  rw [List.getElem?_map, List.getElem?_range h]; rfl
theorem need_tst (t : U) (k c : Int) (L : UH) : (fOr (fTest (f2 semLt (fVar 2) (fC (.int 0)))) (fTest (f2 semGt (fVar 2) (fVar 1)))) [some t, some (.int k), some (.int c)] L = some (decide (c < 0) || decide (k < c), L) := by
  by_cases c1 : c < 0
  · simp [c1]
  · by_cases c2 : k < c <;> simp [c1, c2]
theorem need_get (t : U) (y1 y2 : Option U) (k c : Int) (L : UH) : (MR.gTup 2 (MR.gCons (gN 1) (MR.gCons (gN 2) MR.gNil))) (.tup [.int k, .int c]) [some t, y1, y2] L = some ([some t, some (.int k), some (.int c)], L) := rfl
theorem need_body {t : U} {k c : Int} {L : UH} (h : (decide (c < 0) || decide (k < c)) = false) : b_need_counts_1 [some t, some (.int k), some (.int c)] L = some (.nx [some t, some (.int k), some (.int c)], L) := by
  unfold b_need_counts_1
  rw [fIfS_eq, need_tst, h]
  rfl
theorem lrng2_ok {g : FA} {δ : UE} {L L' : UH} {i j : Int} (hg : g δ L = some ([.int i, .int j], L')) (h0 : 0 ≤ i) (h1 : i < 1000000) (h2 : 0 ≤ j) (h3 : j < 1000000) : fLRng2 g δ L = some (.ref L'.length, L' ++ [.lst (rangeU i (j - i).toNat)]) := by
  unfold fLRng2
  rw [hg]
  simp only [Option.bind_some]
  rw [if_pos ⟨by omega, by omega, by omega, by omega, by omega⟩]
theorem lrng2_nat {g : FA} {δ : UE} {L L' : UH} {n : Nat} (hg : g δ L = some ([.int 1, .int ((n : Int) + 1)], L')) (h : n ≤ 1000) : fLRng2 g δ L = some (.ref L'.length, L' ++ [.lst (rangeU 1 n)]) := by
  have := lrng2_ok hg (by omega) (by omega) (by omega) (by omega)
  rw [this, Int.add_sub_cancel, Int.toNat_natCast]
theorem at_intT {row : List Int} {k : Nat} (h : k < row.length) (L : UH) : semIx (.tup (row.map U.int)) (.int (k : Int)) L = some (.int (row.getD k 0), L) := by
  rw [semIx_tup, atI_of (by omega) (by simp; omega), List.getElem?_map, Int.toNat_natCast, List.getElem?_eq_getElem h]
  simp [List.getD_eq_getElem?_getD, h]
theorem len_tup (row : List Int) (L : UH) : semLen [.tup (row.map U.int)] L = some (.int row.length, L) := by simp [semLen, lenU]
noncomputable abbrev upto (n : Nat) : List Int := (List.range n).map fun (i : Nat) => (1 : Int) + (i : Int)
theorem upto_up (n : Nat) : (upto n).Pairwise (· < ·) := by
  rw [List.pairwise_map]
  exact List.pairwise_lt_range.imp fun h => by omega
theorem rangeU_upto (n : Nat) : rangeU 1 n = (upto n).map U.int := by unfold rangeU upto; rw [List.map_map]; rfl
theorem downU_at {h : Int} {n k : Nat} (hk : k < n) : (downU h n)[k]? = some (.int (h - (k : Int))) := by
  unfold downU
  rw [List.getElem?_map, List.getElem?_range hk]; rfl
noncomputable def SqV (L : UH) (u : U) (cs : List Int) : Prop := u = .tup (cs.map U.int) ∨ ∃ n, u = .ref n ∧ L[n]? = some (.lst (cs.map U.int))
theorem SqV.mono {L L' : UH} {u : U} {cs : List Int} (h : SqV L u cs) (g : Gw L L') : SqV L' u cs := by
  rcases h with h | ⟨n, h1, h2⟩
  · exact .inl h
  · exact .inr ⟨n, h1, g.get h2⟩
theorem SqV.len {L : UH} {u : U} {cs : List Int} (h : SqV L u cs) : semLen [u] L = some (.int (cs.length : Int), L) := by
  rcases h with rfl | ⟨n, rfl, h2⟩
  · exact len_tup cs L
  · have := len_lst h2
    rwa [List.length_map] at this
theorem SqV.ix {L : UH} {u : U} {cs : List Int} (h : SqV L u cs) {k : Nat} (hk : k < cs.length) : semIx u (.int (k : Int)) L = some (.int (cs.getD k 0), L) := by
  rcases h with rfl | ⟨n, rfl, h2⟩
  · exact at_intT hk L
  · exact ix_int h2 hk
theorem SqV.need {L : UH} {u : U} {cs : List Int} (h : SqV L u cs) (hg : good cs) : m_need_counts [u] L = some (.non, L) := by
  obtain ⟨it, hi, hat, hsz⟩ : ∃ it, (fEnumA (fCons (fVar 0) fNil)) [some u, none, none] L = some (it, L) ∧ (∀ k, it.at k L = some (nItem cs)[k]?) ∧ it.size L = (nItem cs).length := by
    rcases h with rfl | ⟨n, rfl, h2⟩
    · refine ⟨.seq (nItem cs), ?_, fun k => rfl, rfl⟩
      unfold fEnumA
      simp only [fCons_eq, fNil_eq, fVar_eq, List.getElem?_cons_zero, Option.join_some, Option.map_some, Option.bind_some, enum_ints]
    · have q := seqAt_lst h2
      refine ⟨.enm n, ?_, fun k => ?_, ?_⟩
      · unfold fEnumA
        simp only [fCons_eq, fNil_eq, fVar_eq, List.getElem?_cons_zero, Option.join_some, Option.map_some, Option.bind_some, q]
      · unfold IU.at
        simp only [q, Option.map_some]
        by_cases hk : k < cs.length
        · rw [nItem_at hk, List.getElem?_map, List.getElem?_eq_getElem hk]
          simp [List.getD_eq_getElem?_getD, hk]
        · rw [List.getElem?_eq_none (by simp; omega), List.getElem?_eq_none (by unfold nItem; simp; omega)]; rfl
      · unfold IU.size
        simp [q, nItem]
  obtain ⟨δ', L', e, y1, y2, hδ, hL⟩ := loop_any (it := it) (us := nItem cs) (body := b_need_counts_1) (g := (MR.gTup 2 (MR.gCons (gN 1) (MR.gCons (gN 2) MR.gNil))))
    (fun _ δ' L' => ∃ y1 y2, δ' = [some u, y1, y2] ∧ L' = L) (fun k δ M _ hP => by obtain ⟨_, _, _, rfl⟩ := hP; exact hat k)
    (fun k v δ M hu hP => by
      obtain ⟨y1, y2, hδ, hM⟩ := hP
      subst hδ hM
      have hk : k < cs.length := by have := (List.getElem?_eq_some_iff.mp hu).1; unfold nItem at this; simpa using this
      rw [nItem_at hk] at hu
      cases hu
      exact ⟨_, _, need_get _ _ _ _ _ _, _, _, .inl (need_body (hg k hk)), _, _, rfl, rfl⟩) ((nItem cs).length + 1) 0 [some u, none, none] L (by omega) (by omega) ⟨none, none, rfl, rfl⟩
  have ef : (fFor (fEnumA (fCons (fVar 0) fNil)) (MR.gTup 2 (MR.gCons (gN 1) (MR.gCons (gN 2) MR.gNil))) b_need_counts_1) [some u, none, none] L = some (.nx δ', L') := by
    rw [fFor_eq, hi, Option.bind_some, hsz]; exact e
  unfold m_need_counts fnU b_need_counts
  simp only [List.length_cons, List.length_nil, if_true, List.map_cons, List.map_nil, List.replicate, List.cons_append, List.nil_append]
  subst hL
  rw [ef]
  rfl
theorem row_of_ok {cs : List Int} {u : U} {L : UH} (hS : SqV L u cs) (hl : cs.length ≤ 1000) (hb : good cs) : ∃ L', m_row_of [u] L = some (.tup ((rb cs cs.length (upto cs.length)).map U.int), L') ∧ Gw L L' := by
  have hgd := hb
  unfold good at hb
  generalize hn : cs.length = n at hl hb ⊢
  have sm0 : small ([] : List U).length = true := small_of (by show 0 ≤ 16777216; decide)
  have hlen : ∀ M : UH, Gw L M → semLen [u] M = some (.int (n : Int), M) := fun M g => by rw [(hS.mono g).len, hn]
  have hl0 := hlen L (Gw.refl L)
  have hl2 := hlen (L ++ [.lst ((upto n).map U.int)] ++ [.lst []]) ⟨[.lst ((upto n).map U.int), .lst []], by simp⟩
  have s0 : (fDrop (fOwn 1 m_need_counts (fCons (fVar 0) fNil))) [some u, none, none, none] L = some (.nx [some u, none, none, none], L) := by
    have := hS.need hgd
    simp only [fDrop_eq, fOwn_eq, fCons_eq, fNil_eq, fVar_eq, List.getElem?_cons_zero, Option.join_some, Option.map_some, Option.bind_some, List.length_cons, List.length_nil, if_true, this]
  have s1 : (fAsg (fLRng2 (fCons (fC (.int 1)) (fCons (f2 semAdd (fCall semLen (fCons (fVar 0) fNil)) (fC (.int 1))) fNil))) (gN 1)) [some u, none, none, none] L = some (.nx [some u, some (.ref L.length), none, none], L ++ [.lst ((upto n).map U.int)]) := by
    have c1 : (fCons (fC (.int 1)) (fCons (f2 semAdd (fCall semLen (fCons (fVar 0) fNil)) (fC (.int 1))) fNil)) [some u, none, none, none] L = some ([.int 1, .int ((n : Int) + 1)], L) := by
      simp only [fCons_eq, fNil_eq, fC_eq, f2_eq, fCall_eq, fVar_eq, List.getElem?_cons_zero, Option.join_some, Option.map_some, Option.bind_some, hl0, semAdd_int]
    rw [fAsg_eq, lrng2_nat c1 (by omega), rangeU_upto]; rfl
  have s2 : (fAsg (fLst fNil) (gN 2)) [some u, some (.ref L.length), none, none] (L ++ [.lst ((upto n).map U.int)]) = some (.nx [some u, some (.ref L.length), some (.ref (L.length + 1)), none], L ++ [.lst ((upto n).map U.int)] ++ [.lst []]) := by
    have hl1 : (L ++ [HU.lst ((upto n).map U.int)]).length = L.length + 1 := by simp
    rw [fAsg_eq, fLst_eq, fNil_eq, Option.bind_some, if_pos sm0, hl1]; rfl
  have hi : fRngD (fCons (f2 semSub (fCall semLen (fCons (fVar 0) fNil)) (fC (.int 1))) (fCons (fNeg (fC (.int 1))) (fCons (fNeg (fC (.int 1))) fNil))) [some u, some (.ref L.length), some (.ref (L.length + 1)), none] (L ++ [.lst ((upto n).map U.int)] ++ [.lst []]) = some (.seq (downU ((n : Int) - 1) n), L ++ [.lst ((upto n).map U.int)] ++ [.lst []]) := by
    unfold fRngD
    simp only [fCons_eq, fNil_eq, f2_eq, fCall_eq, fVar_eq, fC_eq, fNeg_eq, List.getElem?_cons_succ, List.getElem?_cons_zero, Option.join_some, Option.map_some, Option.bind_some, hl2, semSub_int]
    rw [if_pos ⟨trivial, by omega, by omega, by omega, by omega⟩]
    have : ((n : Int) - 1 - -1).toNat = n := by omega
    rw [this]
  obtain ⟨δ', L', e, P⟩ := for_seq (us := downU ((n : Int) - 1) n) (body := b_row_of_1) (g := gN 3)
    (fun k δ' L' => ∃ (y3 : Option U) (l B : List Int), δ' = [some u, some (.ref L.length), some (.ref (L.length + 1)), y3] ∧ L'[L.length]? = some (.lst (l.map U.int)) ∧ L'[L.length + 1]? = some (.lst (B.map U.int)) ∧ l.length = n - k ∧ B.length = k ∧ rb cs (n - k) l ++ B.reverse = rb cs n (upto n) ∧ Gw L L')
    hi ⟨none, upto n, [], rfl, by simp, by simp, by simp, rfl, by simp, ⟨[.lst ((upto n).map U.int), .lst []], by simp⟩⟩
    (fun k v δ M hu hP => by
      obtain ⟨y3, l, B, hδ, h1, h2, h3, h4, h5, gM⟩ := hP
      subst hδ
      have hk : k < n := by
        have := (List.getElem?_eq_some_iff.mp hu).1
        unfold downU at this
        simpa using this
      rw [downU_at hk] at hu
      cases hu
      obtain ⟨p, hp⟩ : ∃ p, n - k = p + 1 := ⟨n - k - 1, by omega⟩
      have hpu : (n : Int) - 1 - (k : Int) = (p : Int) := by omega
      rw [hpu]
      have hbp := hb p (by omega)
      unfold bad at hbp
      simp only [Bool.or_eq_false_iff, decide_eq_false_iff_not] at hbp
      have hix := (hS.mono gM).ix (k := p) (by omega)
      have hidx : (p : Int) - cs.getD p 0 = ((p - (cs.getD p 0).toNat : Nat) : Int) := by omega
      have pp := pop_ok (i := ((p - (cs.getD p 0).toNat : Nat) : Int)) h1 (by omega) (by rw [List.length_map]; omega) (by rw [List.length_map]; omega)
      have hlt : p - (cs.getD p 0).toNat < l.length := by omega
      have hval : (l.map U.int)[((p - (cs.getD p 0).toNat : Nat) : Int).toNat]'(by simp; omega) = .int (l.getD (p - (cs.getD p 0).toNat) 0) := by
        simp only [Int.toNat_natCast, List.getElem_map]
        rw [List.getD_eq_getElem?_getD (l := l), List.getElem?_eq_getElem hlt]
        rfl
      rw [hval, Int.toNat_natCast, eraseIdx_mapU] at pp
      generalize hM1 : M.set L.length (.lst ((l.eraseIdx (p - (cs.getD p 0).toNat)).map U.int)) = M1 at pp
      have k1 : M1[L.length]? = some (.lst ((l.eraseIdx (p - (cs.getD p 0).toNat)).map U.int)) := by rw [← hM1]; exact List.getElem?_set_self (List.getElem?_eq_some_iff.mp h1).1
      have k2 : M1[L.length + 1]? = some (.lst (B.map U.int)) := by rw [← hM1, List.getElem?_set_ne (by omega)]; exact h2
      have g1 : Gw L M1 := by rw [← hM1]; exact gM.set (Nat.le_refl _) _
      have ap := append_ok (.int (l.getD (p - (cs.getD p 0).toNat) 0)) k2 (by rw [List.length_map]; omega)
      have hx : B.map U.int ++ [.int (l.getD (p - (cs.getD p 0).toNat) 0)] = (B ++ [l.getD (p - (cs.getD p 0).toNat) 0]).map U.int := by simp
      rw [hx] at ap
      have ty1 := tyU_lst h1
      have ty2 := tyU_lst h2
      refine ⟨[some u, some (.ref L.length), some (.ref (L.length + 1)), some (.int (p : Int))], M, rfl, [some u, some (.ref L.length), some (.ref (L.length + 1)), some (.int (p : Int))], M1.set (L.length + 1) (.lst ((B ++ [l.getD (p - (cs.getD p 0).toNat) 0]).map U.int)), .inl ?_, _, l.eraseIdx (p - (cs.getD p 0).toNat), B ++ [l.getD (p - (cs.getD p 0).toNat) 0], rfl, ?_, ?_, ?_, ?_, ?_, ?_⟩
      · unfold b_row_of_1
        simp only [fDrop_eq, fMeth_eq, fVar_eq, fCons_eq, fNil_eq, f2_eq, List.getElem?_cons_succ, List.getElem?_cons_zero, Option.join_some, Option.map_some, Option.bind_some, ty1, ty2, if_true, hix, semSub_int, hidx, pp, ap]
      · rw [List.getElem?_set_ne (by omega)]; exact k1
      · exact List.getElem?_set_self (List.getElem?_eq_some_iff.mp k2).1
      · rw [List.length_eraseIdx_of_lt hlt]; omega
      · rw [List.length_append, h4]; rfl
      · rw [← h5, hp, show n - (k + 1) = p by omega, List.reverse_append]
        show _ = (rb cs p (l.eraseIdx (p - (cs.getD p 0).toNat)) ++ [l.getD (p - (cs.getD p 0).toNat) 0]) ++ B.reverse
        simp
      · exact g1.set (by omega) _)
  obtain ⟨y3, l, B, hδ, h1, h2, h3, h4, h5, gM⟩ := P
  have hnl : (downU ((n : Int) - 1) n).length = n := by unfold downU; simp
  rw [hnl, Nat.sub_self] at h5
  have h5' : B.reverse = rb cs n (upto n) := h5
  rw [hδ] at e
  have ht : (fTRev (fCons (fVar 2) fNil)) [some u, some (.ref L.length), some (.ref (L.length + 1)), y3] L' = some (.tup ((rb cs n (upto n)).map U.int), L') := by
    unfold fTRev
    simp only [fCons_eq, fNil_eq, fVar_eq, List.getElem?_cons_succ, List.getElem?_cons_zero, Option.join_some, Option.map_some, Option.bind_some, seqAt_lst h2, ← h5', List.map_reverse]
  refine ⟨L', ?_, gM⟩
  unfold m_row_of fnU b_row_of
  simp only [List.length_cons, List.length_nil, if_true, List.map_cons, List.map_nil, List.replicate, List.cons_append, List.nil_append]
  rw [fSeq_nx s0, fSeq_nx s1, fSeq_nx s2, fSeq_nx e, fRet_eq, ht]
  rfl
theorem nth_while {M : UH} {q r k : Nat} {ds : List Nat} {ws : List Int} {left : Int} (hq : M[q]? = some (.lst (ds.map U.ref))) (hr : ds[k + 1]? = some r) (hd : M[r]? = some (.lst (ws.map U.int))) (x0 x1 x2 x4 : Option U) :
    ∀ (f own : Nat) (ahead : Int) (n : Nat), sumL ws left (own + f) - sumL ws left own ≤ ahead → ahead < sumL ws left (own + f + 1) - sumL ws left own → (∀ i, own ≤ i → i < own + f → sumL ws left (i + 1) - sumL ws left own ≤ ahead) → f < n →
      whileU b_nth_row_2c b_nth_row_2 n [x0, x1, x2, some (.ref q), x4, some (.int left), some (.int ahead), some (.int (k : Int)), some (.int (own : Int))] M
        = some (.nx [x0, x1, x2, some (.ref q), x4, some (.int left), some (.int (ahead - (sumL ws left (own + f) - sumL ws left own))), some (.int (k : Int)), some (.int ((own + f : Nat) : Int))], M) := by
  have hix : semIx (.ref q) (.int ((k : Int) + 1)) M = some (.ref r, M) := by
    rw [semIx_ref, seqAt_lst hq, Option.bind_some]
    have : ((k : Int) + 1) = ((k + 1 : Nat) : Int) := by omega
    rw [this, ix_nat (u := .ref r) (by rw [List.getElem?_map, hr]; rfl)]
    rfl
  have hw : ∀ (own : Nat) (ahead : Int), (fOwn 2 m_ways_to (fCons (f2 semIx (fVar 3) (f2 semAdd (fVar 7) (fC (.int 1)))) (fCons (f2 semSub (fVar 5) (fVar 8)) fNil))) [x0, x1, x2, some (.ref q), x4, some (.int left), some (.int ahead), some (.int (k : Int)), some (.int (own : Int))] M = some (.int (tailv ws (left - (own : Int))), M) := by
    intro own ahead
    refine own2 (u := .ref r) (w := .int (left - (own : Int))) (L1 := M) (L2 := M) ?_ rfl (ways_to_ok _ hd)
    simp only [f2_eq, fVar_eq, fC_eq, List.getElem?_cons_succ, List.getElem?_cons_zero, Option.join_some, Option.map_some, Option.bind_some, semAdd_int, hix]
  have hc : ∀ (own : Nat) (ahead : Int), b_nth_row_2c [x0, x1, x2, some (.ref q), x4, some (.int left), some (.int ahead), some (.int (k : Int)), some (.int (own : Int))] M = some (decide (tailv ws (left - (own : Int)) ≤ ahead), M) := by
    intro own ahead
    unfold b_nth_row_2c
    have v6 : fVar 6 [x0, x1, x2, some (.ref q), x4, some (.int left), some (.int ahead), some (.int (k : Int)), some (.int (own : Int))] M = some (.int ahead, M) := rfl
    rw [fTest_eq, f2_eq, v6, Option.bind_some, hw, Option.bind_some]
    rfl
  have hb : ∀ (own : Nat) (ahead : Int), b_nth_row_2 [x0, x1, x2, some (.ref q), x4, some (.int left), some (.int ahead), some (.int (k : Int)), some (.int (own : Int))] M = some (.nx [x0, x1, x2, some (.ref q), x4, some (.int left), some (.int (ahead - tailv ws (left - (own : Int)))), some (.int (k : Int)), some (.int ((own + 1 : Nat) : Int))], M) := by
    intro own ahead
    have v6 : fVar 6 [x0, x1, x2, some (.ref q), x4, some (.int left), some (.int ahead), some (.int (k : Int)), some (.int (own : Int))] M = some (.int ahead, M) := rfl
    have e1 : (f2 semSub (fVar 6) (fOwn 2 m_ways_to (fCons (f2 semIx (fVar 3) (f2 semAdd (fVar 7) (fC (.int 1)))) (fCons (f2 semSub (fVar 5) (fVar 8)) fNil)))) [x0, x1, x2, some (.ref q), x4, some (.int left), some (.int ahead), some (.int (k : Int)), some (.int (own : Int))] M = some (.int (ahead - tailv ws (left - (own : Int))), M) := by
      rw [f2_eq, v6, Option.bind_some, hw]; rfl
    have s1 := setN (i := 6) e1
    simp only [List.set_cons_succ, List.set_cons_zero] at s1
    unfold b_nth_row_2
    rw [fSeq_nx s1]
    rfl
  intro f
  induction f with
  | zero =>
    intro own ahead n h1 h2 h3 h4
    obtain ⟨n, rfl⟩ : ∃ n', n = n' + 1 := ⟨n - 1, by omega⟩
    unfold whileU
    rw [Nat.add_zero, sumL_succ] at h2
    have : ¬ tailv ws (left - (own : Int)) ≤ ahead := by omega
    rw [hc, decide_eq_false this, Nat.add_zero, Int.sub_self, Int.sub_zero]
    rfl
  | succ f ih =>
    intro own ahead n h1 h2 h3 h4
    obtain ⟨n, rfl⟩ : ∃ n', n = n' + 1 := ⟨n - 1, by omega⟩
    unfold whileU
    have hs := sumL_succ ws left own
    have h5 := h3 own (by omega) (by omega)
    have : tailv ws (left - (own : Int)) ≤ ahead := by omega
    rw [hc, decide_eq_true this, Option.bind_some, if_pos rfl, hb, Option.bind_some]
    dsimp only
    rw [show own + (f + 1) = own + 1 + f by omega] at h1 h2 ⊢
    rw [ih (own + 1) (ahead - tailv ws (left - (own : Int))) n (by omega) (by omega) (fun i a b => by have := h3 i (by omega) (by omega); omega) (by omega)]
    have e : ahead - tailv ws (left - (own : Int)) - (sumL ws left (own + 1 + f) - sumL ws left (own + 1)) = ahead - (sumL ws left (own + 1 + f) - sumL ws left own) := by omega
    rw [e]
end Lw
set_option Elab.async false
set_option linter.all false
set_option maxRecDepth 100000
set_option maxHeartbeats 1000000
namespace Lw
open PySem L2 MR
theorem nth_ok {cs : List Int} (hm : cs.length ≤ 12) (hg : good cs) (L : UH) : ∃ L', m_nth_row [.int (cs.length : Int), .int cs.sum, .int (ahv cs cs.length)] L = some (.tup ((rb cs cs.length (upto cs.length)).map U.int), L') ∧ Gw L L' := by
  obtain ⟨q, ds, L1, e1, hq, hdl, hds, g1⟩ := from_each_all hm L
  have r0 := rest_ok hm hg cs.length 0 (by omega)
  have a0 : ahv cs 0 = 0 := rfl
  have l0 : leftv cs 0 = cs.sum := by unfold leftv; simp
  unfold rest at r0
  rw [a0, l0, Int.sub_zero] at r0
  have s1 : (fAsg (fOwn 1 m_ways_from_each (fCons (fVar 0) fNil)) (gN 3)) [some (.int (cs.length : Int)), some (.int cs.sum), some (.int (ahv cs cs.length)), none, none, none, none, none, none] L = some (.nx [some (.int (cs.length : Int)), some (.int cs.sum), some (.int (ahv cs cs.length)), some (.ref q), none, none, none, none, none], L1) := setN (own1 rfl e1)
  obtain ⟨r, hr1, hr2⟩ := hds 0 (by omega)
  rw [Nat.sub_zero] at hr2
  have hix0 : semIx (.ref q) (.int 0) L1 = some (.ref r, L1) := by
    rw [semIx_ref, seqAt_lst hq, Option.bind_some]
    have := ix_nat (l := ds.map U.ref) (k := 0) (u := .ref r) (by rw [List.getElem?_map, hr1]; rfl)
    have h0 : ((0 : Nat) : Int) = 0 := rfl
    rw [h0] at this
    rw [this]
    rfl
  have s2 : (fIfS (fOr (fTest (f2 semLt (fVar 2) (fC (.int 0)))) (fTest (f2 semGe (fVar 2) (fOwn 2 m_ways_to (fCons (f2 semIx (fVar 3) (fC (.int 0))) (fCons (fVar 1) fNil)))))) fNever fNext) [some (.int (cs.length : Int)), some (.int cs.sum), some (.int (ahv cs cs.length)), some (.ref q), none, none, none, none, none] L1 = some (.nx [some (.int (cs.length : Int)), some (.int cs.sum), some (.int (ahv cs cs.length)), some (.ref q), none, none, none, none, none], L1) := by
    refine if_no ?_
    have t1 : (fTest (f2 semLt (fVar 2) (fC (.int 0)))) [some (.int (cs.length : Int)), some (.int cs.sum), some (.int (ahv cs cs.length)), some (.ref q), none, none, none, none, none] L1 = some (decide (ahv cs cs.length < 0), L1) := rfl
    have w1 : (fOwn 2 m_ways_to (fCons (f2 semIx (fVar 3) (fC (.int 0))) (fCons (fVar 1) fNil))) [some (.int (cs.length : Int)), some (.int cs.sum), some (.int (ahv cs cs.length)), some (.ref q), none, none, none, none, none] L1 = some (.int (tailv (Wj cs.length cs.length) cs.sum), L1) := by
      refine own2 (u := .ref r) (w := .int cs.sum) (L1 := L1) (L2 := L1) ?_ rfl (ways_to_ok _ hr2)
      simp only [f2_eq, fVar_eq, fC_eq, List.getElem?_cons_succ, List.getElem?_cons_zero, Option.join_some, Option.map_some, Option.bind_some, hix0]
    have t2 : (fTest (f2 semGe (fVar 2) (fOwn 2 m_ways_to (fCons (f2 semIx (fVar 3) (fC (.int 0))) (fCons (fVar 1) fNil))))) [some (.int (cs.length : Int)), some (.int cs.sum), some (.int (ahv cs cs.length)), some (.ref q), none, none, none, none, none] L1 = some (decide (tailv (Wj cs.length cs.length) cs.sum ≤ ahv cs cs.length), L1) := by
      have v2 : fVar 2 [some (.int (cs.length : Int)), some (.int cs.sum), some (.int (ahv cs cs.length)), some (.ref q), none, none, none, none, none] L1 = some (.int (ahv cs cs.length), L1) := rfl
      rw [fTest_eq, f2_eq, v2, Option.bind_some, w1, Option.bind_some]
      rfl
    rw [fOr_eq, t1, decide_eq_false (by omega), Option.bind_some, if_neg (by simp), t2, decide_eq_false (by omega)]
  have s3 : (fAsg (fLst fNil) (gN 4)) [some (.int (cs.length : Int)), some (.int cs.sum), some (.int (ahv cs cs.length)), some (.ref q), none, none, none, none, none] L1 = some (.nx [some (.int (cs.length : Int)), some (.int cs.sum), some (.int (ahv cs cs.length)), some (.ref q), some (.ref L1.length), none, none, none, none], L1 ++ [.lst []]) := setN (lst_ok rfl (by simp))
  have s4 : (fAsg (fVar 1) (gN 5)) [some (.int (cs.length : Int)), some (.int cs.sum), some (.int (ahv cs cs.length)), some (.ref q), some (.ref L1.length), none, none, none, none] (L1 ++ [.lst []]) = some (.nx [some (.int (cs.length : Int)), some (.int cs.sum), some (.int (ahv cs cs.length)), some (.ref q), some (.ref L1.length), some (.int cs.sum), none, none, none], L1 ++ [.lst []]) := rfl
  have s5 : (fAsg (fVar 2) (gN 6)) [some (.int (cs.length : Int)), some (.int cs.sum), some (.int (ahv cs cs.length)), some (.ref q), some (.ref L1.length), some (.int cs.sum), none, none, none] (L1 ++ [.lst []]) = some (.nx [some (.int (cs.length : Int)), some (.int cs.sum), some (.int (ahv cs cs.length)), some (.ref q), some (.ref L1.length), some (.int cs.sum), some (.int (ahv cs cs.length)), none, none], L1 ++ [.lst []]) := rfl
  have hi : fRng1 (fCons (fVar 0) fNil) [some (.int (cs.length : Int)), some (.int cs.sum), some (.int (ahv cs cs.length)), some (.ref q), some (.ref L1.length), some (.int cs.sum), some (.int (ahv cs cs.length)), none, none] (L1 ++ [.lst []]) = some (.seq (rangeU 0 cs.length), L1 ++ [.lst []]) := rng1_nat rfl (by omega)
  obtain ⟨δ', L', e, P⟩ := for_seq (us := rangeU 0 cs.length) (body := b_nth_row_1) (g := gN 7)
    (fun k δ' L' => ∃ (y7 y8 : Option U), δ' = [some (.int (cs.length : Int)), some (.int cs.sum), some (.int (ahv cs cs.length)), some (.ref q), some (.ref L1.length), some (.int (leftv cs k)), some (.int (rest cs k)), y7, y8] ∧ L'[L1.length]? = some (.lst ((cs.take k).map U.int)) ∧ Gw L1 L') hi
    ⟨none, none, by unfold rest; rw [a0, l0, Int.sub_zero], by simp, Gw.new L1 _⟩
    (fun k u δ M hu hP => by
      obtain ⟨y7, y8, hδ, h1, gM⟩ := hP
      subst hδ
      have hk : k < cs.length := by
        have := (List.getElem?_eq_some_iff.mp hu).1
        unfold rangeU at this
        simpa using this
      have hue : u = .int (k : Int) := by
        unfold rangeU at hu
        rw [List.getElem?_map, List.getElem?_range hk] at hu
        have : u = U.int ((0 : Int) + (k : Nat)) := (Option.some.inj hu).symm
        rw [Int.zero_add] at this
        exact this
      subst hue
      obtain ⟨r, hr1, hr2⟩ := hds (k + 1) (by omega)
      obtain ⟨c1, c2⟩ := good_at hg hk
      obtain ⟨c, hc⟩ : ∃ c : Nat, cs.getD k 0 = c := ⟨(cs.getD k 0).toNat, by omega⟩
      have ro := rest_ok hm hg (cs.length - (k + 1)) (k + 1) (by omega)
      have ae := ahv_succ cs k
      rw [leftv_succ hk] at ro
      rw [hc, Int.toNat_natCast] at ae
      rw [hc] at ro
      have hup := fun a b h => sumL_up hm (by omega : cs.length - (k + 1) ≤ 12) (leftv cs k) a b h
      have z : sumL (Wj cs.length (cs.length - (k + 1))) (leftv cs k) 0 = 0 := rfl
      have ss := sumL_succ (Wj cs.length (cs.length - (k + 1))) (leftv cs k) c
      have w := nth_while (left := leftv cs k) (gM.get hq) hr1 (gM.get hr2) (some (.int (cs.length : Int))) (some (.int cs.sum)) (some (.int (ahv cs cs.length))) (some (.ref L1.length)) c 0 (rest cs k) 100000
        (by rw [Nat.zero_add, z]; unfold rest at ro ⊢; omega) (by rw [Nat.zero_add, z]; unfold rest at ro ⊢; omega) (fun i _ b => by rw [z]; have := hup (i + 1) c (by omega); unfold rest at ro ⊢; omega) (by omega)
      rw [Nat.zero_add, z, Int.sub_zero] at w
      have er : rest cs k - sumL (Wj cs.length (cs.length - (k + 1))) (leftv cs k) c = rest cs (k + 1) := by unfold rest; omega
      rw [er] at w
      have ap := append_ok (.int (c : Int)) h1 (by simp; omega)
      have hx : (cs.take k).map U.int ++ [.int (c : Int)] = (cs.take (k + 1)).map U.int := by rw [take_one hk, hc]; simp
      rw [hx] at ap
      have ty := tyU_lst h1
      refine ⟨[some (.int (cs.length : Int)), some (.int cs.sum), some (.int (ahv cs cs.length)), some (.ref q), some (.ref L1.length), some (.int (leftv cs k)), some (.int (rest cs k)), some (.int (k : Int)), y8], M, rfl, [some (.int (cs.length : Int)), some (.int cs.sum), some (.int (ahv cs cs.length)), some (.ref q), some (.ref L1.length), some (.int (leftv cs (k + 1))), some (.int (rest cs (k + 1))), some (.int (k : Int)), some (.int (c : Int))], M.set L1.length (.lst ((cs.take (k + 1)).map U.int)), .inl ?_, _, _, rfl, List.getElem?_set_self (List.getElem?_eq_some_iff.mp h1).1, gM.set (Nat.le_refl _) _⟩
      have t1 : (fAsg (fC (.int 0)) (gN 8)) [some (.int (cs.length : Int)), some (.int cs.sum), some (.int (ahv cs cs.length)), some (.ref q), some (.ref L1.length), some (.int (leftv cs k)), some (.int (rest cs k)), some (.int (k : Int)), y8] M = some (.nx [some (.int (cs.length : Int)), some (.int cs.sum), some (.int (ahv cs cs.length)), some (.ref q), some (.ref L1.length), some (.int (leftv cs k)), some (.int (rest cs k)), some (.int (k : Int)), some (.int ((0 : Nat) : Int))], M) := rfl
      have t3 : (fDrop (fMeth "list" semAppend (fVar 4) (fCons (fVar 8) fNil))) [some (.int (cs.length : Int)), some (.int cs.sum), some (.int (ahv cs cs.length)), some (.ref q), some (.ref L1.length), some (.int (leftv cs k)), some (.int (rest cs (k + 1))), some (.int (k : Int)), some (.int (c : Int))] M = some (.nx [some (.int (cs.length : Int)), some (.int cs.sum), some (.int (ahv cs cs.length)), some (.ref q), some (.ref L1.length), some (.int (leftv cs k)), some (.int (rest cs (k + 1))), some (.int (k : Int)), some (.int (c : Int))], M.set L1.length (.lst ((cs.take (k + 1)).map U.int))) := by
        simp only [fDrop_eq, fMeth_eq, fVar_eq, fCons_eq, fNil_eq, List.getElem?_cons_succ, List.getElem?_cons_zero, Option.join_some, Option.map_some, Option.bind_some, ty, if_true, ap]
      have el : leftv cs (k + 1) = leftv cs k - (c : Int) := by rw [leftv_succ hk, hc]
      unfold b_nth_row_1
      rw [fSeq_nx t1, fSeq_nx w, fSeq_nx t3, el]
      rfl)
  obtain ⟨y7, y8, hδ, h1, gM⟩ := P
  have hnl : (rangeU 0 cs.length).length = cs.length := by unfold rangeU; simp
  rw [hnl, List.take_length] at h1
  rw [hnl] at hδ
  rw [hδ] at e
  obtain ⟨L6, e6, g6⟩ := row_of_ok (u := .ref L1.length) (cs := cs) (.inr ⟨_, rfl, h1⟩) (by omega) hg
  refine ⟨L6, ?_, g1.trans (gM.trans g6)⟩
  unfold m_nth_row fnU b_nth_row
  simp only [List.length_cons, List.length_nil, if_true, List.map_cons, List.map_nil, List.replicate, List.cons_append, List.nil_append]
  rw [fSeq_nx s1, fSeq_nx s2, fSeq_nx s3, fSeq_nx s4, fSeq_nx s5, fSeq_nx e, fRet_eq, own1 rfl e6]
  rfl
end Lw
set_option Elab.async false
set_option linter.all false
set_option maxRecDepth 100000
set_option maxHeartbeats 1000000
namespace Lw
open PySem L2 MR
noncomputable abbrev sumc (row : List Int) : Int := (cntv row).sum
noncomputable abbrev gr (l : List Int) (v : Int) : Nat := (l.filter fun o => decide (v < o)).length
theorem sumc_snoc (r : List Int) (v : Int) : sumc (r ++ [v]) = sumc r + (gr r v : Int) := by
  unfold sumc
  rw [cnt_app, List.sum_append]
  simp
theorem snoc_ind {P : List Int → Prop} (h0 : P []) (h1 : ∀ r v, P r → P (r ++ [v])) (l : List Int) : P l := by
  have : ∀ n (l : List Int), l.length = n → P l := by
    intro n
    induction n with
    | zero => intro l hl; rw [List.length_eq_zero_iff.mp hl]; exact h0
    | succ n ih =>
      intro l hl
      have hne : l ≠ [] := by intro h; rw [h] at hl; simp at hl
      rw [← List.dropLast_concat_getLast hne]
      exact h1 _ _ (ih _ (by rw [List.length_dropLast]; omega))
  exact this _ l rfl
theorem gr_app (a b : List Int) (v : Int) : gr (a ++ b) v = gr a v + gr b v := by unfold gr; rw [List.filter_append, List.length_append]
theorem gr_perm {a b : List Int} (h : a.Perm b) (v : Int) : gr a v = gr b v := (h.filter _).length_eq
theorem gr_one (a v : Int) : gr [a] v = if v < a then 1 else 0 := by
  unfold gr
  by_cases h : v < a <;> simp [h]
theorem sumc_cons (v : Int) : ∀ s : List Int, sumc (v :: s) = sumc s + (((s.filter fun o => decide (o < v)).length : Nat) : Int) := by
  refine snoc_ind ?_ ?_
  · rfl
  · intro r w ih
    rw [← List.cons_append, sumc_snoc, sumc_snoc, ih, List.filter_append, List.length_append]
    have e : gr (v :: r) w = gr [v] w + gr r w := gr_app [v] r w
    rw [e, gr_one]
    by_cases h : w < v
    · simp [h]; omega
    · simp [h]; omega
theorem both (v : Int) : ∀ r : List Int, v ∉ r → gr r v + (r.filter fun o => decide (o < v)).length = r.length
  | [], _ => rfl
  | x :: t, h => by
    have h1 : v ≠ x := fun e => h (by rw [e]; exact List.mem_cons_self)
    have ih := both v t fun q => h (List.mem_cons_of_mem _ q)
    unfold gr at *
    by_cases c : v < x
    · have c2 : ¬ x < v := by omega
      simp [c, c2]; omega
    · have c2 : x < v := by omega
      simp [c, c2]; omega
theorem sumc_rev : ∀ row : List Int, row.Nodup → 2 * (sumc row.reverse + sumc row) = (row.length : Int) * ((row.length : Int) - 1) := by
  refine snoc_ind ?_ ?_
  · intro _; rfl
  · intro r v ih hn
    have hn' := List.nodup_append.mp hn
    have hv : v ∉ r := fun q => hn'.2.2 v q v (List.mem_singleton.mpr rfl) rfl
    have i := ih hn'.1
    have b := both v r hv
    have fr : (r.reverse.filter fun o => decide (o < v)).length = (r.filter fun o => decide (o < v)).length := ((List.reverse_perm r).filter _).length_eq
    rw [List.reverse_append, List.reverse_singleton, List.singleton_append, sumc_cons, sumc_snoc, fr, List.length_append, List.length_singleton]
    generalize sumc r.reverse = A at *
    generalize sumc r = B at *
    generalize gr r v = C at *
    generalize (r.filter fun o => decide (o < v)).length = D at *
    have e : ((r.length + 1 : Nat) : Int) * (((r.length + 1 : Nat) : Int) - 1) = (r.length : Int) * ((r.length : Int) - 1) + 2 * (r.length : Int) := by
      have : ((r.length + 1 : Nat) : Int) = (r.length : Int) + 1 := by omega
      rw [this, Int.add_sub_cancel, Int.mul_sub, Int.add_mul, Int.one_mul, Int.mul_one]
      omega
    rw [e, ← i]
    omega
theorem sumc_swap (p : List Int) (a b : Int) (h : a ≠ b) : ∀ q : List Int, sumc (p ++ ([b, a] ++ q)) - sumc (p ++ ([a, b] ++ q)) = if a < b then 1 else -1 := by
  refine snoc_ind ?_ ?_
  · have e1 : p ++ ([b, a] ++ []) = (p ++ [b]) ++ [a] := by simp
    have e2 : p ++ ([a, b] ++ []) = (p ++ [a]) ++ [b] := by simp
    rw [e1, e2, sumc_snoc, sumc_snoc, sumc_snoc, sumc_snoc, gr_app, gr_app, gr_one, gr_one]
    by_cases c : a < b
    · have c2 : ¬ b < a := by omega
      simp [c, c2]; omega
    · have c2 : b < a := by omega
      simp [c, c2]; omega
  · intro q w ih
    have e1 : p ++ ([b, a] ++ (q ++ [w])) = (p ++ ([b, a] ++ q)) ++ [w] := by simp
    have e2 : p ++ ([a, b] ++ (q ++ [w])) = (p ++ ([a, b] ++ q)) ++ [w] := by simp
    rw [e1, e2, sumc_snoc, sumc_snoc]
    have : gr (p ++ ([b, a] ++ q)) w = gr (p ++ ([a, b] ++ q)) w := gr_perm (List.Perm.append_left p (List.Perm.append_right q (List.Perm.swap a b []))) w
    rw [this]
    omega
theorem rb_congr {cs ds : List Int} : ∀ n (l : List Int), (∀ i, i < n → cs.getD i 0 = ds.getD i 0) → rb cs n l = rb ds n l
  | 0, _, _ => rfl
  | n + 1, l, h => by
    unfold rb
    rw [h n (by omega), rb_congr n _ fun i hi => h i (by omega)]
theorem rb_map (cs : List Int) (f : Int → Int) : ∀ n (l : List Int), l.length = n → (rb cs n l).map f = rb cs n (l.map f)
  | 0, l, _ => rfl
  | n + 1, l, h => by
    unfold rb
    have hi : n - (cs.getD n 0).toNat < l.length := by omega
    rw [List.map_append, rb_map cs f n _ (by rw [List.length_eraseIdx_of_lt hi]; omega), eraseIdx_mapU]
    generalize n - (cs.getD n 0).toNat = i at hi
    congr 1
    rw [List.map_singleton, List.getD_eq_getElem?_getD, List.getD_eq_getElem?_getD, List.getElem?_map, List.getElem?_eq_getElem hi]
    rfl
theorem gr_at {l : List Int} {i : Nat} (h : i < l.length) (hp : l.Pairwise (· < ·)) : gr l l[i] = l.length - 1 - i := by
  rw [← above_len l i h hp]
  have e := erase_perm l i h
  have : gr (l[i] :: l.eraseIdx i) l[i] = gr (l.eraseIdx i) l[i] := by
    unfold gr
    rw [List.filter_cons_of_neg (by simp)]
  rw [← gr_perm e, this]
theorem rb_row : ∀ row : List Int, row.Nodup → ∀ l : List Int, l.Perm row → l.Pairwise (· < ·) → rb (cntv row) row.length l = row := by
  refine snoc_ind ?_ ?_
  · intro _ l _ _; rfl
  · intro r v ih hn l hl hp
    have hn' := List.nodup_append.mp hn
    have hv : v ∈ l := hl.mem_iff.mpr (List.mem_append_right _ (List.mem_singleton.mpr rfl))
    obtain ⟨i, hi, rfl⟩ := List.mem_iff_getElem.mp hv
    have hlen : l.length = r.length + 1 := by rw [hl.length_eq]; simp
    have g := gr_at hi hp
    rw [gr_perm hl, gr_app, gr_one, if_neg (by omega), Nat.add_zero] at g
    have cl : (cntv r).length = r.length := cntv_len r
    have hx : (cntv (r ++ [l[i]])).getD r.length 0 = (gr r l[i] : Int) := by
      rw [cnt_app, List.getD_eq_getElem?_getD, List.getElem?_append_right (by omega), cl, Nat.sub_self]
      rfl
    rw [List.length_append, List.length_singleton]
    unfold rb
    rw [hx, Int.toNat_natCast, g, hlen, show r.length - (r.length + 1 - 1 - i) = i by omega]
    have e2 : l.getD i 0 = l[i] := by rw [List.getD_eq_getElem?_getD, List.getElem?_eq_getElem hi]; rfl
    rw [e2]
    congr 1
    rw [rb_congr (ds := cntv r) _ _ fun j hj => by
      rw [cnt_app, List.getD_eq_getElem?_getD, List.getElem?_append_left (by omega), ← List.getD_eq_getElem?_getD]]
    refine ih hn'.1 _ ?_ (hp.sublist (List.eraseIdx_sublist _ _))
    have e := erase_perm l i hi
    exact List.Perm.cons_inv (a := l[i]) (e.trans (hl.trans (List.perm_append_singleton _ _)))
theorem sort_lt {row : List Int} (hn : row.Nodup) : (sortI row).Pairwise (· < ·) := by
  have h1 := sortI_up row
  have h2 : (sortI row).Nodup := (sortI_perm row).nodup_iff.mpr hn
  exact (h1.and h2).imp fun h => by omega
theorem ranks {row : List Int} (hn : row.Nodup) : (rb (cntv row) row.length (upto row.length)).map (fun x => (sortI row).getD (x - 1).toNat 0) = row := by
  have hl : (sortI row).length = row.length := (sortI_perm row).length_eq
  rw [rb_map _ _ _ _ (by simp)]
  have : (upto row.length).map (fun x => (sortI row).getD (x - 1).toNat 0) = sortI row := by
    unfold upto
    rw [List.map_map]
    apply List.ext_getElem
    · simp [hl]
    · intro i h1 h2
      simp only [List.getElem_map, List.getElem_range, Function.comp]
      rw [show ((1 : Int) + (i : Int) - 1).toNat = i by omega, List.getD_eq_getElem?_getD, List.getElem?_eq_getElem h2]
      rfl
  rw [this]
  exact rb_row row hn _ (sortI_perm row) (sort_lt hn)
theorem cntv_good (row : List Int) : good (cntv row) := by
  intro i hi
  rw [cntv_len] at hi
  have : (cntv row).getD i 0 = ((gtv row i : Nat) : Int) := by
    unfold cntv
    rw [List.getD_eq_getElem?_getD, List.getElem?_map, List.getElem?_range hi]; rfl
  have hle : gtv row i ≤ i := by
    unfold gtv
    exact Nat.le_trans (List.length_filter_le _ _) (by rw [List.length_take]; omega)
  unfold bad
  rw [this]
  simp
  omega
theorem back_cnt (row : List Int) : cntv (rb (cntv row) row.length (upto row.length)) = cntv row := by
  have := rb_cnt (cntv row) row.length (upto row.length) (by simp) (by rw [cntv_len]; exact Nat.le_refl _) (upto_up _) (fun i hi => cntv_good row i (by rw [cntv_len]; exact hi))
  rw [this, ← cntv_len row, List.take_length]
end Lw
set_option Elab.async false
set_option linter.all false
set_option maxRecDepth 100000
set_option maxHeartbeats 1000000
namespace Lw
open PySem L2 MR
noncomputable def r_many : FS := (fAsg (f2 semIx (fLst (fCons (fOwn 2 m_l_next (fCons (fVar 0) (fCons (f2 semAdd (fVar 1) (fC (.int 1))) fNil))) (fCons (fOwn 2 m_l_next (fCons (fVar 0) (fCons (fC (.int 7)) fNil))) (fCons (fVar 1) fNil)))) (fOwn 2 m_l_next (fCons (fVar 0) (fCons (fC (.int 3)) fNil)))) (gN 2))
theorem r_many_ok {L : UH} {d : Nat} {B : Int} {most : Nat} (D : Deck L d B) (hB : B ≤ 1000000000) (hm : most ≤ 200) (x2 x3 x4 x5 x6 x7 x8 x9 : Option U) :
    ∃ (n : Nat) (L' : UH), r_many [some (.ref d), some (.int most), x2, x3, x4, x5, x6, x7, x8, x9] L = some (.nx [some (.ref d), some (.int most), some (.int n), x3, x4, x5, x6, x7, x8, x9], L') ∧ n ≤ 200 ∧ n ≤ max most 6 ∧ Deck L' d (B + 3) ∧ Ex d L L' := by
  obtain ⟨i1, L1, e1, a1, b1, D1, y1⟩ := next_ok (many := (most : Int) + 1) D (by omega) (by omega) (by omega)
  obtain ⟨i2, K2, e2, a2, b2, D2, y2⟩ := next_ok (many := 7) D1 (by omega) (by decide) (by decide)
  obtain ⟨i3, L3, e3, a3, b3, D3, y3⟩ := next_ok (many := 3) (D2.new [HU.lst [.int i1, .int i2, .int most]]) (by omega) (by decide) (by decide)
  have hdl := D2.lt
  have q5 : seqAt L3 K2.length = some [.int i1, .int i2, .int most] := seqAt_lst (y3.get (i := K2.length) (by simp) (by omega))
  have hp : ∃ n : Nat, L2.atI [U.int i1, .int i2, .int most] i3 = some (.int n) ∧ n ≤ 200 ∧ n ≤ max most 6 := by
    have : i3 = 0 ∨ i3 = 1 ∨ i3 = 2 := by omega
    rcases this with rfl | rfl | rfl
    · refine ⟨i1.toNat, ?_, by omega, by omega⟩
      rw [Int.toNat_of_nonneg (by omega)]; rfl
    · refine ⟨i2.toNat, ?_, by omega, by omega⟩
      rw [Int.toNat_of_nonneg (by omega)]; rfl
    · exact ⟨most, rfl, hm, by omega⟩
  obtain ⟨n, hp, hn, hn6⟩ := hp
  refine ⟨n, L3, ?_, hn, hn6, D3.mono (by omega), ((y1.trans y2).trans (Ex.new d _ _)).trans y3⟩
  simp [r_many, e1, e2, small_of, e3, q5, hp]
noncomputable def r_wide : FS := (fAsg (f2 semIx (fLst (fCons (fC (.int 1)) (fCons (fC (.int 7)) (fCons (f2 semPow (fC (.int 10)) (fC (.int 6))) (fCons (f2 semDiv (fC (.int 19999999998)) (fCall semMax (fCons (fC (.int 1)) (fCons (fVar 2) fNil)))) fNil))))) (fVar 4)) (gN 5))
theorem r_wide_ok {L : UH} {n : Nat} {step : Int} (hn : n ≤ 200) (h0 : 0 ≤ step) (h1 : step < 4) (x0 x1 x3 x5 x6 x7 x8 x9 : Option U) :
    ∃ (w : Int) (y : UH), r_wide [x0, x1, some (.int n), x3, some (.int step), x5, x6, x7, x8, x9] L = some (.nx [x0, x1, some (.int n), x3, some (.int step), some (.int w), x6, x7, x8, x9], L ++ y) ∧ 0 < w := by
  obtain ⟨m, hm, m1, m2⟩ : ∃ m : Int, (∀ L, semMax [.int 1, .int n] L = some (.int m, L)) ∧ 1 ≤ m ∧ m ≤ 200 := by
    refine ⟨if (n : Int) > 1 then n else 1, fun _ => rfl, ?_, ?_⟩
    · split <;> omega
    · split <;> omega
  have hd : divOk 19999999998 m = true := by unfold divOk; simp only [Bool.and_eq_true, decide_eq_true_eq]; omega
  have hq : 0 < 19999999998 / m := by
    have := Int.le_ediv_of_mul_le (show 0 < m by omega) (show 1 * m ≤ 19999999998 by omega)
    omega
  generalize hqq : (19999999998 : Int) / m = q at hq
  have hdv : ∀ L, semDiv (.int 19999999998) (.int m) L = some (.int q, L) := fun L => by rw [semDiv_int, if_pos hd, hqq]
  have hp6 : powOk 10 6 = true := rfl
  have hl : (fLst (fCons (fC (.int 1)) (fCons (fC (.int 7)) (fCons (f2 semPow (fC (.int 10)) (fC (.int 6))) (fCons (f2 semDiv (fC (.int 19999999998)) (fCall semMax (fCons (fC (.int 1)) (fCons (fVar 2) fNil)))) fNil))))) [x0, x1, some (.int n), x3, some (.int step), x5, x6, x7, x8, x9] L = some (.ref L.length, L ++ [.lst [.int 1, .int 7, .int 1000000, .int q]]) := by
    simp [hp6, hm, hdv, small_of]
  have q5 : seqAt (L ++ [HU.lst [.int 1, .int 7, .int 1000000, .int q]]) L.length = some [.int 1, .int 7, .int 1000000, .int q] := seqAt_lst (by simp)
  have hv : ∃ w, L2.atI [U.int 1, .int 7, .int 1000000, .int q] step = some (.int w) ∧ 0 < w := by
    have : step = 0 ∨ step = 1 ∨ step = 2 ∨ step = 3 := by omega
    rcases this with rfl | rfl | rfl | rfl
    · exact ⟨_, rfl, by decide⟩
    · exact ⟨_, rfl, by decide⟩
    · exact ⟨_, rfl, by decide⟩
    · exact ⟨q, rfl, hq⟩
  obtain ⟨w, hv, hw⟩ := hv
  refine ⟨w, [.lst [.int 1, .int 7, .int 1000000, .int q]], ?_, hw⟩
  unfold r_wide
  rw [fAsg_eq, f2_eq, hl]
  simp only [Option.bind_some, fVar_eq, List.getElem?_cons_succ, List.getElem?_cons_zero, Option.join_some, Option.map_some, semIx_ref, q5, hv, gN_eq, List.set_cons_succ, List.set_cons_zero]
noncomputable def r_low : FS := (fAsg (f2 semIx (fLst (fCons (fC (.int 1)) (fCons (f2 semSub (fC (.int 0)) (fOwn 2 m_l_next (fCons (fVar 0) (fCons (fC (.int 99)) fNil)))) (fCons (f2 semSub (fC (.int 0)) (fC (.int 9999999999))) (fCons (f2 semSub (fC (.int 9999999999)) (f2 semMul (fC (.int 8)) (fVar 2))) fNil))))) (fOwn 2 m_l_next (fCons (fVar 0) (fCons (fC (.int 4)) fNil)))) (gN 6))
theorem r_low_ok {L : UH} {d n : Nat} {B : Int} (D : Deck L d B) (hB : B ≤ 1000000000) (x1 x3 x4 x5 x6 x7 x8 x9 : Option U) :
    ∃ (w : Int) (L' : UH), r_low [some (.ref d), x1, some (.int n), x3, x4, x5, x6, x7, x8, x9] L = some (.nx [some (.ref d), x1, some (.int n), x3, x4, x5, some (.int w), x7, x8, x9], L') ∧ Deck L' d (B + 2) ∧ Ex d L L' := by
  obtain ⟨i1, L1, e1, a1, b1, D1, y1⟩ := next_ok (many := 99) D (by omega) (by decide) (by decide)
  generalize hu : (9999999999 : Int) - 8 * (n : Int) = u
  obtain ⟨i2, K2, e2, a2, b2, D2, y2⟩ := next_ok (many := 4) (D1.new [HU.lst [.int 1, .int (0 - i1), .int (-9999999999), .int u]]) (by omega) (by decide) (by decide)
  have hdl := D1.lt
  have q5 : seqAt K2 L1.length = some [.int 1, .int (0 - i1), .int (-9999999999), .int u] := seqAt_lst (y2.get (i := L1.length) (by simp) (by omega))
  have hl : (fLst (fCons (fC (.int 1)) (fCons (f2 semSub (fC (.int 0)) (fOwn 2 m_l_next (fCons (fVar 0) (fCons (fC (.int 99)) fNil)))) (fCons (f2 semSub (fC (.int 0)) (fC (.int 9999999999))) (fCons (f2 semSub (fC (.int 9999999999)) (f2 semMul (fC (.int 8)) (fVar 2))) fNil))))) [some (.ref d), x1, some (.int n), x3, x4, x5, x6, x7, x8, x9] L = some (.ref L1.length, L1 ++ [.lst [.int 1, .int (0 - i1), .int (-9999999999), .int u]]) := by
    have c1 : (f2 semSub (fC (.int 0)) (fOwn 2 m_l_next (fCons (fVar 0) (fCons (fC (.int 99)) fNil)))) [some (.ref d), x1, some (.int n), x3, x4, x5, x6, x7, x8, x9] L = some (.int (0 - i1), L1) := by
      rw [f2_eq, fC_eq, Option.bind_some]
      simp only [fOwn_eq, fCons_eq, fNil_eq, fVar_eq, fC_eq, List.getElem?_cons_succ, List.getElem?_cons_zero, Option.join_some, Option.map_some, Option.bind_some, List.length_cons, List.length_nil, if_true, e1, semSub_int]
    have c2 : (f2 semSub (fC (.int 0)) (fC (.int 9999999999))) [some (.ref d), x1, some (.int n), x3, x4, x5, x6, x7, x8, x9] L1 = some (.int (-9999999999), L1) := rfl
    have c3 : (f2 semSub (fC (.int 9999999999)) (f2 semMul (fC (.int 8)) (fVar 2))) [some (.ref d), x1, some (.int n), x3, x4, x5, x6, x7, x8, x9] L1 = some (.int u, L1) := by
      rw [← hu]; rfl
    have sm4 : ∀ x y z t : U, small [x, y, z, t].length = true := fun _ _ _ _ => small_of (by show 4 ≤ 16777216; decide)
    rw [fLst_eq, fCons_eq, fC_eq, Option.bind_some, fCons_eq, c1, Option.bind_some, fCons_eq, c2, Option.bind_some, fCons_eq, c3]
    simp only [Option.bind_some, fNil_eq, Option.map_some]
    rw [if_pos (sm4 _ _ _ _)]
  have hv : ∃ w, L2.atI [U.int 1, .int (0 - i1), .int (-9999999999), .int u] i2 = some (.int w) := by
    have : i2 = 0 ∨ i2 = 1 ∨ i2 = 2 ∨ i2 = 3 := by omega
    rcases this with rfl | rfl | rfl | rfl <;> exact ⟨_, rfl⟩
  obtain ⟨w, hv⟩ := hv
  refine ⟨w, K2, ?_, D2.mono (by omega), (y1.trans (Ex.new d _ _)).trans y2⟩
  unfold r_low
  have c4 : (fOwn 2 m_l_next (fCons (fVar 0) (fCons (fC (.int 4)) fNil))) [some (.ref d), x1, some (.int n), x3, x4, x5, x6, x7, x8, x9] (L1 ++ [.lst [.int 1, .int (0 - i1), .int (-9999999999), .int u]]) = some (.int i2, K2) := by
    simp only [fOwn_eq, fCons_eq, fNil_eq, fVar_eq, fC_eq, List.getElem?_cons_succ, List.getElem?_cons_zero, Option.join_some, Option.map_some, Option.bind_some, List.length_cons, List.length_nil, if_true, e2]
  rw [fAsg_eq, f2_eq, hl, Option.bind_some, c4]
  simp only [Option.bind_some, semIx_ref, q5, hv, Option.map_some, gN_eq, List.set_cons_succ, List.set_cons_zero]
structure Lf (L0 L : UH) (d ℓ : Nat) (B : Int) (xs : List Int) : Prop where
  dk : Deck L d B
  at_ : L[ℓ]? = some (.lst (xs.map U.int))
  ge : L0.length ≤ ℓ
  gt : d < ℓ
  ex : Ex d L0 L
theorem turn_row {L0 L : UH} {d ℓ : Nat} {B low w : Int} {xs : List Int} (S : Lf L0 L d ℓ B xs) (hB : B ≤ 1000000000) (hw : 0 < w) (hl : xs.length < 1000) (x1 x2 x3 x4 x8 x9 : Option U) :
    ∃ (low' : Int) (L' : UH), b_l_row_2 [some (.ref d), x1, x2, x3, x4, some (.int w), some (.int low), some (.ref ℓ), x8, x9] L = some (.nx [some (.ref d), x1, x2, x3, x4, some (.int w), some (.int low'), some (.ref ℓ), x8, x9], L') ∧ Lf L0 L' d ℓ (B + 2) (xs ++ [low]) ∧ low < low' := by
  have g := S.gt
  have ap := append_ok (.int low) S.at_ (by simp; omega)
  have hx : xs.map U.int ++ [.int low] = (xs ++ [low]).map U.int := by simp
  rw [hx] at ap
  have ty := tyU_lst S.at_
  have s1 : (fDrop (fMeth "list" semAppend (fVar 7) (fCons (fVar 6) fNil))) [some (.ref d), x1, x2, x3, x4, some (.int w), some (.int low), some (.ref ℓ), x8, x9] L = some (.nx [some (.ref d), x1, x2, x3, x4, some (.int w), some (.int low), some (.ref ℓ), x8, x9], L.set ℓ (.lst ((xs ++ [low]).map U.int))) := by
    simp only [fDrop_eq, fMeth_eq, fVar_eq, fCons_eq, fNil_eq, List.getElem?_cons_succ, List.getElem?_cons_zero, Option.join_some, Option.map_some, Option.bind_some, ty, if_true, ap]
  have S1 : Lf L0 (L.set ℓ (.lst ((xs ++ [low]).map U.int))) d ℓ B (xs ++ [low]) := ⟨S.dk.set g _, List.getElem?_set_self (List.getElem?_eq_some_iff.mp S.at_).1, S.ge, g, S.ex.set S.ge _⟩
  obtain ⟨i1, L1, e1, a1, b1, D1, y1⟩ := next_ok (many := 100000) S1.dk (by omega) (by decide) (by decide)
  obtain ⟨i2, K2, e2, a2, b2, D2, y2⟩ := next_ok (many := 100000) D1 (by omega) (by decide) (by decide)
  have hp5 : powOk 10 5 = true := rfl
  have n1 : (fOwn 2 m_l_next (fCons (fVar 0) (fCons (f2 semPow (fC (.int 10)) (fC (.int 5))) fNil))) [some (.ref d), x1, x2, x3, x4, some (.int w), some (.int low), some (.ref ℓ), x8, x9] (L.set ℓ (.lst ((xs ++ [low]).map U.int))) = some (.int i1, L1) := by
    simp [hp5, e1, -List.map_append]
  have n2 : (fOwn 2 m_l_next (fCons (fVar 0) (fCons (f2 semPow (fC (.int 10)) (fC (.int 5))) fNil))) [some (.ref d), x1, x2, x3, x4, some (.int w), some (.int low), some (.ref ℓ), x8, x9] L1 = some (.int i2, K2) := by
    simp [hp5, e2]
  have hmul : mulOk i1 100000 = true := mulOk_r (by decide) (by decide)
  have p5 : (f2 semPow (fC (.int 10)) (fC (.int 5))) [some (.ref d), x1, x2, x3, x4, some (.int w), some (.int low), some (.ref ℓ), x8, x9] L1 = some (.int 100000, L1) := by simp [hp5]
  have hm0 : 0 ≤ (i1 * 100000 + i2) % w := Int.emod_nonneg _ (by omega)
  refine ⟨low + 1 + (i1 * 100000 + i2) % w, K2, ?_, ⟨D2.mono (by omega), y2.get (y1.get S1.at_ (by omega)) (by omega), S.ge, g, (S1.ex.trans y1).trans y2⟩, by omega⟩
  unfold b_l_row_2
  rw [fSeq_nx s1, fAsg_eq, f2_eq]
  have c1 : (f2 semAdd (fVar 6) (fC (.int 1))) [some (.ref d), x1, x2, x3, x4, some (.int w), some (.int low), some (.ref ℓ), x8, x9] (L.set ℓ (.lst ((xs ++ [low]).map U.int))) = some (.int (low + 1), L.set ℓ (.lst ((xs ++ [low]).map U.int))) := rfl
  rw [c1, Option.bind_some, f2_eq, f2_eq, f2_eq, n1, Option.bind_some, p5, Option.bind_some, semMul_int, if_pos hmul, Option.bind_some, n2]
  simp only [Option.bind_some, semAdd_int, fVar_eq, List.getElem?_cons_succ, List.getElem?_cons_zero, Option.join_some, Option.map_some, semMod_int, decide_eq_true hw, if_true, gN_eq, List.set_cons_succ, List.set_cons_zero]
noncomputable def r_loop : FS := (fFor (fRng1 (fCons (fVar 2) fNil)) (gN 8) b_l_row_2)
theorem r_loop_ok {L0 L : UH} {d ℓ n : Nat} {B low w : Int} (S : Lf L0 L d ℓ B []) (hB : B ≤ 100000000) (hw : 0 < w) (hn : n ≤ 200) (x1 x3 x4 x8 x9 : Option U) :
    ∃ (y6 y8 : Option U) (L' : UH) (xs : List Int), r_loop [some (.ref d), x1, some (.int n), x3, x4, some (.int w), some (.int low), some (.ref ℓ), x8, x9] L = some (.nx [some (.ref d), x1, some (.int n), x3, x4, some (.int w), y6, some (.ref ℓ), y8, x9], L') ∧ Lf L0 L' d ℓ (B + 400) xs ∧ xs.length = n ∧ xs.Nodup := by
  have hi : fRng1 (fCons (fVar 2) fNil) [some (.ref d), x1, some (.int n), x3, x4, some (.int w), some (.int low), some (.ref ℓ), x8, x9] L = some (.seq (rangeU 0 n), L) := rng1_nat rfl (by omega)
  obtain ⟨δ', L', e, P⟩ := for_seq (us := rangeU 0 n) (body := b_l_row_2) (g := gN 8) (fun k δ' L' => ∃ (low' : Int) (y8 : Option U) (xs : List Int), δ' = [some (.ref d), x1, some (.int n), x3, x4, some (.int w), some (.int low'), some (.ref ℓ), y8, x9] ∧ Lf L0 L' d ℓ (B + 2 * k) xs ∧ xs.length = k ∧ xs.Nodup ∧ ∀ x ∈ xs, x < low') hi ⟨low, x8, [], rfl, by simpa using S, rfl, List.nodup_nil, fun x h => by cases h⟩
    (fun k u δ M hu ⟨low', y8, xs, hδ, S', hl, hnd, hlt⟩ => by
      subst hδ
      obtain ⟨hk, rfl⟩ := rangeU_get hu
      obtain ⟨low2, M', e, S2, h2⟩ := turn_row (low := low') S' (by omega) hw (by omega) x1 (some (.int n)) x3 x4 (some (.int (0 + k))) x9
      refine ⟨[some (.ref d), x1, some (.int n), x3, x4, some (.int w), some (.int low'), some (.ref ℓ), some (.int (0 + k)), x9], M, rfl, _, M', .inl e, low2, _, xs ++ [low'], rfl, ?_, by simp [hl], ?_, fun x hx => ?_⟩
      · have : B + 2 * ((k + 1 : Nat) : Int) = B + 2 * (k : Int) + 2 := by omega
        rw [this]; exact S2
      · rw [List.nodup_append]
        refine ⟨hnd, by simp, fun a ha b hb q => ?_⟩
        have hb' : b = low' := by simpa using hb
        have := hlt a ha
        omega
      · rcases List.mem_append.mp hx with q | q
        · have := hlt x q; omega
        · have : x = low' := by simpa using q
          omega)
  obtain ⟨low', y8, xs, hδ, S', hl, hnd, _⟩ := P
  rw [rangeU_len] at S' hl
  rw [hδ] at e
  exact ⟨_, y8, L', xs, e, ⟨S'.dk.mono (by omega), S'.at_, S'.ge, S'.gt, S'.ex⟩, hl, hnd⟩
noncomputable def r_rev : FS := (fIfS (fTest (f2 semEq (fVar 3) (fC (.int 1)))) (fAsg (fRev (fVar 7)) (gN 7)) fNext)
theorem r_rev_ok {L0 L : UH} {d ℓ : Nat} {B way : Int} {xs : List Int} (S : Lf L0 L d ℓ B xs) (x0 x1 x2 x4 x5 x6 x8 x9 : Option U) :
    ∃ (ℓ' : Nat) (L' : UH) (ys : List Int), r_rev [x0, x1, x2, some (.int way), x4, x5, x6, some (.ref ℓ), x8, x9] L = some (.nx [x0, x1, x2, some (.int way), x4, x5, x6, some (.ref ℓ'), x8, x9], L') ∧ Lf L0 L' d ℓ' B ys ∧ ys.Perm xs := by
  have tt : (fTest (f2 semEq (fVar 3) (fC (.int 1)))) [x0, x1, x2, some (.int way), x4, x5, x6, some (.ref ℓ), x8, x9] L = some (way == 1, L) := by
    simp only [fTest_eq, f2_eq, fVar_eq, fC_eq, List.getElem?_cons_succ, List.getElem?_cons_zero, Option.join_some, Option.map_some, Option.bind_some, semEq_int]
  unfold r_rev
  rw [fIfS_eq, tt]
  cases hb : (way == 1) with
  | true =>
    have hq := seqAt_lst S.at_
    have dl := S.dk.lt
    have le := S.ex.le
    refine ⟨L.length, L ++ [.lst (xs.reverse.map U.int)], xs.reverse, ?_, ⟨S.dk.new _, by simp, le, dl, S.ex.trans (Ex.new d _ _)⟩, List.reverse_perm xs⟩
    have hr : fRev (fVar 7) [x0, x1, x2, some (.int way), x4, x5, x6, some (.ref ℓ), x8, x9] L = some (.ref L.length, L ++ [.lst (xs.reverse.map U.int)]) := by
      simp only [fRev_eq, fVar_eq, List.getElem?_cons_succ, List.getElem?_cons_zero, Option.join_some, Option.map_some, Option.bind_some, hq, List.map_reverse]
    rw [Option.bind_some, if_pos rfl, fAsg_eq, hr]
    rfl
  | false =>
    exact ⟨ℓ, L, xs, rfl, S, List.Perm.refl _⟩
noncomputable def r_pops : FS := (fIfS (fTest (f2 semGt (fVar 3) (fC (.int 1)))) (fAsg (fComp [none, some 7, some 0] (fRng1 (fCons (fVar 2) fNil)) (gN 0) none b_l_row_1e) (gN 7)) fNext)
theorem pops_turn {L0 M : UH} {d ℓ n k : Nat} {B : Int} {xs vs rest : List Int} (hg : d < ℓ) (hge : L0.length ≤ ℓ) (hB : B ≤ 100000000) (hk : k < n) (hn : n ≤ 200) (hlv : vs.length = k) (hlr : rest.length + k = n) (hp : (vs ++ rest).Perm xs) (hat : M[ℓ]? = some (.lst (rest.map U.int))) (DM : Deck M d (B + k)) (xM : Ex d L0 M) (z : Option U) :
    ∃ (r : Int) (M' : UH) (l' : List Int), b_l_row_1e [z, some (.ref ℓ), some (.ref d)] M = some (.int r, M') ∧ (vs ++ [r]).length = k + 1 ∧ l'.length + (k + 1) = n ∧ ((vs ++ [r]) ++ l').Perm xs ∧ M'[ℓ]? = some (.lst (l'.map U.int)) ∧ Deck M' d (B + (k + 1 : Nat)) ∧ Ex d L0 M' := by
  obtain ⟨r, M', l', e, D', hat', hl', _, _, hx', hperm⟩ := pop_turnP U.int DM (by omega) hg hat (by omega) (by omega) z
  refine ⟨r, M', l', ?_, by simp [hlv], by omega, ?_, hat', ?_, hx' L0 xM hge⟩
  · unfold b_l_row_1e; exact e
  · refine List.Perm.trans ?_ hp
    rw [List.append_assoc]
    exact List.Perm.append_left vs hperm
  · have : B + ((k + 1 : Nat) : Int) = B + (k : Int) + 1 := by omega
    rw [this]; exact D'
theorem pops_comp {L0 L : UH} {d ℓ n : Nat} {B way : Int} {xs : List Int} (S : Lf L0 L d ℓ B xs) (hB : B ≤ 100000000) (hl : xs.length = n) (hn : n ≤ 200) (x1 x3 x4 x5 x6 x8 x9 : Option U) :
    ∃ (M : UH) (vs : List Int), fComp [none, some 7, some 0] (fRng1 (fCons (fVar 2) fNil)) (gN 0) none b_l_row_1e [some (.ref d), x1, some (.int n), x3, x4, x5, x6, some (.ref ℓ), x8, x9] L = some (.ref M.length, M ++ [.lst (vs.map U.int)]) ∧ vs.Perm xs ∧ Deck M d (B + n) ∧ Ex d L0 M := by
  have hi : fRng1 (fCons (fVar 2) fNil) [some (.ref d), x1, some (.int n), x3, x4, x5, x6, some (.ref ℓ), x8, x9] L = some (.seq (rangeU 0 n), L) := rng1_nat rfl (by omega)
  obtain ⟨ys, δ', M, e, ⟨z, hδ⟩, vs, rest, hvs, hlv, hlr, hp, hat, DM, xM⟩ := fcomp (ix := [none, some 7, some 0]) (it := .seq (rangeU 0 n)) (g := gN 0) (tt := none) (fe := b_l_row_1e) (us := rangeU 0 n) (δ := [some (.ref d), x1, some (.int n), x3, x4, x5, x6, some (.ref ℓ), x8, x9]) (L := L) (L0 := L)
      (fun k acc δ' M => (∃ z, δ' = [z, some (.ref ℓ), some (.ref d)]) ∧ ∃ (vs rest : List Int), acc = vs.map U.int ∧ vs.length = k ∧ rest.length + k = n ∧ (vs ++ rest).Perm xs ∧ M[ℓ]? = some (.lst (rest.map U.int)) ∧ Deck M d (B + k) ∧ Ex d L0 M)
      hi (by simp [IU.size]) ⟨⟨none, rfl⟩, [], xs, rfl, rfl, by simpa using hl, by simp, S.at_, by simpa using S.dk, S.ex⟩
      (fun k acc δ L _ _ => rfl)
      (fun k u acc δ M hu ⟨⟨z, hδ⟩, vs, rest, hvs, hlv, hlr, hp, hat, DM, xM⟩ => by
        subst hδ
        obtain ⟨hk, rfl⟩ := rangeU_get hu
        obtain ⟨r, M', l', e, h1, h2, h3, h4, h5, h6⟩ := pops_turn S.gt S.ge hB hk hn hlv hlr hp hat DM xM (some (.int (0 + (k : Int))))
        have ha : acc.length < 16777216 := by rw [hvs, List.length_map, hlv]; omega
        exact ⟨[some (.int (0 + k)), some (.ref ℓ), some (.ref d)], M, rfl, true, M, rfl, fun _ => ⟨.int r, M', e, ha, ⟨_, rfl⟩, vs ++ [r], l', by simp [hvs], h1, h2, h3, h4, h5, h6⟩, fun h => by cases h⟩)
  rw [rangeU_len] at hlr hlv DM
  have hr : rest = [] := List.length_eq_zero_iff.mp (by omega)
  rw [hr, List.append_nil] at hp
  exact ⟨M, vs, by rw [e, hvs], hp, DM, xM⟩
theorem r_pops_ok {L0 L : UH} {d ℓ n : Nat} {B way : Int} {xs : List Int} (S : Lf L0 L d ℓ B xs) (hB : B ≤ 100000000) (hl : xs.length = n) (hn : n ≤ 200) (x1 x4 x5 x6 x8 x9 : Option U) :
    ∃ (ℓ' : Nat) (L' : UH) (ys : List Int), r_pops [some (.ref d), x1, some (.int n), some (.int way), x4, x5, x6, some (.ref ℓ), x8, x9] L = some (.nx [some (.ref d), x1, some (.int n), some (.int way), x4, x5, x6, some (.ref ℓ'), x8, x9], L') ∧ Lf L0 L' d ℓ' (B + 200) ys ∧ ys.Perm xs := by
  have tt : (fTest (f2 semGt (fVar 3) (fC (.int 1)))) [some (.ref d), x1, some (.int n), some (.int way), x4, x5, x6, some (.ref ℓ), x8, x9] L = some (decide (1 < way), L) := by
    simp only [fTest_eq, f2_eq, fVar_eq, fC_eq, List.getElem?_cons_succ, List.getElem?_cons_zero, Option.join_some, Option.map_some, Option.bind_some, semGt_int]
  unfold r_pops
  rw [fIfS_eq, tt]
  cases h : decide (1 < way) with
  | true =>
    obtain ⟨M, vs, e, hp, DM, xM⟩ := pops_comp (way := way) S hB hl hn x1 (some (.int way)) x4 x5 x6 x8 x9
    refine ⟨M.length, M ++ [.lst (vs.map U.int)], vs, ?_, ⟨(DM.new _).mono (by omega), by simp, xM.le, DM.lt, xM.trans (Ex.new d _ _)⟩, hp⟩
    rw [Option.bind_some, if_pos rfl, fAsg_eq, e]
    rfl
  | false => exact ⟨ℓ, L, xs, rfl, ⟨S.dk.mono (by omega), S.at_, S.ge, S.gt, S.ex⟩, List.Perm.refl _⟩
noncomputable def r_swap : FS := (fIfS (fAnd (fTest (f2 semEq (fVar 3) (fC (.int 0)))) (fTest (f2 semGt (fVar 2) (fC (.int 1))))) (fSeq (fAsg (fOwn 2 m_l_next (fCons (fVar 0) (fCons (f2 semSub (fVar 2) (fC (.int 1))) fNil))) (gN 9)) (fAsg (fTup (fCons (f2 semIx (fVar 7) (f2 semAdd (fVar 9) (fC (.int 1)))) (fCons (f2 semIx (fVar 7) (fVar 9)) fNil))) (MR.gTup 2 (MR.gCons (MR.gSub (fVar 7) (fVar 9)) (MR.gCons (MR.gSub (fVar 7) (f2 semAdd (fVar 9) (fC (.int 1)))) MR.gNil))))) fNext)
theorem r_swap_ok {L0 L : UH} {d ℓ n : Nat} {B way : Int} {xs : List Int} (S : Lf L0 L d ℓ B xs) (hB : B ≤ 100000000) (hl : xs.length = n) (hn : n ≤ 200) (x1 x4 x5 x6 x8 x9 : Option U) :
    ∃ (y9 : Option U) (L' : UH) (ys : List Int), r_swap [some (.ref d), x1, some (.int n), some (.int way), x4, x5, x6, some (.ref ℓ), x8, x9] L = some (.nx [some (.ref d), x1, some (.int n), some (.int way), x4, x5, x6, some (.ref ℓ), x8, y9], L') ∧ Lf L0 L' d ℓ (B + 1) ys ∧ ys.Perm xs := by
  have tt : (fAnd (fTest (f2 semEq (fVar 3) (fC (.int 0)))) (fTest (f2 semGt (fVar 2) (fC (.int 1))))) [some (.ref d), x1, some (.int n), some (.int way), x4, x5, x6, some (.ref ℓ), x8, x9] L = some ((way == 0) && decide ((1 : Int) < n), L) := by
    cases h : (way == 0) <;> simp only [fAnd_eq, fTest_eq, f2_eq, fVar_eq, fC_eq, List.getElem?_cons_succ, List.getElem?_cons_zero, Option.join_some, Option.map_some, Option.bind_some, semEq_int, semGt_int, h, Bool.true_and, Bool.false_and, if_true, Bool.false_eq_true, if_false]
  unfold r_swap
  rw [fIfS_eq, tt]
  cases h : ((way == 0) && decide ((1 : Int) < n)) with
  | false => exact ⟨x9, L, xs, rfl, ⟨S.dk.mono (by omega), S.at_, S.ge, S.gt, S.ex⟩, List.Perm.refl _⟩
  | true =>
    have h1 : (1 : Int) < n := by
      rw [Bool.and_eq_true] at h
      exact of_decide_eq_true h.2
    have g := S.gt
    obtain ⟨i, L1, e1, a1, b1, D1, y1⟩ := next_ok (many := (n : Int) - 1) S.dk (by omega) (by omega) (by omega)
    obtain ⟨a, ha⟩ : ∃ a : Nat, i = (a : Int) := ⟨i.toNat, by omega⟩
    subst ha
    have at1 := y1.get S.at_ (by omega)
    have s1 : (fAsg (fOwn 2 m_l_next (fCons (fVar 0) (fCons (f2 semSub (fVar 2) (fC (.int 1))) fNil))) (gN 9)) [some (.ref d), x1, some (.int n), some (.int way), x4, x5, x6, some (.ref ℓ), x8, x9] L = some (.nx [some (.ref d), x1, some (.int n), some (.int way), x4, x5, x6, some (.ref ℓ), x8, some (.int a)], L1) := by
      simp only [fAsg_eq, fOwn_eq, fCons_eq, fNil_eq, f2_eq, fVar_eq, fC_eq, List.getElem?_cons_succ, List.getElem?_cons_zero, Option.join_some, Option.map_some, Option.bind_some, semSub_int, List.length_cons, List.length_nil, if_true, e1, gN_eq, List.set_cons_succ, List.set_cons_zero]
    have ha0 : a < xs.length := by omega
    have ha1 : a + 1 < xs.length := by omega
    have hc : (a : Int) + 1 = ((a + 1 : Nat) : Int) := by omega
    have ix : ∀ k : Nat, (hk : k < xs.length) → L2.atI (xs.map U.int) (k : Int) = some (.int (xs[k]'hk)) := fun k hk => by
      rw [atI_of (by omega) (by simp; omega), List.getElem?_map, Int.toNat_natCast, List.getElem?_eq_getElem hk]; rfl
    have e7 : ∀ M, fVar 7 [some (.ref d), x1, some (.int n), some (.int way), x4, x5, x6, some (.ref ℓ), x8, some (.int a)] M = some (.ref ℓ, M) := fun _ => rfl
    have e9 : ∀ M, fVar 9 [some (.ref d), x1, some (.int n), some (.int way), x4, x5, x6, some (.ref ℓ), x8, some (.int a)] M = some (.int a, M) := fun _ => rfl
    have e91 : ∀ M, (f2 semAdd (fVar 9) (fC (.int 1))) [some (.ref d), x1, some (.int n), some (.int way), x4, x5, x6, some (.ref ℓ), x8, some (.int a)] M = some (.int ((a + 1 : Nat) : Int), M) := fun _ => by rw [← hc]; rfl
    have v1 : (f2 semIx (fVar 7) (f2 semAdd (fVar 9) (fC (.int 1)))) [some (.ref d), x1, some (.int n), some (.int way), x4, x5, x6, some (.ref ℓ), x8, some (.int a)] L1 = some (.int (xs[a + 1]'ha1), L1) := by
      rw [f2_eq, e7, Option.bind_some, e91, Option.bind_some, semIx_ref, seqAt_lst at1]
      simp only [Option.bind_some, ix (a + 1) ha1, Option.map_some]
    have v2 : (f2 semIx (fVar 7) (fVar 9)) [some (.ref d), x1, some (.int n), some (.int way), x4, x5, x6, some (.ref ℓ), x8, some (.int a)] L1 = some (.int (xs[a]'ha0), L1) := by
      rw [f2_eq, e7, Option.bind_some, e9, Option.bind_some, semIx_ref, seqAt_lst at1]
      simp only [Option.bind_some, ix a ha0, Option.map_some]
    have sm2 : ∀ x y : U, small [x, y].length = true := fun _ _ => small_of (by show 2 ≤ 16777216; decide)
    have v3 : (fTup (fCons (f2 semIx (fVar 7) (f2 semAdd (fVar 9) (fC (.int 1)))) (fCons (f2 semIx (fVar 7) (fVar 9)) fNil))) [some (.ref d), x1, some (.int n), some (.int way), x4, x5, x6, some (.ref ℓ), x8, some (.int a)] L1 = some (.tup [.int (xs[a + 1]'ha1), .int (xs[a]'ha0)], L1) := by
      rw [fTup_eq, fCons_eq, v1, Option.bind_some, fCons_eq, v2]
      simp only [Option.bind_some, fNil_eq, Option.map_some]
      rw [if_pos (sm2 _ _)]
    have i1 : ixN (xs.map U.int).length (a : Int) = some a := by rw [ixN_of (by omega) (by simp; omega)]; simp
    have hs1 : (xs.map U.int).set a (.int (xs[a + 1]'ha1)) = (xs.set a (xs[a + 1]'ha1)).map U.int := by rw [List.map_set]
    have at2 : (L1.set ℓ (.lst ((xs.set a (xs[a + 1]'ha1)).map U.int)))[ℓ]? = some (.lst ((xs.set a (xs[a + 1]'ha1)).map U.int)) := List.getElem?_set_self (List.getElem?_eq_some_iff.mp at1).1
    have i2 : ixN ((xs.set a (xs[a + 1]'ha1)).map U.int).length ((a + 1 : Nat) : Int) = some (a + 1) := by rw [ixN_of (by omega) (by simp; omega)]; simp
    have hs2 : ((xs.set a (xs[a + 1]'ha1)).map U.int).set (a + 1) (.int (xs[a]'ha0)) = ((xs.set a (xs[a + 1]'ha1)).set (a + 1) (xs[a]'ha0)).map U.int := by simp only [List.map_set]
    have hperm : ((xs.set a (xs[a + 1]'ha1)).set (a + 1) (xs[a]'ha0)).Perm xs := List.set_set_perm ha0 ha1
    have w1 : MR.gSub (fVar 7) (fVar 9) (.int (xs[a + 1]'ha1)) [some (.ref d), x1, some (.int n), some (.int way), x4, x5, x6, some (.ref ℓ), x8, some (.int a)] L1 = some ([some (.ref d), x1, some (.int n), some (.int way), x4, x5, x6, some (.ref ℓ), x8, some (.int a)], L1.set ℓ (.lst ((xs.set a (xs[a + 1]'ha1)).map U.int))) := by
      rw [gSub_eq, e7, Option.bind_some, e9]
      simp only [Option.bind_some, lstAt_lst at1, i1, Option.map_some, hs1]
    have w2 : MR.gSub (fVar 7) (f2 semAdd (fVar 9) (fC (.int 1))) (.int (xs[a]'ha0)) [some (.ref d), x1, some (.int n), some (.int way), x4, x5, x6, some (.ref ℓ), x8, some (.int a)] (L1.set ℓ (.lst ((xs.set a (xs[a + 1]'ha1)).map U.int))) = some ([some (.ref d), x1, some (.int n), some (.int way), x4, x5, x6, some (.ref ℓ), x8, some (.int a)], (L1.set ℓ (.lst ((xs.set a (xs[a + 1]'ha1)).map U.int))).set ℓ (.lst (((xs.set a (xs[a + 1]'ha1)).set (a + 1) (xs[a]'ha0)).map U.int))) := by
      rw [gSub_eq, e7, Option.bind_some, e91]
      simp only [Option.bind_some, lstAt_lst at2, i2, Option.map_some, hs2]
    generalize hys : (xs.set a (xs[a + 1]'ha1)).set (a + 1) (xs[a]'ha0) = ys at w2 hperm
    generalize hzs : xs.set a (xs[a + 1]'ha1) = zs at w1 w2 at2
    refine ⟨some (.int a), (L1.set ℓ (.lst (zs.map U.int))).set ℓ (.lst (ys.map U.int)), ys, ?_, ⟨(D1.set g _).set g _, List.getElem?_set_self (List.getElem?_eq_some_iff.mp at2).1, S.ge, g, ((S.ex.trans y1).set S.ge _).set S.ge _⟩, hperm⟩
    rw [Option.bind_some, if_pos rfl, fSeq_nx s1, fAsg_eq, v3, Option.bind_some, gTup_eq]
    simp only [List.length_cons, List.length_nil, if_true, gCons_eq, gNil_eq, w1, w2, Option.bind_some, Option.map_some]
theorem row_ok {L : UH} {d : Nat} {B : Int} {most : Nat} (D : Deck L d B) (hB : B ≤ 10000000) (hm : most ≤ 200) :
    ∃ (row : List Int) (L' : UH), m_l_row [.ref d, .int most] L = some (.tup (row.map U.int), L') ∧ row.Nodup ∧ row.length ≤ 200 ∧ row.length ≤ max most 6 ∧ Deck L' d (B + 700) ∧ Ex d L L' := by
  obtain ⟨n, L1, e1, hn, hn6, D1, y1⟩ := r_many_ok D (by omega) hm none none none none none none none none
  obtain ⟨way, K2, e2, a2, b2, D2, y2⟩ := next_ok (many := 4) D1 (by omega) (by decide) (by decide)
  have s2 : (fAsg (fOwn 2 m_l_next (fCons (fVar 0) (fCons (fC (.int 4)) fNil))) (gN 3)) [some (.ref d), some (.int most), some (.int n), none, none, none, none, none, none, none] L1 = some (.nx [some (.ref d), some (.int most), some (.int n), some (.int way), none, none, none, none, none, none], K2) := by
    simp only [fAsg_eq, fOwn_eq, fCons_eq, fNil_eq, fVar_eq, fC_eq, List.getElem?_cons_succ, List.getElem?_cons_zero, Option.join_some, Option.map_some, Option.bind_some, List.length_cons, List.length_nil, if_true, e2, gN_eq, List.set_cons_succ, List.set_cons_zero]
  obtain ⟨step, L3, e3, a3, b3, D3, y3⟩ := next_ok (many := 4) D2 (by omega) (by decide) (by decide)
  have s3 : (fAsg (fOwn 2 m_l_next (fCons (fVar 0) (fCons (fC (.int 4)) fNil))) (gN 4)) [some (.ref d), some (.int most), some (.int n), some (.int way), none, none, none, none, none, none] K2 = some (.nx [some (.ref d), some (.int most), some (.int n), some (.int way), some (.int step), none, none, none, none, none], L3) := by
    simp only [fAsg_eq, fOwn_eq, fCons_eq, fNil_eq, fVar_eq, fC_eq, List.getElem?_cons_succ, List.getElem?_cons_zero, Option.join_some, Option.map_some, Option.bind_some, List.length_cons, List.length_nil, if_true, e3, gN_eq, List.set_cons_succ, List.set_cons_zero]
  obtain ⟨w, z4, e4, hw⟩ := r_wide_ok (L := L3) hn a3 b3 (some (.ref d)) (some (.int most)) (some (.int way)) none none none none none
  obtain ⟨low, L5, e5, D5, y5⟩ := r_low_ok (n := n) (D3.new z4) (by omega) (some (.int most)) (some (.int way)) (some (.int step)) (some (.int w)) none none none none
  have s6 : ∃ low' : Int, (fIfS (fTest (f2 semGt (fVar 4) (fC (.int 1)))) (fAsg (f2 semSub (fC (.int 0)) (fC (.int 9999999999))) (gN 6)) fNext) [some (.ref d), some (.int most), some (.int n), some (.int way), some (.int step), some (.int w), some (.int low), none, none, none] L5 = some (.nx [some (.ref d), some (.int most), some (.int n), some (.int way), some (.int step), some (.int w), some (.int low'), none, none, none], L5) := by
    have tt : (fTest (f2 semGt (fVar 4) (fC (.int 1)))) [some (.ref d), some (.int most), some (.int n), some (.int way), some (.int step), some (.int w), some (.int low), none, none, none] L5 = some (decide (1 < step), L5) := by
      simp only [fTest_eq, f2_eq, fVar_eq, fC_eq, List.getElem?_cons_succ, List.getElem?_cons_zero, Option.join_some, Option.map_some, Option.bind_some, semGt_int]
    rw [fIfS_eq, tt]
    cases h : decide (1 < step) with
    | true => exact ⟨-9999999999, rfl⟩
    | false => exact ⟨low, rfl⟩
  obtain ⟨low', s6⟩ := s6
  have sm0 : small ([] : List U).length = true := small_of (by show 0 ≤ 16777216; decide)
  have s7 : (fAsg (fLst fNil) (gN 7)) [some (.ref d), some (.int most), some (.int n), some (.int way), some (.int step), some (.int w), some (.int low'), none, none, none] L5 = some (.nx [some (.ref d), some (.int most), some (.int n), some (.int way), some (.int step), some (.int w), some (.int low'), some (.ref L5.length), none, none], L5 ++ [.lst []]) := by
    rw [fAsg_eq, fLst_eq, fNil_eq, Option.bind_some, if_pos sm0]; rfl
  have x5 := (((y1.trans y2).trans y3).trans (Ex.new d L3 z4)).trans y5
  have S7 : Lf L (L5 ++ [.lst []]) d L5.length (B + 7) [] := ⟨(D5.new _).mono (by omega), by simp, x5.le, D5.lt, x5.trans (Ex.new d _ _)⟩
  obtain ⟨y6, y8, L8, xs, e8, S8, hl8, hnd⟩ := r_loop_ok (low := low') S7 (by omega) hw hn (some (.int most)) (some (.int way)) (some (.int step)) none none
  obtain ⟨ℓ9, L9, xs9, e9, S9, p9⟩ := r_rev_ok (way := way) S8 (some (.ref d)) (some (.int most)) (some (.int n)) (some (.int step)) (some (.int w)) y6 y8 none
  obtain ⟨ℓ10, L10, xs10, e10, S10, p10⟩ := r_pops_ok (way := way) S9 (by omega) (by rw [p9.length_eq, hl8]) hn (some (.int most)) (some (.int step)) (some (.int w)) y6 y8 none
  have hp10 := p10.trans p9
  obtain ⟨y9, L11, xs11, e11, S11, p11⟩ := r_swap_ok (way := way) S10 (by omega) (by rw [hp10.length_eq, hl8]) hn (some (.int most)) (some (.int step)) (some (.int w)) y6 y8 none
  have hp11 := p11.trans hp10
  refine ⟨xs11, L11, ?_, hp11.nodup_iff.mpr hnd, by rw [hp11.length_eq, hl8]; exact hn, by rw [hp11.length_eq, hl8]; exact hn6, S11.dk.mono (by omega), S11.ex⟩
  have sp : b_l_row = fSeq r_many (fSeq (fAsg (fOwn 2 m_l_next (fCons (fVar 0) (fCons (fC (.int 4)) fNil))) (gN 3)) (fSeq (fAsg (fOwn 2 m_l_next (fCons (fVar 0) (fCons (fC (.int 4)) fNil))) (gN 4)) (fSeq r_wide (fSeq r_low (fSeq (fIfS (fTest (f2 semGt (fVar 4) (fC (.int 1)))) (fAsg (f2 semSub (fC (.int 0)) (fC (.int 9999999999))) (gN 6)) fNext) (fSeq (fAsg (fLst fNil) (gN 7)) (fSeq r_loop (fSeq r_rev (fSeq r_pops (fSeq r_swap (fRet (fCall semTuple (fCons (fVar 7) fNil))))))))))))) := rfl
  unfold m_l_row fnU
  simp only [List.length_cons, List.length_nil, if_true, List.map_cons, List.map_nil, List.replicate, List.cons_append, List.nil_append]
  rw [sp, fSeq_nx e1, fSeq_nx s2, fSeq_nx s3, fSeq_nx e4, fSeq_nx e5, fSeq_nx s6, fSeq_nx s7, fSeq_nx e8, fSeq_nx e9, fSeq_nx e10, fSeq_nx e11]
  simp only [fRet_eq, fCall_eq, fCons_eq, fNil_eq, fVar_eq, List.getElem?_cons_succ, List.getElem?_cons_zero, Option.join_some, Option.map_some, Option.bind_some, semTuple, seqAt_lst S11.at_]
end Lw
set_option Elab.async false
set_option linter.all false
set_option maxRecDepth 100000
set_option maxHeartbeats 1000000
namespace Lw
open PySem L2 MR
theorem count_of_ok (row : List Int) (L : UH) (hl : row.length < 100000) : ∃ L', m_count_of [.tup (row.map U.int)] L = some (.int (cntv row).sum, L') ∧ Gw L L' := by
  obtain ⟨L', e, g⟩ := counts_of_ok row L hl
  refine ⟨L', ?_, g⟩
  unfold m_count_of fnU b_count_of
  simp only [List.length_cons, List.length_nil, if_true, List.map_cons, List.map_nil, Nat.sub_self, List.replicate_zero, List.append_nil, fRet_eq, fCall_eq, fCons_eq, fNil_eq, fOwn_eq, fVar_eq, List.getElem?_cons_zero, Option.join_some, Option.map_some, Option.bind_some, e, sum_tup]
noncomputable def rwU (row : List Int) : U := .tup (row.map U.int)
theorem sl_take (row : List Int) (k : Nat) (hk : k ≤ row.length) (L : UH) : semSlA (rwU row) none (some (k : Int)) L = some (rwU (row.take k), L) := by
  unfold semSlA rwU
  simp only
  rw [HT.sIx_none, HT.sIx_nat, List.length_map]
  by_cases h : k = row.length
  · rw [if_pos ⟨rfl, by omega⟩, h, List.take_length]
  · rw [if_neg (by omega)]
    unfold cutU
    rw [HT.sIx_none, HT.sIx_nat, List.drop_zero, Nat.sub_zero, List.length_map, Nat.min_eq_left hk, List.map_take]
theorem sl_drop (row : List Int) (k : Nat) (hk : k ≤ row.length) (L : UH) : semSlA (rwU row) (some (k : Int)) none L = some (rwU (row.drop k), L) := by
  unfold semSlA rwU
  simp only
  rw [HT.sIx_none, HT.sIx_nat, List.length_map]
  by_cases h : k = 0
  · rw [if_pos ⟨by omega, rfl⟩, h, List.drop_zero]
  · rw [if_neg (by omega)]
    unfold cutU
    rw [HT.sIx_none, HT.sIx_nat, List.length_map, Nat.min_eq_left hk, ← List.map_drop]
    have : (List.map U.int (row.drop k)).take (row.length - k) = (row.drop k).map U.int := List.take_of_length_le (by simp)
    rw [this]
theorem cat_rw (a b : List Int) (hs : a.length + b.length ≤ 1000) (L : UH) : semAddA (rwU a) (rwU b) L = some (rwU (a ++ b), L) := by
  unfold rwU
  cases a with
  | nil => rfl
  | cons x a =>
    show semAdd (.tup ((x :: a).map U.int)) (.tup (b.map U.int)) L = _
    unfold semAdd
    simp only
    rw [if_pos ⟨rfl, small_of (by simp at hs ⊢; omega)⟩, List.map_append]
theorem rows_with_ok {many : Nat} (hm : many ≤ 12) (L : UH) : ∃ L', m_rows_with [.int many] L = some (.tup ((progW many).map U.int), L') ∧ Gw L L' := by
  obtain ⟨q, ds, L', e, hq, hdl, hds, g⟩ := from_each_all hm L
  refine ⟨L', fn1 ?_, g⟩
  obtain ⟨r, hr1, hr2⟩ := hds 0 (by omega)
  have hix0 : semIx (.ref q) (.int 0) L' = some (.ref r, L') := by
    rw [semIx_ref, seqAt_lst hq, Option.bind_some]
    have := ix_nat (l := ds.map U.ref) (k := 0) (u := .ref r) (by rw [List.getElem?_map, hr1]; rfl)
    have h0 : ((0 : Nat) : Int) = 0 := rfl
    rw [h0] at this
    rw [this]
    rfl
  have eW : Wj many (many - 0) = progW many := by
    unfold Wj progW
    rw [Nat.sub_zero]
    have : (places many).take many = places many := List.take_of_length_le (by unfold places; simp)
    rw [this]
    rfl
  rw [eW] at hr2
  generalize progW many = ws at hr2
  have ht : semTuple [.ref r] L' = some (.tup (ws.map U.int), L') := by simp only [semTuple, seqAt_lst hr2, Option.map_some]
  show b_rows_with [some (.int (many : Int))] L = _
  unfold b_rows_with
  refine ret_ok ?_
  have e2 : (f2 semIx (fOwn 1 m_ways_from_each (fCons (fVar 0) fNil)) (fC (.int 0))) [some (.int (many : Int))] L = some (.ref r, L') := by
    rw [f2_eq, own1 rfl e, Option.bind_some, fC_eq, Option.bind_some, hix0]
  rw [fCall_eq, cons_ok e2 rfl, Option.bind_some, ht]
theorem neF {fa fb : FE} {u : List Int} {δ : UE} {L L1 L2 : UH} (h1 : fa δ L = some (.tup (u.map U.int), L1)) (h2 : fb δ L1 = some (.tup (u.map U.int), L2)) : (fTest (f2 semNe fa fb)) δ L = some (false, L2) := by
  rw [fTest_eq, f2_eq, h1, Option.bind_some, h2, Option.bind_some, ne_self]
  rfl
theorem neI {fa fb : FE} {u : Int} {δ : UE} {L L1 L2 : UH} (h1 : fa δ L = some (.int u, L1)) (h2 : fb δ L1 = some (.int u, L2)) : (fTest (f2 semNe fa fb)) δ L = some (false, L2) := by
  rw [fTest_eq, f2_eq, h1, Option.bind_some, h2, Option.bind_some, semNe_int]
  simp
theorem orF {a b : FT} {δ : UE} {L L1 L2 : UH} (h1 : a δ L = some (false, L1)) (h2 : b δ L1 = some (false, L2)) : fOr a b δ L = some (false, L2) := by
  rw [fOr_eq, h1, Option.bind_some]
  exact h2
theorem half_ok {m A B : Int} (h0 : 0 ≤ m) (h1 : m ≤ 1000) (h : 2 * (A + B) = m * (m - 1)) {δ : UE} {L : UH} {fa : FE} (ha : ∀ M, fa δ M = some (.int m, M)) : (f2 semDiv (f2 semMul fa (f2 semSub fa (fC (.int 1)))) (fC (.int 2))) δ L = some (.int (A + B), L) := by
  have mk : mulOk m (m - 1) = true := mulOk_l (by omega) (by omega)
  have e1 : (f2 semMul fa (f2 semSub fa (fC (.int 1)))) δ L = some (.int (m * (m - 1)), L) := by
    simp only [f2_eq, ha, fC_eq, Option.bind_some, semSub_int, semMul_int, mk, if_true]
  have dk : divOk (m * (m - 1)) 2 = true := by
    unfold divOk
    rfl
  rw [f2_eq, e1, Option.bind_some, fC_eq, Option.bind_some, semDiv_int, if_pos dk, ← h]
  congr 3
  omega
theorem back_ok {row : List Int} (hl : row.length ≤ 200) {L : UH} {fe : FE} {δ : UE} {L0 : UH} (h : fe δ L0 = some (.tup (row.map U.int), L)) : ∃ L', (fOwn 1 m_row_of (fCons (fOwn 1 m_counts_of (fCons fe fNil)) fNil)) δ L0 = some (.tup ((rb (cntv row) row.length (upto row.length)).map U.int), L') ∧ Gw L L' := by
  obtain ⟨L1, e1, g1⟩ := counts_of_ok row L (by omega)
  obtain ⟨L2, e2, g2⟩ := row_of_ok (u := .tup ((cntv row).map U.int)) (cs := cntv row) (L := L1) (.inl rfl) (by rw [cntv_len]; omega) (cntv_good row)
  rw [cntv_len] at e2
  exact ⟨L2, own1e (own1e h e1) e2, g1.trans g2⟩
end Lw
set_option Elab.async false
set_option linter.all false
set_option maxRecDepth 100000
set_option maxHeartbeats 1000000
namespace Lw
open PySem L2 MR
theorem cut2 {row : List Int} {p : Nat} (h : p + 1 < row.length) : row = row.take p ++ ([row.getD p 0, row.getD (p + 1) 0] ++ row.drop (p + 2)) := by
  have e1 : row.getD p 0 = row[p] := by rw [List.getD_eq_getElem?_getD, List.getElem?_eq_getElem (by omega)]; rfl
  have e2 : row.getD (p + 1) 0 = row[p + 1] := by rw [List.getD_eq_getElem?_getD, List.getElem?_eq_getElem h]; rfl
  rw [e1, e2, show [row[p], row[p + 1]] ++ row.drop (p + 2) = row[p] :: (row[p + 1] :: row.drop (p + 2)) from rfl, ← List.drop_eq_getElem_cons h, ← List.drop_eq_getElem_cons (by omega), List.take_append_drop]
noncomputable def anySwap : FS := (fIfS (fTest (f2 semGt (fVar 2) (fC (.int 1)))) (fSeq (fAsg (fOwn 2 m_l_next (fCons (fVar 0) (fCons (f2 semSub (fVar 2) (fC (.int 1))) fNil))) (gN 5)) (fSeq (fAsg (f2 semAddA (f2 semAddA (fSl semSlA (fVar 1) fNoPart (fPart (fVar 5))) (fTup (fCons (f2 semIx (fVar 1) (f2 semAddA (fVar 5) (fC (.int 1)))) (fCons (f2 semIx (fVar 1) (fVar 5)) fNil)))) (fSl semSlA (fVar 1) (fPart (f2 semAddA (fVar 5) (fC (.int 2)))) fNoPart)) (gN 6)) (fIfS (fTest (f2 semNe (f2 semSub (fOwn 1 m_count_of (fCons (fVar 6) fNil)) (fOwn 1 m_count_of (fCons (fVar 1) fNil))) (f2 semIx (fLst (fCons (fNeg (fC (.int 1))) (fCons (fC (.int 1)) fNil))) (fCall semInt (fCons (f2 semLt (f2 semIx (fVar 1) (fVar 5)) (f2 semIx (fVar 1) (f2 semAddA (fVar 5) (fC (.int 1))))) fNil))))) (fRet (fC (.bl false))) fNext))) fNext)
theorem swap_ok {L : UH} {d : Nat} {B : Int} {row : List Int} (D : Deck L d B) (hB : B ≤ 1000000) (hn : row.Nodup) (hl : row.length ≤ 200) (x3 x4 : Option U) : ∃ z5 z6 L', anySwap [some (.ref d), some (.tup (row.map U.int)), some (.int (row.length : Int)), x3, x4, none, none] L = some (.nx [some (.ref d), some (.tup (row.map U.int)), some (.int (row.length : Int)), x3, x4, z5, z6], L') ∧ Deck L' d (B + 1) := by
  have tst : (fTest (f2 semGt (fVar 2) (fC (.int 1)))) [some (.ref d), some (.tup (row.map U.int)), some (.int (row.length : Int)), x3, x4, none, none] L = some (decide ((1 : Int) < (row.length : Int)), L) := rfl
  by_cases hm : 1 < row.length
  · rw [decide_eq_true (by omega)] at tst
    obtain ⟨p, L1, e1, q1, D1, x1⟩ := nxt (i := 0) (many := (row.length : Int) - 1) (fb := f2 semSub (fVar 2) (fC (.int 1))) (δ := [some (.ref d), some (.tup (row.map U.int)), some (.int (row.length : Int)), x3, x4, none, none]) D (by omega) (by omega) (by omega) rfl rfl
    have s1 := setN (i := 5) e1
    simp only [List.set_cons_succ, List.set_cons_zero] at s1
    have hp : p + 1 < row.length := by omega
    generalize hδ : [some (U.ref d), some (.tup (row.map U.int)), some (.int (row.length : Int)), x3, x4, some (.int (p : Int)), none] = δ at s1
    have v1 : ∀ M, fVar 1 δ M = some (rwU row, M) := fun M => by rw [← hδ]; rfl
    have v5 : ∀ M, fVar 5 δ M = some (.int (p : Int), M) := fun M => by rw [← hδ]; rfl
    have c1 : (fSl semSlA (fVar 1) fNoPart (fPart (fVar 5))) δ L1 = some (rwU (row.take p), L1) := by
      rw [fSl_eq, v1, Option.bind_some]
      show ((fPart (fVar 5)) δ L1).bind _ = _
      unfold fPart
      rw [v5, Option.bind_some, Option.bind_some]
      exact sl_take row p (by omega) L1
    have i1 : (f2 semIx (fVar 1) (f2 semAddA (fVar 5) (fC (.int 1)))) δ L1 = some (.int (row.getD (p + 1) 0), L1) := by
      rw [f2_eq, v1, Option.bind_some, f2_eq, v5, Option.bind_some, fC_eq, Option.bind_some]
      show (semIx (.tup (row.map U.int)) (.int ((p : Int) + 1)) L1) = _
      exact at_intT (k := p + 1) hp L1
    have i2 : (f2 semIx (fVar 1) (fVar 5)) δ L1 = some (.int (row.getD p 0), L1) := by
      rw [f2_eq, v1, Option.bind_some, v5, Option.bind_some]
      exact at_intT (by omega) L1
    have c2 : (fTup (fCons (f2 semIx (fVar 1) (f2 semAddA (fVar 5) (fC (.int 1)))) (fCons (f2 semIx (fVar 1) (fVar 5)) fNil))) δ L1 = some (rwU [row.getD (p + 1) 0, row.getD p 0], L1) := by
      rw [fTup_eq, cons_ok i1 (cons_ok i2 rfl), Option.bind_some, if_pos (small_of (by show 2 ≤ 16777216; decide))]
      rfl
    have c3 : (fSl semSlA (fVar 1) (fPart (f2 semAddA (fVar 5) (fC (.int 2)))) fNoPart) δ L1 = some (rwU (row.drop (p + 2)), L1) := by
      rw [fSl_eq, v1, Option.bind_some]
      have : (fPart (f2 semAddA (fVar 5) (fC (.int 2)))) δ L1 = some (some ((p + 2 : Nat) : Int), L1) := by
        unfold fPart
        rw [f2_eq, v5, Option.bind_some, fC_eq, Option.bind_some]
        rfl
      rw [this, Option.bind_some]
      exact sl_drop row (p + 2) (by omega) L1
    have e2 : (f2 semAddA (f2 semAddA (fSl semSlA (fVar 1) fNoPart (fPart (fVar 5))) (fTup (fCons (f2 semIx (fVar 1) (f2 semAddA (fVar 5) (fC (.int 1)))) (fCons (f2 semIx (fVar 1) (fVar 5)) fNil)))) (fSl semSlA (fVar 1) (fPart (f2 semAddA (fVar 5) (fC (.int 2)))) fNoPart)) δ L1 = some (.tup ((row.take p ++ ([row.getD (p + 1) 0, row.getD p 0] ++ row.drop (p + 2))).map U.int), L1) := by
      rw [f2_eq, f2_eq, c1, Option.bind_some, c2, Option.bind_some, cat_rw _ _ (by rw [List.length_take]; simp; omega), Option.bind_some, c3, Option.bind_some, cat_rw _ _ (by rw [List.length_append, List.length_take, List.length_drop]; simp; omega), List.append_assoc]
      rfl
    have ol : (row.take p ++ ([row.getD (p + 1) 0, row.getD p 0] ++ row.drop (p + 2))).length = row.length := by
      rw [List.length_append, List.length_append, List.length_take, List.length_drop]
      simp
      omega
    have hne : row.getD p 0 ≠ row.getD (p + 1) 0 := by
      rw [List.getD_eq_getElem?_getD, List.getD_eq_getElem?_getD, List.getElem?_eq_getElem (by omega : p < row.length), List.getElem?_eq_getElem hp]
      exact List.pairwise_iff_getElem.mp hn p (p + 1) (by omega) hp (by omega)
    have sw := sumc_swap (row.take p) (row.getD p 0) (row.getD (p + 1) 0) hne (row.drop (p + 2))
    rw [← cut2 hp] at sw
    generalize ho : row.take p ++ ([row.getD (p + 1) 0, row.getD p 0] ++ row.drop (p + 2)) = other at e2 ol sw
    have s2 := setN (i := 6) e2
    rw [← hδ] at s2
    simp only [List.set_cons_succ, List.set_cons_zero] at s2
    rw [hδ] at s2
    obtain ⟨L2, e3, g2⟩ := count_of_ok other L1 (by omega)
    obtain ⟨L3, e4, g3⟩ := count_of_ok row L2 (by omega)
    generalize hδ2 : [some (U.ref d), some (.tup (row.map U.int)), some (.int (row.length : Int)), x3, x4, some (.int (p : Int)), some (.tup (other.map U.int))] = δ2 at s2
    have w1 : ∀ M, fVar 1 δ2 M = some (.tup (row.map U.int), M) := fun M => by rw [← hδ2]; rfl
    have w5 : ∀ M, fVar 5 δ2 M = some (.int (p : Int), M) := fun M => by rw [← hδ2]; rfl
    have w6 : ∀ M, fVar 6 δ2 M = some (.tup (other.map U.int), M) := fun M => by rw [← hδ2]; rfl
    have a1 : (f2 semSub (fOwn 1 m_count_of (fCons (fVar 6) fNil)) (fOwn 1 m_count_of (fCons (fVar 1) fNil))) δ2 L1 = some (.int (sumc other - sumc row), L3) := by
      rw [f2_eq, own1 (w6 L1) e3, Option.bind_some, own1 (w1 L2) e4, Option.bind_some, semSub_int]
    have hg : (fCons (fNeg (fC (.int 1))) (fCons (fC (.int 1)) fNil)) δ2 L3 = some (([-1, 1] : List Int).map U.int, L3) := rfl
    have hb : ∀ M, (fCall semInt (fCons (f2 semLt (f2 semIx (fVar 1) (fVar 5)) (f2 semIx (fVar 1) (f2 semAddA (fVar 5) (fC (.int 1))))) fNil)) δ2 M = some (.int ((if row.getD p 0 < row.getD (p + 1) 0 then 1 else 0 : Nat) : Int), M) := by
      intro M
      have j1 : (f2 semIx (fVar 1) (fVar 5)) δ2 M = some (.int (row.getD p 0), M) := by
        rw [f2_eq, w1, Option.bind_some, w5, Option.bind_some]
        exact at_intT (by omega) M
      have j2 : (f2 semIx (fVar 1) (f2 semAddA (fVar 5) (fC (.int 1)))) δ2 M = some (.int (row.getD (p + 1) 0), M) := by
        rw [f2_eq, w1, Option.bind_some, f2_eq, w5, Option.bind_some, fC_eq, Option.bind_some]
        exact at_intT (k := p + 1) hp M
      have j3 : (f2 semLt (f2 semIx (fVar 1) (fVar 5)) (f2 semIx (fVar 1) (f2 semAddA (fVar 5) (fC (.int 1))))) δ2 M = some (.bl (decide (row.getD p 0 < row.getD (p + 1) 0)), M) := by
        rw [f2_eq, j1, Option.bind_some, j2, Option.bind_some]
        rfl
      rw [fCall_eq, cons_ok j3 rfl, Option.bind_some]
      by_cases c : row.getD p 0 < row.getD (p + 1) 0
      · rw [decide_eq_true c, if_pos c]; rfl
      · rw [decide_eq_false c, if_neg c]; rfl
    have D3 : Deck L3 d (B + 1) := g3.deck (g2.deck D1)
    have a2 := pick (d := d) hg (by simp) (hb _) (Ex.refl d _) D3.lt (by split <;> simp)
    have ev : ([-1, 1] : List Int).getD (if row.getD p 0 < row.getD (p + 1) 0 then 1 else 0) 0 = sumc other - sumc row := by
      rw [sw]
      by_cases c : row.getD p 0 < row.getD (p + 1) 0
      · rw [if_pos c, if_pos c]; rfl
      · rw [if_neg c, if_neg c]; rfl
    rw [ev] at a2
    have s3 := if_no (f := fRet (fC (.bl false))) (neI a1 a2)
    refine ⟨some (.int (p : Int)), some (.tup (other.map U.int)), L3 ++ [.lst (([-1, 1] : List Int).map U.int)], ?_, D3.new _⟩
    unfold anySwap
    rw [if_yes tst, fSeq_nx s1, fSeq_nx s2, s3, hδ2]
  · rw [decide_eq_false (by omega)] at tst
    exact ⟨none, none, L, if_no tst, D.mono (by omega)⟩
theorem any_ok {L : UH} {d : Nat} {B : Int} {row : List Int} (D : Deck L d B) (hB : B ≤ 1000000) (hn : row.Nodup) (hl : row.length ≤ 200) : ∃ L', m_l_any_right [.ref d, .tup (row.map U.int)] L = some (.bl true, L') ∧ Deck L' d (B + 1) := by
  have s1 : (fAsg (fCall semLen (fCons (fVar 1) fNil)) (gN 2)) [some (.ref d), some (.tup (row.map U.int)), none, none, none, none, none] L = some (.nx [some (.ref d), some (.tup (row.map U.int)), some (.int (row.length : Int)), none, none, none, none], L) := setN (by rw [fCall_eq, cons_ok (L1 := L) (u := .tup (row.map U.int)) rfl rfl, Option.bind_some, len_tup])
  obtain ⟨L1, e2, g1⟩ := back_ok (row := row) hl (fe := fVar 1) (δ := [some (.ref d), some (.tup (row.map U.int)), some (.int (row.length : Int)), none, none, none, none]) (L := L) (L0 := L) rfl
  have hrk := ranks hn
  have hbc := back_cnt row
  have hbp : (rb (cntv row) row.length (upto row.length)).Perm (upto row.length) := rb_perm _ _ _ (by simp)
  generalize rb (cntv row) row.length (upto row.length) = back at e2 hrk hbc hbp
  have s2 := setN (i := 3) e2
  simp only [List.set_cons_succ, List.set_cons_zero] at s2
  have e3 : (fCall semSortI (fCons (fVar 1) fNil)) [some (.ref d), some (.tup (row.map U.int)), some (.int (row.length : Int)), some (.tup (back.map U.int)), none, none, none] L1 = some (.ref L1.length, L1 ++ [.lst ((sortI row).map U.int)]) := by
    rw [fCall_eq, cons_ok (L1 := L1) (u := .tup (row.map U.int)) rfl rfl, Option.bind_some]
    simp only [semSortI, toI_ints, Option.bind_some]
  have s3 := setN (i := 4) e3
  simp only [List.set_cons_succ, List.set_cons_zero] at s3
  have hsl : (sortI row).length = row.length := (sortI_perm row).length_eq
  have g2 : Gw L1 (L1 ++ [.lst ((sortI row).map U.int)]) := Gw.new L1 _
  have at2 : (L1 ++ [HU.lst ((sortI row).map U.int)])[L1.length]? = some (.lst ((sortI row).map U.int)) := by simp
  generalize L1 ++ [HU.lst ((sortI row).map U.int)] = L2 at s3 g2 at2
  generalize L1.length = ri at s3 at2
  generalize hδ : [some (U.ref d), some (.tup (row.map U.int)), some (.int (row.length : Int)), some (.tup (back.map U.int)), some (.ref ri), none, none] = δ at s3
  have v1 : ∀ M, fVar 1 δ M = some (.tup (row.map U.int), M) := fun M => by rw [← hδ]; rfl
  have v2 : ∀ M, fVar 2 δ M = some (.int (row.length : Int), M) := fun M => by rw [← hδ]; rfl
  have v3 : ∀ M, fVar 3 δ M = some (.tup (back.map U.int), M) := fun M => by rw [← hδ]; rfl
  obtain ⟨x, e4⟩ := comp_grow (ix := [none, some 4]) (fi := fSeqI (fVar 3)) (it := .seq (back.map U.int)) (g := gN 0) (tt := none) (fe := b_l_any_right_1e) (δ := δ) (L := L2) (L0 := L2)
    back U.int (fun _ => true) (fun x => U.int ((sortI row).getD (x - 1).toNat 0)) (fun δ => ∃ y, δ = [y, some (.ref ri)]) (by rw [fSeqI_eq, v3]; rfl) (by simp [IU.size]) (by rw [hbp.length_eq]; simp; omega) ⟨none, by rw [← hδ]; rfl⟩
    (fun k x => rfl)
    (fun a δ' x ha hE => by
      obtain ⟨y, rfl⟩ := hE
      obtain ⟨i, hi, rfl⟩ := List.mem_map.mp (hbp.mem_iff.mp ha)
      have hi' : i < row.length := List.mem_range.mp hi
      refine ⟨_, rfl, ⟨_, rfl⟩, [], by rw [List.append_nil]; rfl, fun _ => ⟨[], ?_⟩⟩
      simp only [List.append_nil]
      have at3 : (L2 ++ x)[ri]? = some (.lst ((sortI row).map U.int)) := by rw [List.getElem?_append_left (List.getElem?_eq_some_iff.mp at2).1]; exact at2
      have := ix_int (i := i) at3 (by omega)
      unfold b_l_any_right_1e
      show semIx (.ref ri) (.int ((1 : Int) + (i : Int) - 1)) (L2 ++ x) = _
      rw [show (1 : Int) + (i : Int) - 1 = (i : Int) by omega, this, Int.toNat_natCast])
  have hf : List.filter (fun _ : Int => true) back = back := List.filter_eq_self.mpr fun _ _ => rfl
  have hmm : back.map (fun x => U.int ((sortI row).getD (x - 1).toNat 0)) = row.map U.int := by
    conv => rhs; rw [← hrk]
    rw [List.map_map]; rfl
  rw [hf, hmm] at e4
  have g3 : Gw L2 (L2 ++ x ++ [.lst (row.map U.int)]) := by rw [List.append_assoc]; exact Gw.new L2 _
  have at4 : (L2 ++ x ++ [HU.lst (row.map U.int)])[(L2 ++ x).length]? = some (.lst (row.map U.int)) := by simp
  generalize L2 ++ x ++ [HU.lst (row.map U.int)] = L3 at e4 g3 at4
  generalize (L2 ++ x).length = rj at e4 at4
  have e5 : (fCall semTuple (fCons (fComp [none, some 4] (fSeqI (fVar 3)) (gN 0) none b_l_any_right_1e) fNil)) δ L2 = some (.tup (row.map U.int), L3) := by
    rw [fCall_eq, cons_ok e4 rfl, Option.bind_some]
    simp only [semTuple, seqAt_lst at4, Option.map_some]
  obtain ⟨L4, e6, g4⟩ := counts_of_ok back L3 (by rw [hbp.length_eq]; simp; omega)
  rw [hbc] at e6
  obtain ⟨L5, e7, g5⟩ := counts_of_ok row L4 (by omega)
  have s4 := if_no (f := fRet (fC (.bl false))) (orF (neF e5 (v1 L3)) (neF (own1 (v3 L3) e6) (own1 (v1 L4) e7)))
  have hr := sumc_rev row hn
  have e8 : (fRev (fVar 1)) δ L5 = some (.tup (row.reverse.map U.int), L5) := by
    rw [fRev_eq, v1, Option.bind_some, List.map_reverse]
  obtain ⟨L6, e9, g6⟩ := count_of_ok row.reverse L5 (by rw [List.length_reverse]; omega)
  obtain ⟨L7, e10, g7⟩ := count_of_ok row L6 (by omega)
  have e11 : (f2 semSub (f2 semDiv (f2 semMul (fVar 2) (f2 semSub (fVar 2) (fC (.int 1)))) (fC (.int 2))) (fOwn 1 m_count_of (fCons (fVar 1) fNil))) δ L6 = some (.int (sumc row.reverse), L7) := by
    rw [f2_eq, half_ok (by omega) (by omega) hr v2, Option.bind_some, own1 (v1 L6) e10, Option.bind_some, semSub_int, Int.add_sub_cancel]
  obtain ⟨L8, e12, g8⟩ := count_of_ok row L7 (by omega)
  obtain ⟨L9, e13, g9⟩ := counts_of_ok row L8 (by omega)
  have e14 : (fCall semSum (fCons (fOwn 1 m_counts_of (fCons (fVar 1) fNil)) fNil)) δ L8 = some (.int (cntv row).sum, L9) := by
    rw [fCall_eq, cons_ok (own1 (v1 L8) e13) rfl, Option.bind_some, sum_tup]
  have s5 := if_no (f := fRet (fC (.bl false))) (orF (neI (own1e e8 e9) e11) (neI (own1 (v1 L7) e12) e14))
  have G : Gw L L9 := g1.trans (g2.trans (g3.trans (g4.trans (g5.trans (g6.trans (g7.trans (g8.trans g9)))))))
  obtain ⟨z5, z6, L10, e15, D10⟩ := swap_ok (G.deck D) hB hn hl (some (.tup (back.map U.int))) (some (.ref ri))
  refine ⟨L10, fn2 ?_, D10⟩
  show b_l_any_right [some (.ref d), some (.tup (row.map U.int)), none, none, none, none, none] L = _
  unfold b_l_any_right
  rw [fSeq_nx s1, fSeq_nx s2, fSeq_nx s3, fSeq_nx s4, fSeq_nx s5]
  have sp : ∀ g, fSeq anySwap g δ L9 = g [some (.ref d), some (.tup (row.map U.int)), some (.int (row.length : Int)), some (.tup (back.map U.int)), some (.ref ri), z5, z6] L10 := fun g => by
    rw [← hδ]; exact fSeq_nx e15
  exact sp _
end Lw
set_option Elab.async false
set_option linter.all false
set_option maxRecDepth 100000
set_option maxHeartbeats 1000000
namespace Lw
open PySem L2 MR
theorem half12 : ∀ n, n < 13 → 2 * (((n * (n - 1) / 2 : Nat) : Int) + 0) = (n : Int) * ((n : Int) - 1) := by decide
theorem Wn_prog (n : Nat) : Wj n n = progW n := by
  unfold Wj progW
  have : (places n).take n = places n := List.take_of_length_le (by unfold places; simp)
  rw [this]
  rfl
theorem own3 {f : FN} {fa fb fc : FE} {u w x v : U} {δ : UE} {L L1 L2 L3 L' : UH} (h : fa δ L = some (u, L1)) (h2 : fb δ L1 = some (w, L2)) (h3 : fc δ L2 = some (x, L3)) (e : f [u, w, x] L3 = some (v, L')) : (fOwn 3 f (fCons fa (fCons fb (fCons fc fNil)))) δ L = some (v, L') := by
  rw [fOwn_eq, cons_ok h (cons_ok h2 (cons_ok h3 rfl)), Option.bind_some]
  exact e
theorem rng2_ok {g : FA} {δ : UE} {L L' : UH} {i j : Int} (hg : g δ L = some ([.int i, .int j], L')) (h0 : 0 ≤ i) (h1 : i < 1000000) (h2 : 0 ≤ j) (h3 : j < 1000000) : fRng2 g δ L = some (.seq (rangeU i (j - i).toNat), L') := by
  rw [fRng2_eq, hg]
  simp only [Option.bind_some]
  rw [if_pos ⟨⟨by omega, by omega⟩, by omega, by omega⟩]
theorem rng2_nat {g : FA} {δ : UE} {L L' : UH} {n : Nat} (hg : g δ L = some ([.int 1, .int ((n : Int) + 1)], L')) (h : n ≤ 1000) : fRng2 g δ L = some (.seq (rangeU 1 n), L') := by
  have := rng2_ok hg (by omega) (by omega) (by omega) (by omega)
  rw [this, Int.add_sub_cancel, Int.toNat_natCast]
theorem fact_turn {x0 x1 x2 x3 x4 x5 x8 x9 : Option U} {t v : Int} {M : UH} (h0 : 0 ≤ v) (h1 : v < 1000) : b_law_2 [x0, x1, x2, x3, x4, x5, some (.int t), some (.int v), x8, x9] M = some (.nx [x0, x1, x2, x3, x4, x5, some (.int (t * v)), some (.int v), x8, x9], M) := by
  have mk : mulOk t v = true := mulOk_r (by omega) (by omega)
  have e : (f2 semMul (fVar 6) (fVar 7)) [x0, x1, x2, x3, x4, x5, some (.int t), some (.int v), x8, x9] M = some (.int (t * v), M) := by
    simp only [f2_eq, fVar_eq, List.getElem?_cons_succ, List.getElem?_cons_zero, Option.join_some, Option.map_some, Option.bind_some, semMul_int, mk, if_true]
  have s := setN (i := 6) e
  simp only [List.set_cons_succ, List.set_cons_zero] at s
  exact s
theorem rangeU_one {n j : Nat} {u : U} (h : (rangeU 1 n)[j]? = some u) : j < n ∧ u = .int ((1 : Int) + (j : Nat)) := by
  have hj : j < n := by
    have := (List.getElem?_eq_some_iff.mp h).1
    unfold rangeU at this
    simpa using this
  refine ⟨hj, ?_⟩
  unfold rangeU at h
  rw [List.getElem?_map, List.getElem?_range hj] at h
  exact (Option.some.inj h).symm
theorem fact_step (j : Nat) : ((((List.range (j + 1)).map fun i => i + 1).foldl (· * ·) 1 : Nat) : Int) = ((((List.range j).map fun i => i + 1).foldl (· * ·) 1 : Nat) : Int) * ((1 : Int) + (j : Nat)) := by
  rw [List.range_succ, List.map_append, List.foldl_append]
  generalize ((List.range j).map fun i => i + 1).foldl (· * ·) 1 = t
  show ((t * (j + 1) : Nat) : Int) = _
  rw [Int.natCast_mul, Int.natCast_add, Int.add_comm]
  rfl
theorem nth_facts {cs : List Int} (hm : cs.length ≤ 12) (hg : good cs) : cntv (rb cs cs.length (upto cs.length)) = cs ∧ (rb cs cs.length (upto cs.length)).length = cs.length := by
  refine ⟨?_, rb_len _ _ _⟩
  rw [rb_cnt cs _ _ (by simp) (Nat.le_refl _) (upto_up _) hg, List.take_length]
theorem law1_ok {L : UH} {d k : Nat} {B : Int} {a : U} {y3 y4 y5 y6 y7 y8 y9 : Option U} (D : Deck L d B) (hB : B ≤ 50000) (hk : k < 3) : ∃ z3 z4 z5 z6 z7 z8 z9 L', b_law_1 [some a, some (.ref d), some (.int (k : Int)), y3, y4, y5, y6, y7, y8, y9] L = some (.nx [some a, some (.ref d), some (.int (k : Int)), z3, z4, z5, z6, z7, z8, z9], L') ∧ Deck L' d (B + 2000) := by
  have hg : (fCons (fC (.int 200)) (fCons (fC (.int 60)) (fCons (fC (.int 9)) fNil))) [some a, some (.ref d), some (.int (k : Int)), y3, y4, y5, y6, y7, y8, y9] L = some (([200, 60, 9] : List Int).map U.int, L) := rfl
  have e1 := pick (i := k) (fi := fVar 2) hg (by simp) rfl (Ex.refl d _) D.lt (by simp; omega)
  obtain ⟨m, hm1, hm2⟩ : ∃ m : Nat, ([200, 60, 9] : List Int).getD k 0 = (m : Int) ∧ m ≤ 200 := by
    have : k = 0 ∨ k = 1 ∨ k = 2 := by omega
    rcases this with rfl | rfl | rfl
    · exact ⟨200, rfl, by omega⟩
    · exact ⟨60, rfl, by omega⟩
    · exact ⟨9, rfl, by omega⟩
  rw [hm1] at e1
  have D1 := D.new [.lst (([200, 60, 9] : List Int).map U.int)]
  obtain ⟨ra, L2, e2, na, la, _, D2, _⟩ := row_ok (most := m) D1 (by omega) hm2
  obtain ⟨L3, e3, D3⟩ := any_ok D2 (by omega) na la
  have s1 : (fIfS (fNot (fTru (fOwn 2 m_l_any_right (fCons (fVar 1) (fCons (fOwn 2 m_l_row (fCons (fVar 1) (fCons (f2 semIx (fLst (fCons (fC (.int 200)) (fCons (fC (.int 60)) (fCons (fC (.int 9)) fNil)))) (fVar 2)) fNil))) fNil))))) (fRet (fC (.bl false))) fNext) [some a, some (.ref d), some (.int (k : Int)), y3, y4, y5, y6, y7, y8, y9] L = some (.nx [some a, some (.ref d), some (.int (k : Int)), y3, y4, y5, y6, y7, y8, y9], L3) := by
    refine if_no ?_
    rw [fNot_eq, fTru_eq, own2 (fa := fVar 1) (u := .ref d) (L1 := L) rfl (own2 (fa := fVar 1) (u := .ref d) (L1 := L) rfl e1 e2) e3]
    rfl
  obtain ⟨r0, L4, e4, _, _, l0, D4, _⟩ := row_ok (most := 12) D3 (by omega) (by omega)
  have l0' : r0.length ≤ 12 := by omega
  obtain ⟨L5, e5, g5⟩ := back_ok (row := r0) (by omega) (fe := fOwn 2 m_l_row (fCons (fVar 1) (fCons (fC (.int 12)) fNil))) (δ := [some a, some (.ref d), some (.int (k : Int)), y3, y4, y5, y6, y7, y8, y9]) (L := L4) (L0 := L3) (own2 (fa := fVar 1) (u := .ref d) (L1 := L3) (w := .int ((12 : Nat) : Int)) (L2 := L3) rfl rfl e4)
  have cg := cntv_good r0
  have cl := cntv_len r0
  generalize hcs : cntv r0 = cs at e5 cg cl
  rw [← cl] at e5 l0'
  clear cl l0 hcs
  obtain ⟨nf1, nf2⟩ := nth_facts l0' cg
  obtain ⟨wf1, wf2, wf3, wf4⟩ := ways_facts l0'
  have nth := fun M => nth_ok l0' cg M
  generalize hR : rb cs cs.length (upto cs.length) = R at e5 nf1 nf2 nth
  have s2 := setN (i := 3) e5
  simp only [List.set_cons_succ, List.set_cons_zero] at s2
  have D5 := g5.deck D4
  have s3 : (fAsg (fCall semLen (fCons (fVar 3) fNil)) (gN 4)) [some a, some (.ref d), some (.int (k : Int)), some (.tup (R.map U.int)), y4, y5, y6, y7, y8, y9] L5 = some (.nx [some a, some (.ref d), some (.int (k : Int)), some (.tup (R.map U.int)), some (.int (cs.length : Int)), y5, y6, y7, y8, y9], L5) := setN (by rw [fCall_eq, cons_ok (L1 := L5) (u := .tup (R.map U.int)) rfl rfl, Option.bind_some, len_tup, nf2])
  obtain ⟨L6, e6, g6⟩ := rows_with_ok l0' L5
  have s4 := setN (i := 5) (own1 (i := 4) (δ := [some a, some (.ref d), some (.int (k : Int)), some (.tup (R.map U.int)), some (.int (cs.length : Int)), y5, y6, y7, y8, y9]) rfl e6)
  simp only [List.set_cons_succ, List.set_cons_zero] at s4
  have hWn := Wn_prog cs.length
  generalize progW cs.length = W at s4 wf1 wf2 wf3 wf4 e6 hWn
  have s5 : (fAsg (fC (.int 1)) (gN 6)) [some a, some (.ref d), some (.int (k : Int)), some (.tup (R.map U.int)), some (.int (cs.length : Int)), some (.tup (W.map U.int)), y6, y7, y8, y9] L6 = some (.nx [some a, some (.ref d), some (.int (k : Int)), some (.tup (R.map U.int)), some (.int (cs.length : Int)), some (.tup (W.map U.int)), some (.int 1), y7, y8, y9], L6) := rfl
  have hi : fRng2 (fCons (fC (.int 1)) (fCons (f2 semAdd (fVar 4) (fC (.int 1))) fNil)) [some a, some (.ref d), some (.int (k : Int)), some (.tup (R.map U.int)), some (.int (cs.length : Int)), some (.tup (W.map U.int)), some (.int 1), y7, y8, y9] L6 = some (.seq (rangeU 1 cs.length), L6) := rng2_nat rfl (by omega)
  obtain ⟨δ', L7, e7, z7, hδ, hL⟩ := for_seq (us := rangeU 1 cs.length) (body := b_law_2) (g := gN 7)
    (fun j δ' L' => ∃ z7, δ' = [some a, some (.ref d), some (.int (k : Int)), some (.tup (R.map U.int)), some (.int (cs.length : Int)), some (.tup (W.map U.int)), some (.int ((((List.range j).map fun i => i + 1).foldl (· * ·) 1 : Nat) : Int)), z7, y8, y9] ∧ L' = L6) hi ⟨y7, rfl, rfl⟩
    (fun j u δ M hu hP => by
      obtain ⟨z7, hδ, hM⟩ := hP
      subst hδ hM
      obtain ⟨hj, rfl⟩ := rangeU_one hu
      rw [fact_step]
      exact ⟨_, _, rfl, _, M, .inl (fact_turn (by omega) (by omega)), _, rfl, rfl⟩)
  have hnl : (rangeU 1 cs.length).length = cs.length := by unfold rangeU; simp
  rw [hnl, ← wf1] at hδ
  rw [hδ, hL] at e7
  clear hδ hL
  generalize hδ : [some a, some (U.ref d), some (.int (k : Int)), some (.tup (R.map U.int)), some (.int (cs.length : Int)), some (.tup (W.map U.int)), some (.int W.sum), z7, y8, y9] = δ at e7
  have v1 : ∀ M, fVar 1 δ M = some (.ref d, M) := fun M => by rw [← hδ]; rfl
  have v3 : ∀ M, fVar 3 δ M = some (.tup (R.map U.int), M) := fun M => by rw [← hδ]; rfl
  have v4 : ∀ M, fVar 4 δ M = some (.int (cs.length : Int), M) := fun M => by rw [← hδ]; rfl
  have v5 : ∀ M, fVar 5 δ M = some (.tup (W.map U.int), M) := fun M => by rw [← hδ]; rfl
  have v6 : ∀ M, fVar 6 δ M = some (.int W.sum, M) := fun M => by rw [← hδ]; rfl
  have t1 : (fCall semSum (fCons (fVar 5) fNil)) δ L6 = some (.int W.sum, L6) := by rw [fCall_eq, cons_ok (v5 L6) rfl, Option.bind_some, sum_tup]
  have t2 : (fRev (fVar 5)) δ L6 = some (.tup (W.map U.int), L6) := by
    rw [fRev_eq, v5, Option.bind_some]
    show some (U.tup (W.map U.int).reverse, L6) = _
    rw [← List.map_reverse, wf2]
  have t3 : (fCall semLen (fCons (fVar 5) fNil)) δ L6 = some (.int ((cs.length * (cs.length - 1) / 2 : Nat) + 0 + 1 : Int), L6) := by
    rw [fCall_eq, cons_ok (v5 L6) rfl, Option.bind_some, len_tup, wf3]
    congr 3
  have t4 : (f2 semAdd (f2 semDiv (f2 semMul (fVar 4) (f2 semSub (fVar 4) (fC (.int 1)))) (fC (.int 2))) (fC (.int 1))) δ L6 = some (.int ((cs.length * (cs.length - 1) / 2 : Nat) + 0 + 1 : Int), L6) := by
    rw [f2_eq, half_ok (by omega) (by omega) (half12 cs.length (by omega)) v4, Option.bind_some, fC_eq, Option.bind_some, semAdd_int]
  have s7 := if_no (f := fRet (fC (.bl false))) (orF (neI t1 (v6 L6)) (orF (neF (v5 L6) t2) (neI t3 t4)))
  obtain ⟨L8, e8, g8⟩ := count_of_ok R L6 (by omega)
  obtain ⟨L9, e9, g9⟩ := place_ok (row := R) (by omega) L8
  rw [nf1] at e8 e9
  rw [nf2] at e9
  obtain ⟨L10, e10, g10⟩ := nth L9
  have s8 := if_no (f := fRet (fC (.bl false))) (neF (own3 (v4 L6) (own1 (v3 L6) e8) (own1 (v3 L8) e9) e10) (v3 L10))
  have D10 : Deck L10 d (B + 700 + 1 + 700) := g10.deck (g9.deck (g8.deck (g6.deck D5)))
  have hWl : W.length ≤ 100 := by
    have := W_eq (m := cs.length) (by omega)
    have e := Wn_prog cs.length
    rw [hWn] at e
    rw [e]
    exact this.2
  have t5 : (fCall semLen (fCons (fVar 5) fNil)) δ L10 = some (.int (W.length : Int), L10) := by rw [fCall_eq, cons_ok (v5 L10) rfl, Option.bind_some, len_tup]
  obtain ⟨c, L11, e11, q11, D11, _⟩ := nxt (i := 1) (many := (W.length : Int)) D10 (by omega) (by omega) (by omega) (v1 L10) t5
  have s9 := setN (i := 8) e11
  rw [← hδ] at s9
  simp only [List.set_cons_succ, List.set_cons_zero] at s9
  rw [hδ] at s9
  have hc : c < W.length := by omega
  have hcm : W.getD c 0 ∈ W := by rw [List.getD_eq_getElem?_getD, List.getElem?_eq_getElem hc]; exact List.getElem_mem hc
  obtain ⟨w1, w2⟩ := wf4 _ hcm
  generalize hδ2 : [some a, some (U.ref d), some (.int (k : Int)), some (.tup (R.map U.int)), some (.int (cs.length : Int)), some (.tup (W.map U.int)), some (.int W.sum), z7, some (.int (c : Int)), y9] = δ2 at s9
  have t6 : (f2 semIx (fVar 5) (fVar 8)) δ2 L11 = some (.int (W.getD c 0), L11) := by
    rw [← hδ2]
    exact at_intT hc L11
  obtain ⟨p, L12, e12, q12, D12, _⟩ := nxt (i := 1) (many := W.getD c 0) D11 (by omega) (by omega) (by omega) (by rw [← hδ2]; rfl) t6
  have s10 := setN (i := 9) e12
  rw [← hδ2] at s10
  simp only [List.set_cons_succ, List.set_cons_zero] at s10
  rw [hδ2] at s10
  generalize hδ3 : [some a, some (U.ref d), some (.int (k : Int)), some (.tup (R.map U.int)), some (.int (cs.length : Int)), some (.tup (W.map U.int)), some (.int W.sum), z7, some (.int (c : Int)), some (.int (p : Int))] = δ3 at s10
  have u4 : ∀ M, fVar 4 δ3 M = some (.int (cs.length : Int), M) := fun M => by rw [← hδ3]; rfl
  have u8 : ∀ M, fVar 8 δ3 M = some (.int (c : Int), M) := fun M => by rw [← hδ3]; rfl
  have u9 : ∀ M, fVar 9 δ3 M = some (.int (p : Int), M) := fun M => by rw [← hδ3]; rfl
  have htv : tailv (Wj cs.length cs.length) (c : Int) = W.getD c 0 := by
    rw [hWn]
    unfold tailv
    rw [if_pos (by omega), Int.toNat_natCast]
  obtain ⟨ds, d1, d2, d3, d4⟩ := ahead_of l0' cs.length 0 [] (c : Int) (p : Int) (by omega) rfl (fun i hi => by omega) (by omega) (by rw [htv]; exact q12)
  rw [List.nil_append] at d1 d2 d4
  have da : ahv ds 0 = 0 := rfl
  unfold rest at d4
  rw [da, Int.sub_zero] at d4
  have dl : ds.length ≤ 12 := by omega
  obtain ⟨mf1, mf2⟩ := nth_facts dl d2
  have nth2 := fun M => nth_ok dl d2 M
  rw [d3, ← d4, d1] at nth2
  rw [d1] at mf1 mf2
  generalize rb ds cs.length (upto cs.length) = R2 at nth2 mf1 mf2
  obtain ⟨L13, e13, g13⟩ := nth2 L12
  obtain ⟨L14, e14, g14⟩ := place_ok (row := R2) (by omega) L13
  rw [mf1, mf2, ← d1, ← d4] at e14
  obtain ⟨L15, e15, g15⟩ := nth2 L14
  obtain ⟨L16, e16, g16⟩ := count_of_ok R2 L15 (by omega)
  rw [mf1, d3] at e16
  have s11 := if_no (f := fRet (fC (.bl false))) (orF (neI (own1e (own3 (u4 L12) (u8 L12) (u9 L12) e13) e14) (u9 L14)) (neI (own1e (own3 (u4 L14) (u8 L14) (u9 L14) e15) e16) (u8 L16)))
  refine ⟨some (.tup (R.map U.int)), some (.int (cs.length : Int)), some (.tup (W.map U.int)), some (.int W.sum), z7, some (.int (c : Int)), some (.int (p : Int)), L16, ?_, (g16.deck (g15.deck (g14.deck (g13.deck D12)))).mono (by omega)⟩
  unfold b_law_1
  rw [fSeq_nx s1, fSeq_nx s2, fSeq_nx s3, fSeq_nx s4, fSeq_nx s5, fSeq_nx e7, fSeq_nx s7, fSeq_nx s8, fSeq_nx s9, fSeq_nx s10, s11, hδ3]
theorem law_true (ns : List Int) (hl : ns.length ≤ 63) : ∃ L', m_law [.ref 0] [.ro (ns.map U.int)] = some (.bl true, L') := by
  obtain ⟨d, L1, e1, D1, _, _⟩ := Deck.start ns [.ro (ns.map U.int)] 0 rfl hl
  have s1 : (fAsg (fOwn 1 m_l_deck (fCons (fVar 0) fNil)) (gN 1)) [some (.ref 0), none, none, none, none, none, none, none, none, none] [.ro (ns.map U.int)] = some (.nx [some (.ref 0), some (.ref d), none, none, none, none, none, none, none, none], L1) := setN (own1 rfl e1)
  have hi : fRng1 (fCons (fC (.int 3)) fNil) [some (.ref 0), some (.ref d), none, none, none, none, none, none, none, none] L1 = some (.seq (rangeU 0 3), L1) := rng1_nat (n := 3) rfl (by omega)
  obtain ⟨δ2, L2, e2, ⟨y2, y3, y4, y5, y6, y7, y8, y9, hδ⟩, D2⟩ := for_seq (us := rangeU 0 3) (body := b_law_1) (g := gN 2)
    (fun k δ' L' => (∃ y2 y3 y4 y5 y6 y7 y8 y9, δ' = [some (.ref 0), some (.ref d), y2, y3, y4, y5, y6, y7, y8, y9]) ∧ Deck L' d (2000 * k)) hi ⟨⟨none, none, none, none, none, none, none, none, rfl⟩, D1.mono (by omega)⟩
    (fun k u δ M hu hP => by
      obtain ⟨⟨y2, y3, y4, y5, y6, y7, y8, y9, rfl⟩, DM⟩ := hP
      have hk : k < 3 := by
        have := (List.getElem?_eq_some_iff.mp hu).1
        unfold rangeU at this
        simpa using this
      have hue : u = .int (k : Int) := by
        unfold rangeU at hu
        rw [List.getElem?_map, List.getElem?_range hk] at hu
        have : u = U.int ((0 : Int) + (k : Nat)) := (Option.some.inj hu).symm
        rw [Int.zero_add] at this
        exact this
      subst hue
      obtain ⟨z3, z4, z5, z6, z7, z8, z9, M', e, D'⟩ := law1_ok (a := .ref 0) (y3 := y3) (y4 := y4) (y5 := y5) (y6 := y6) (y7 := y7) (y8 := y8) (y9 := y9) DM (by omega) hk
      exact ⟨_, _, rfl, _, M', .inl e, ⟨_, z3, z4, z5, z6, z7, z8, z9, rfl⟩, D'.mono (by omega)⟩)
  refine ⟨L2, fn1 ?_⟩
  show b_law [some (.ref 0), none, none, none, none, none, none, none, none, none] [.ro (ns.map U.int)] = _
  unfold b_law
  rw [fSeq_nx s1, fSeq_nx e2]
  rfl
end Lw
namespace Lw
open PySem L2 MR
set_option maxHeartbeats 4000000
noncomputable def top (i : Nat) : Stmt := PySem.Challenge.pw_belowpoints_k38_whole_rows_and_counts.main.body.getD i (.Pass ⟨0, 0, 0, 0⟩)
noncomputable abbrev s_l_mix : Stmt := top 17
theorem sc_l_mix : FnScope ["cell", "k", "number"] ["cell", "k"] (defScope s_l_mix) := ⟨rfl, rfl, rfl, by decide +kernel, rfl, by decide +kernel, by decide +kernel⟩
noncomputable abbrev s_l_next : Stmt := top 19
theorem sc_l_next : FnScope ["deck", "many", "cell", "found"] ["deck", "many"] (defScope s_l_next) := ⟨rfl, rfl, rfl, by decide +kernel, rfl, by decide +kernel, by decide +kernel⟩
noncomputable abbrev s_many_greater : Stmt := top 11
theorem sc_many_greater : FnScope ["numbers", "number"] ["numbers", "number"] (defScope s_many_greater) := ⟨rfl, rfl, rfl, by decide +kernel, rfl, by decide +kernel, by decide +kernel⟩
noncomputable abbrev s_counts_of : Stmt := top 5
theorem sc_counts_of : FnScope ["row"] ["row"] (defScope s_counts_of) := ⟨rfl, rfl, rfl, by decide +kernel, rfl, by decide +kernel, by decide +kernel⟩
noncomputable abbrev s_count_of : Stmt := top 6
theorem sc_count_of : FnScope ["row"] ["row"] (defScope s_count_of) := ⟨rfl, rfl, rfl, by decide +kernel, rfl, by decide +kernel, by decide +kernel⟩
noncomputable abbrev s_need_counts : Stmt := top 12
theorem sc_need_counts : FnScope ["counts", "place", "count"] ["counts"] (defScope s_need_counts) := ⟨rfl, rfl, rfl, by decide +kernel, rfl, by decide +kernel, by decide +kernel⟩
noncomputable abbrev s_row_of : Stmt := top 7
theorem sc_row_of : FnScope ["counts", "left", "backwards", "place"] ["counts"] (defScope s_row_of) := ⟨rfl, rfl, rfl, by decide +kernel, rfl, by decide +kernel, by decide +kernel⟩
noncomputable abbrev s_l_any_right : Stmt := top 21
theorem sc_l_any_right : FnScope ["deck", "row", "many", "back", "rising", "at", "other"] ["deck", "row"] (defScope s_l_any_right) := ⟨rfl, rfl, rfl, by decide +kernel, rfl, by decide +kernel, by decide +kernel⟩
noncomputable abbrev s_l_deck : Stmt := top 18
theorem sc_l_deck : FnScope ["script"] ["script"] (defScope s_l_deck) := ⟨rfl, rfl, rfl, by decide +kernel, rfl, by decide +kernel, by decide +kernel⟩
noncomputable abbrev s_l_row : Stmt := top 20
theorem sc_l_row : FnScope ["deck", "most", "many", "way", "step", "wide", "low", "left", "k", "at"] ["deck", "most"] (defScope s_l_row) := ⟨rfl, rfl, rfl, by decide +kernel, rfl, by decide +kernel, by decide +kernel⟩
noncomputable abbrev s_ways_with_one_more : Stmt := top 14
theorem sc_ways_with_one_more : FnScope ["ways", "most"] ["ways", "most"] (defScope s_ways_with_one_more) := ⟨rfl, rfl, rfl, by decide +kernel, rfl, by decide +kernel, by decide +kernel⟩
noncomputable abbrev s_ways_from_each : Stmt := top 13
theorem sc_ways_from_each : FnScope ["many", "backwards", "place"] ["many"] (defScope s_ways_from_each) := ⟨rfl, rfl, rfl, by decide +kernel, rfl, by decide +kernel, by decide +kernel⟩
noncomputable abbrev s_ways_to : Stmt := top 15
theorem sc_ways_to : FnScope ["ways", "total"] ["ways", "total"] (defScope s_ways_to) := ⟨rfl, rfl, rfl, by decide +kernel, rfl, by decide +kernel, by decide +kernel⟩
noncomputable abbrev s_nth_row : Stmt := top 9
theorem sc_nth_row : FnScope ["many", "count", "place", "ways", "counts", "left", "ahead", "turn", "own"] ["many", "count", "place"] (defScope s_nth_row) := ⟨rfl, rfl, rfl, by decide +kernel, rfl, by decide +kernel, by decide +kernel⟩
noncomputable abbrev s_place_of_row : Stmt := top 10
theorem sc_place_of_row : FnScope ["row", "ways", "counts", "left", "ahead", "turn", "own"] ["row"] (defScope s_place_of_row) := ⟨rfl, rfl, rfl, by decide +kernel, rfl, by decide +kernel, by decide +kernel⟩
noncomputable abbrev s_rows_with : Stmt := top 8
theorem sc_rows_with : FnScope ["many"] ["many"] (defScope s_rows_with) := ⟨rfl, rfl, rfl, by decide +kernel, rfl, by decide +kernel, by decide +kernel⟩
noncomputable abbrev s_law : Stmt := top 22
theorem sc_law : FnScope ["script", "deck", "turn", "row", "many", "ways", "total", "number", "count", "place"] ["script"] (defScope s_law) := ⟨rfl, rfl, rfl, by decide +kernel, rfl, by decide +kernel, by decide +kernel⟩
set_option genInjectivity false
set_option genSizeOf false
set_option genSizeOfSpec false
structure Defs (K : PySem.W.Frag) (mg : Str → Option Value) where
  f_l_mix : Addr
  d_l_mix : FuncData
  F_l_mix : Fun K "_law_mix" "_law_mix" s_l_mix f_l_mix d_l_mix
  b_l_mix : Binds K d_l_mix ["cell", "k"] []
  g_l_mix : mg "_law_mix" = some (.ref f_l_mix)
  f_l_next : Addr
  d_l_next : FuncData
  F_l_next : Fun K "_law_next" "_law_next" s_l_next f_l_next d_l_next
  b_l_next : Binds K d_l_next ["deck", "many"] []
  g_l_next : mg "_law_next" = some (.ref f_l_next)
  f_many_greater : Addr
  d_many_greater : FuncData
  F_many_greater : Fun K "many_greater" "many_greater" s_many_greater f_many_greater d_many_greater
  b_many_greater : Binds K d_many_greater ["numbers", "number"] []
  g_many_greater : mg "many_greater" = some (.ref f_many_greater)
  f_counts_of : Addr
  d_counts_of : FuncData
  F_counts_of : Fun K "counts_of" "counts_of" s_counts_of f_counts_of d_counts_of
  b_counts_of : Binds K d_counts_of ["row"] []
  g_counts_of : mg "counts_of" = some (.ref f_counts_of)
  f_count_of : Addr
  d_count_of : FuncData
  F_count_of : Fun K "count_of" "count_of" s_count_of f_count_of d_count_of
  b_count_of : Binds K d_count_of ["row"] []
  g_count_of : mg "count_of" = some (.ref f_count_of)
  f_need_counts : Addr
  d_need_counts : FuncData
  F_need_counts : Fun K "need_counts" "need_counts" s_need_counts f_need_counts d_need_counts
  b_need_counts : Binds K d_need_counts ["counts"] []
  g_need_counts : mg "need_counts" = some (.ref f_need_counts)
  f_row_of : Addr
  d_row_of : FuncData
  F_row_of : Fun K "row_of" "row_of" s_row_of f_row_of d_row_of
  b_row_of : Binds K d_row_of ["counts"] []
  g_row_of : mg "row_of" = some (.ref f_row_of)
  f_l_any_right : Addr
  d_l_any_right : FuncData
  F_l_any_right : Fun K "_law_any_right" "_law_any_right" s_l_any_right f_l_any_right d_l_any_right
  b_l_any_right : Binds K d_l_any_right ["deck", "row"] []
  g_l_any_right : mg "_law_any_right" = some (.ref f_l_any_right)
  f_l_deck : Addr
  d_l_deck : FuncData
  F_l_deck : Fun K "_law_deck" "_law_deck" s_l_deck f_l_deck d_l_deck
  b_l_deck : Binds K d_l_deck ["script"] []
  g_l_deck : mg "_law_deck" = some (.ref f_l_deck)
  f_l_row : Addr
  d_l_row : FuncData
  F_l_row : Fun K "_law_row" "_law_row" s_l_row f_l_row d_l_row
  b_l_row : Binds K d_l_row ["deck", "most"] []
  g_l_row : mg "_law_row" = some (.ref f_l_row)
  f_ways_with_one_more : Addr
  d_ways_with_one_more : FuncData
  F_ways_with_one_more : Fun K "ways_with_one_more" "ways_with_one_more" s_ways_with_one_more f_ways_with_one_more d_ways_with_one_more
  b_ways_with_one_more : Binds K d_ways_with_one_more ["ways", "most"] []
  g_ways_with_one_more : mg "ways_with_one_more" = some (.ref f_ways_with_one_more)
  f_ways_from_each : Addr
  d_ways_from_each : FuncData
  F_ways_from_each : Fun K "ways_from_each" "ways_from_each" s_ways_from_each f_ways_from_each d_ways_from_each
  b_ways_from_each : Binds K d_ways_from_each ["many"] []
  g_ways_from_each : mg "ways_from_each" = some (.ref f_ways_from_each)
  f_ways_to : Addr
  d_ways_to : FuncData
  F_ways_to : Fun K "ways_to" "ways_to" s_ways_to f_ways_to d_ways_to
  b_ways_to : Binds K d_ways_to ["ways", "total"] []
  g_ways_to : mg "ways_to" = some (.ref f_ways_to)
  f_nth_row : Addr
  d_nth_row : FuncData
  F_nth_row : Fun K "nth_row" "nth_row" s_nth_row f_nth_row d_nth_row
  b_nth_row : Binds K d_nth_row ["many", "count", "place"] []
  g_nth_row : mg "nth_row" = some (.ref f_nth_row)
  f_place_of_row : Addr
  d_place_of_row : FuncData
  F_place_of_row : Fun K "place_of_row" "place_of_row" s_place_of_row f_place_of_row d_place_of_row
  b_place_of_row : Binds K d_place_of_row ["row"] []
  g_place_of_row : mg "place_of_row" = some (.ref f_place_of_row)
  f_rows_with : Addr
  d_rows_with : FuncData
  F_rows_with : Fun K "rows_with" "rows_with" s_rows_with f_rows_with d_rows_with
  b_rows_with : Binds K d_rows_with ["many"] []
  g_rows_with : mg "rows_with" = some (.ref f_rows_with)
  f_law : Addr
  d_law : FuncData
  F_law : Fun K "law" "law" s_law f_law d_law
  b_law : Binds K d_law ["script"] []
  g_law : mg "law" = some (.ref f_law)
  n_enumerate : mg "enumerate" = none
  n_int : mg "int" = none
  n_len : mg "len" = none
  n_list : mg "list" = none
  n_max : mg "max" = none
  n_range : mg "range" = none
  n_reversed : mg "reversed" = none
  n_sorted : mg "sorted" = none
  n_sum : mg "sum" = none
  n_tuple : mg "tuple" = none
section
variable {P : Program} {w : World} {K : PySem.W.Frag} {mg : Str → Option Value} {base : Heap}
theorem ok_l_mix (C : Defs K mg) : FnOk P w K mg base CX0 1 C.f_l_mix C.d_l_mix ["cell", "k"] (spF K 2 m_l_mix) := by
  refine Fun.okF (N := ["cell", "k", "number"]) C.F_l_mix sc_l_mix (fun cdv A outer s H E hr => ?_)
  have hu := hr.units
  refine psf_cons ?s0 ?t0
  case s0 => exact (psf_set (i := 2) (by exact sc_l_mix.nd) (pf_op op_addA sem_add (pf_op op_mod sem_mod (pf_v 0) pf_int) (pf_op op_mulA sem_mul (pf_op op_mulA sem_mul pf_int (pf_v 1)) (pf_v 1))))
  refine psf_cons ?s1 ?t1
  case s1 => exact (psf_set (i := 2) (by exact sc_l_mix.nd) (pf_op op_mod sem_mod (pf_op op_addA sem_add (pf_v 2) (pf_op op_mulA sem_mul pf_int (pf_v 1))) pf_int))
  refine psf_cons ?s2 ?t2
  case s2 => exact (psf_set (i := 2) (by exact sc_l_mix.nd) (pf_op op_mod sem_mod (pf_op op_mulA sem_mul (pf_v 2) (pf_v 2)) pf_int))
  exact (psf_one (psf_ret (pf_op op_fdivW sem_div (pf_op op_mod sem_mod (pf_op op_mulA sem_mul (pf_v 2) (pf_op op_addA sem_add (pf_v 2) pf_int)) pf_int) pf_int)))
theorem ok_l_next (C : Defs K mg) : FnOk P w K mg base CX0 2 C.f_l_next C.d_l_next ["deck", "many"] (spF K 2 m_l_next) := by
  refine Fun.okF (N := ["deck", "many", "cell", "found"]) C.F_l_next sc_l_next (fun cdv A outer s H E hr => ?_)
  have hu := hr.units
  refine psf_cons ?s0 ?t0
  case s0 => exact (psf_if (PWF.pt (pwf_and (ptf_cmp (op_eqU hu) sem_eq (pf_ix ix_seq sem_ix (pf_v 0) pf_int (fun _ _ => rfl)) pf_int (nomark _)) (pwf_and1 (ptf_cmp op_lt sem_lt (pf_ix ix_seq sem_ix (pf_v 0) pf_int (fun _ _ => rfl)) (pf_callB call_len sem_len (by rfl) C.n_len PySem.boot_len (paf_cons (pf_ix ix_seq sem_ix (pf_v 0) pf_int (fun _ _ => rfl)) paf_nil)) (nomark _))))) (psf_cons (psf_set (i := 2) (by exact sc_l_next.nd) (pf_ix ix_seq sem_ix (pf_ix ix_seq sem_ix (pf_v 0) pf_int (fun _ _ => rfl)) (pf_ix ix_seq sem_ix (pf_v 0) pf_int (fun _ _ => rfl)) (fun _ _ => rfl))) (psf_cons (psf_asg (pf_op op_addA sem_add (pf_ix ix_seq sem_ix (pf_v 0) pf_int (fun _ _ => rfl)) pf_int) (pgf_sub (pf_v 0) pf_int)) (psf_cons (psf_if (ptf_cmp op_lt sem_lt (pf_v 2) (pf_op op_pow sem_pow pf_int pf_int) (nomark _)) (psf_one (psf_ret (pf_op op_mod sem_mod (pf_call (ok_l_mix C) (hr.mono (by decide)) (by rfl) C.g_l_mix C.F_l_mix.kp C.b_l_mix (paf_cons (pf_v 2) (paf_cons (pf_ix ix_seq sem_ix (pf_v 0) pf_int (fun _ _ => rfl)) paf_nil))) (pf_v 1)))) psf_nil) (psf_one (psf_asg (pf_v 2) (pgf_sub (pf_v 0) pf_int)))))) psf_nil)
  refine psf_cons ?s1 ?t1
  case s1 => exact (psf_if (ptf_cmp op_gt sem_gt (pf_ix ix_seq sem_ix (pf_v 0) pf_int (fun _ _ => rfl)) pf_int (nomark _)) (psf_cons (psf_set (i := 3) (by exact sc_l_next.nd) (pf_op op_mod sem_mod (pf_ix ix_seq sem_ix (pf_v 0) pf_int (fun _ _ => rfl)) (pf_v 1))) (psf_cons (psf_asg (pf_op op_fdivW sem_div (pf_ix ix_seq sem_ix (pf_v 0) pf_int (fun _ _ => rfl)) (pf_v 1)) (pgf_sub (pf_v 0) pf_int)) (psf_one (psf_ret (pf_v 3))))) psf_nil)
  refine psf_cons ?s2 ?t2
  case s2 => exact (psf_asg (pf_op op_addA sem_add (pf_ix ix_seq sem_ix (pf_v 0) pf_int (fun _ _ => rfl)) pf_int) (pgf_sub (pf_v 0) pf_int))
  exact (psf_one (psf_ret (pf_op op_mod sem_mod (pf_call (ok_l_mix C) (hr.mono (by decide)) (by rfl) C.g_l_mix C.F_l_mix.kp C.b_l_mix (paf_cons (pf_ix ix_seq sem_ix (pf_v 0) pf_int (fun _ _ => rfl)) (paf_cons (pf_op op_addA sem_add (pf_ix ix_seq sem_ix (pf_v 0) pf_int (fun _ _ => rfl)) pf_int) paf_nil))) (pf_v 1))))
theorem ok_many_greater (C : Defs K mg) : FnOk P w K mg base CX0 1 C.f_many_greater C.d_many_greater ["numbers", "number"] (spF K 2 m_many_greater) := by
  refine Fun.okF (N := ["numbers", "number"]) C.F_many_greater sc_many_greater (fun cdv A outer s H E hr => ?_)
  have hu := hr.units
  exact (psf_one (psf_ret (pf_callB call_len sem_len (by rfl) C.n_len PySem.boot_len (paf_cons (pf_compT (N' := ["other", "number"]) (ix := [none, some 1]) ⟨rfl, rfl, rfl, rfl, rfl, rfl⟩ rfl (pif_seq (pf_v 0)) (fun _ _ _ _ _ _ => (pgf_name (i := 0) (show List.Nodup (α := Str) ["other", "number"] by decide +kernel))) (fun _ _ _ _ _ _ => (ptf_cmp op_gt sem_gt (pf_v 0) (pf_v 1) (nomark _))) (fun _ _ _ _ _ _ => (pf_v 0))) paf_nil))))
theorem ok_counts_of (C : Defs K mg) : FnOk P w K mg base CX0 2 C.f_counts_of C.d_counts_of ["row"] (spF K 1 m_counts_of) := by
  refine Fun.okF (N := ["row"]) C.F_counts_of sc_counts_of (fun cdv A outer s H E hr => ?_)
  have hu := hr.units
  exact (psf_one (psf_ret (pf_callTy call_tuple_of sem_tuple (by rfl) C.n_tuple (by decide +kernel) (paf_cons (pf_comp (N' := ["place", "number", "row"]) (ix := [none, none, some 0]) ⟨rfl, rfl, rfl, rfl, rfl, rfl⟩ rfl (pif_enumA (by rfl) C.n_enumerate (paf_cons (pf_v 0) paf_nil)) (fun _ _ _ _ _ _ => (pgf_tup rfl (pgsf_cons (pgf_name (i := 0) (show List.Nodup (α := Str) ["place", "number", "row"] by decide +kernel)) (pgsf_cons (pgf_name (i := 1) (show List.Nodup (α := Str) ["place", "number", "row"] by decide +kernel)) pgsf_nil)))) (fun _ _ _ _ _ _ => (pf_call (ok_many_greater C) (hr.mono (by decide)) (by rfl) C.g_many_greater C.F_many_greater.kp C.b_many_greater (paf_cons (pf_slice sl_all sem_sl (pf_v 2) pof_none (pof_some (pf_v 0))) (paf_cons (pf_v 1) paf_nil))))) paf_nil))))
theorem ok_count_of (C : Defs K mg) : FnOk P w K mg base CX0 3 C.f_count_of C.d_count_of ["row"] (spF K 1 m_count_of) := by
  refine Fun.okF (N := ["row"]) C.F_count_of sc_count_of (fun cdv A outer s H E hr => ?_)
  have hu := hr.units
  exact (psf_one (psf_ret (pf_callB (call_sumA rfl) sem_sum (by rfl) C.n_sum PyProof.Rows.boot_sum (paf_cons (pf_call (ok_counts_of C) (hr.mono (by decide)) (by rfl) C.g_counts_of C.F_counts_of.kp C.b_counts_of (paf_cons (pf_v 0) paf_nil)) paf_nil))))
theorem ok_need_counts (C : Defs K mg) : FnOk P w K mg base CX0 1 C.f_need_counts C.d_need_counts ["counts"] (spF K 1 m_need_counts) := by
  refine Fun.okF (N := ["counts", "place", "count"]) C.F_need_counts sc_need_counts (fun cdv A outer s H E hr => ?_)
  have hu := hr.units
  exact (psf_one (psf_for PassesOwn.never rfl (pif_enumA (by rfl) C.n_enumerate (paf_cons (pf_v 0) paf_nil)) (pgf_tup rfl (pgsf_cons (pgf_name (i := 1) (by exact sc_need_counts.nd)) (pgsf_cons (pgf_name (i := 2) (by exact sc_need_counts.nd)) pgsf_nil))) (psf_one (psf_if (PWF.pt (pwf_or (ptf_cmp op_lt sem_lt (pf_v 2) pf_int (nomark _)) (pwf_or1 (ptf_cmp op_gt sem_gt (pf_v 2) (pf_v 1) (nomark _))))) (psf_one psf_never) psf_nil))))
theorem ok_row_of (C : Defs K mg) : FnOk P w K mg base CX0 2 C.f_row_of C.d_row_of ["counts"] (spF K 1 m_row_of) := by
  refine Fun.okF (N := ["counts", "left", "backwards", "place"]) C.F_row_of sc_row_of (fun cdv A outer s H E hr => ?_)
  have hu := hr.units
  refine psf_cons ?s0 ?t0
  case s0 => exact (psf_expr (pf_call (ok_need_counts C) (hr.mono (by decide)) (by rfl) C.g_need_counts C.F_need_counts.kp C.b_need_counts (paf_cons (pf_v 0) paf_nil)))
  refine psf_cons ?s1 ?t1
  case s1 => exact (psf_set (i := 1) (by exact sc_row_of.nd) (pf_lrng2 rfl (by rfl) C.n_list (by rfl) C.n_range (paf_cons pf_int (paf_cons (pf_op op_addA sem_add (pf_callB call_len sem_len (by rfl) C.n_len PySem.boot_len (paf_cons (pf_v 0) paf_nil)) pf_int) paf_nil))))
  refine psf_cons ?s2 ?t2
  case s2 => exact (psf_set (i := 2) (by exact sc_row_of.nd) (pf_lst paf_nil))
  refine psf_cons ?s3 ?t3
  case s3 => exact (psf_for PassesOwn.never rfl (pif_rangeD (by rfl) C.n_range (paf_cons (pf_op op_sub sem_sub (pf_callB call_len sem_len (by rfl) C.n_len PySem.boot_len (paf_cons (pf_v 0) paf_nil)) pf_int) (paf_cons (pf_neg pf_int) (paf_cons (pf_neg pf_int) paf_nil)))) (pgf_name (i := 3) (by exact sc_row_of.nd)) (psf_one (psf_expr (pf_bm PySem.F.plainAttrs_list PySem.F.slot_list_append PySem.F.type_list_append mt_append sem_append (pf_v 2) (paf_cons (pf_bm PySem.F.plainAttrs_list PySem.F.slot_list_pop PySem.F.type_list_pop mt_popAt sem_pop (pf_v 1) (paf_cons (pf_op op_sub sem_sub (pf_v 3) (pf_ix ix_seq sem_ix (pf_v 0) (pf_v 3) (fun _ _ => rfl))) paf_nil)) paf_nil)))))
  exact (psf_one (psf_ret (pf_trev rfl (by rfl) C.n_tuple (by rfl) C.n_reversed (paf_cons (pf_v 2) paf_nil))))
theorem ok_l_any_right (C : Defs K mg) : FnOk P w K mg base CX0 4 C.f_l_any_right C.d_l_any_right ["deck", "row"] (spF K 2 m_l_any_right) := by
  refine Fun.okF (N := ["deck", "row", "many", "back", "rising", "at", "other"]) C.F_l_any_right sc_l_any_right (fun cdv A outer s H E hr => ?_)
  have hu := hr.units
  refine psf_cons ?s0 ?t0
  case s0 => exact (psf_set (i := 2) (by exact sc_l_any_right.nd) (pf_callB call_len sem_len (by rfl) C.n_len PySem.boot_len (paf_cons (pf_v 1) paf_nil)))
  refine psf_cons ?s1 ?t1
  case s1 => exact (psf_set (i := 3) (by exact sc_l_any_right.nd) (pf_call (ok_row_of C) (hr.mono (by decide)) (by rfl) C.g_row_of C.F_row_of.kp C.b_row_of (paf_cons (pf_call (ok_counts_of C) (hr.mono (by decide)) (by rfl) C.g_counts_of C.F_counts_of.kp C.b_counts_of (paf_cons (pf_v 1) paf_nil)) paf_nil)))
  refine psf_cons ?s2 ?t2
  case s2 => exact (psf_set (i := 4) (by exact sc_l_any_right.nd) (pf_callB (call_sortI rfl) sem_sortI (by rfl) C.n_sorted PyProof.Rows.boot_sorted (paf_cons (pf_v 1) paf_nil)))
  refine psf_cons ?s3 ?t3
  case s3 => exact (psf_if (PWF.pt (pwf_or (ptf_cmp (op_neU hu) sem_ne (pf_callTy call_tuple_of sem_tuple (by rfl) C.n_tuple (by decide +kernel) (paf_cons (pf_comp (N' := ["number", "rising"]) (ix := [none, some 4]) ⟨rfl, rfl, rfl, rfl, rfl, rfl⟩ rfl (pif_seq (pf_v 3)) (fun _ _ _ _ _ _ => (pgf_name (i := 0) (show List.Nodup (α := Str) ["number", "rising"] by decide +kernel))) (fun _ _ _ _ _ _ => (pf_ix ix_seq sem_ix (pf_v 1) (pf_op op_sub sem_sub (pf_v 0) pf_int) (fun _ _ => rfl)))) paf_nil)) (pf_v 1) (nomark _)) (pwf_or1 (ptf_cmp (op_neU hu) sem_ne (pf_call (ok_counts_of C) (hr.mono (by decide)) (by rfl) C.g_counts_of C.F_counts_of.kp C.b_counts_of (paf_cons (pf_v 3) paf_nil)) (pf_call (ok_counts_of C) (hr.mono (by decide)) (by rfl) C.g_counts_of C.F_counts_of.kp C.b_counts_of (paf_cons (pf_v 1) paf_nil)) (nomark _))))) (psf_one (psf_ret pf_bl)) psf_nil)
  refine psf_cons ?s4 ?t4
  case s4 => exact (psf_if (PWF.pt (pwf_or (ptf_cmp (op_neU hu) sem_ne (pf_call (ok_count_of C) (hr.mono (by decide)) (by rfl) C.g_count_of C.F_count_of.kp C.b_count_of (paf_cons (pf_rev (pf_v 1)) paf_nil)) (pf_op op_sub sem_sub (pf_op op_fdivW sem_div (pf_op op_mulA sem_mul (pf_v 2) (pf_op op_sub sem_sub (pf_v 2) pf_int)) pf_int) (pf_call (ok_count_of C) (hr.mono (by decide)) (by rfl) C.g_count_of C.F_count_of.kp C.b_count_of (paf_cons (pf_v 1) paf_nil))) (nomark _)) (pwf_or1 (ptf_cmp (op_neU hu) sem_ne (pf_call (ok_count_of C) (hr.mono (by decide)) (by rfl) C.g_count_of C.F_count_of.kp C.b_count_of (paf_cons (pf_v 1) paf_nil)) (pf_callB (call_sumA rfl) sem_sum (by rfl) C.n_sum PyProof.Rows.boot_sum (paf_cons (pf_call (ok_counts_of C) (hr.mono (by decide)) (by rfl) C.g_counts_of C.F_counts_of.kp C.b_counts_of (paf_cons (pf_v 1) paf_nil)) paf_nil)) (nomark _))))) (psf_one (psf_ret pf_bl)) psf_nil)
  refine psf_cons ?s5 ?t5
  case s5 => exact (psf_if (ptf_cmp op_gt sem_gt (pf_v 2) pf_int (nomark _)) (psf_cons (psf_set (i := 5) (by exact sc_l_any_right.nd) (pf_call (ok_l_next C) (hr.mono (by decide)) (by rfl) C.g_l_next C.F_l_next.kp C.b_l_next (paf_cons (pf_v 0) (paf_cons (pf_op op_sub sem_sub (pf_v 2) pf_int) paf_nil)))) (psf_cons (psf_set (i := 6) (by exact sc_l_any_right.nd) (pf_op op_addE sem_addA (pf_op op_addE sem_addA (pf_slice sl_allA sem_slA (pf_v 1) pof_none (pof_some (pf_v 5))) (pf_tup (paf_cons (pf_ix ix_seq sem_ix (pf_v 1) (pf_op op_addE sem_addA (pf_v 5) pf_int) (fun _ _ => rfl)) (paf_cons (pf_ix ix_seq sem_ix (pf_v 1) (pf_v 5) (fun _ _ => rfl)) paf_nil)))) (pf_slice sl_allA sem_slA (pf_v 1) (pof_some (pf_op op_addE sem_addA (pf_v 5) pf_int)) pof_none))) (psf_one (psf_if (ptf_cmp (op_neU hu) sem_ne (pf_op op_sub sem_sub (pf_call (ok_count_of C) (hr.mono (by decide)) (by rfl) C.g_count_of C.F_count_of.kp C.b_count_of (paf_cons (pf_v 6) paf_nil)) (pf_call (ok_count_of C) (hr.mono (by decide)) (by rfl) C.g_count_of C.F_count_of.kp C.b_count_of (paf_cons (pf_v 1) paf_nil))) (pf_ix ix_seq sem_ix (pf_lst (paf_cons (pf_neg pf_int) (paf_cons pf_int paf_nil))) (pf_callTy call_int1 sem_int (by rfl) C.n_int (by decide +kernel) (paf_cons (pf_cmp op_lt sem_lt (pf_ix ix_seq sem_ix (pf_v 1) (pf_v 5) (fun _ _ => rfl)) (pf_ix ix_seq sem_ix (pf_v 1) (pf_op op_addE sem_addA (pf_v 5) pf_int) (fun _ _ => rfl)) (nomark _)) paf_nil)) (fun _ _ => rfl)) (nomark _)) (psf_one (psf_ret pf_bl)) psf_nil)))) psf_nil)
  exact (psf_one (psf_ret pf_bl))
theorem ok_l_deck (C : Defs K mg) : FnOk P w K mg base CX0 1 C.f_l_deck C.d_l_deck ["script"] (spF K 1 m_l_deck) := by
  refine Fun.okF (N := ["script"]) C.F_l_deck sc_l_deck (fun cdv A outer s H E hr => ?_)
  have hu := hr.units
  exact (psf_one (psf_ret (pf_lst (by refine paf_cons (pf_slice sl_all sem_sl (pf_v 0) pof_none (pof_some pf_int)) ?_; refine paf_cons pf_int ?_; refine paf_cons pf_int ?_; refine paf_cons pf_int ?_; refine paf_cons (pf_callB (call_sumA rfl) sem_sum (by rfl) C.n_sum PyProof.Rows.boot_sum (paf_cons (pf_slice sl_all sem_sl (pf_v 0) pof_none (pof_some pf_int)) paf_nil)) ?_; exact paf_nil))))
theorem ok_l_row (C : Defs K mg) : FnOk P w K mg base CX0 3 C.f_l_row C.d_l_row ["deck", "most"] (spF K 2 m_l_row) := by
  refine Fun.okF (N := ["deck", "most", "many", "way", "step", "wide", "low", "left", "k", "at"]) C.F_l_row sc_l_row (fun cdv A outer s H E hr => ?_)
  have hu := hr.units
  refine psf_cons ?s0 ?t0
  case s0 => exact (psf_set (i := 2) (by exact sc_l_row.nd) (pf_ix ix_seq sem_ix (pf_lst (paf_cons (pf_call (ok_l_next C) (hr.mono (by decide)) (by rfl) C.g_l_next C.F_l_next.kp C.b_l_next (paf_cons (pf_v 0) (paf_cons (pf_op op_addA sem_add (pf_v 1) pf_int) paf_nil))) (paf_cons (pf_call (ok_l_next C) (hr.mono (by decide)) (by rfl) C.g_l_next C.F_l_next.kp C.b_l_next (paf_cons (pf_v 0) (paf_cons pf_int paf_nil))) (paf_cons (pf_v 1) paf_nil)))) (pf_call (ok_l_next C) (hr.mono (by decide)) (by rfl) C.g_l_next C.F_l_next.kp C.b_l_next (paf_cons (pf_v 0) (paf_cons pf_int paf_nil))) (fun _ _ => rfl)))
  refine psf_cons ?s1 ?t1
  case s1 => exact (psf_set (i := 3) (by exact sc_l_row.nd) (pf_call (ok_l_next C) (hr.mono (by decide)) (by rfl) C.g_l_next C.F_l_next.kp C.b_l_next (paf_cons (pf_v 0) (paf_cons pf_int paf_nil))))
  refine psf_cons ?s2 ?t2
  case s2 => exact (psf_set (i := 4) (by exact sc_l_row.nd) (pf_call (ok_l_next C) (hr.mono (by decide)) (by rfl) C.g_l_next C.F_l_next.kp C.b_l_next (paf_cons (pf_v 0) (paf_cons pf_int paf_nil))))
  refine psf_cons ?s3 ?t3
  case s3 => exact (psf_set (i := 5) (by exact sc_l_row.nd) (pf_ix ix_seq sem_ix (pf_lst (paf_cons pf_int (paf_cons pf_int (paf_cons (pf_op op_pow sem_pow pf_int pf_int) (paf_cons (pf_op op_fdivW sem_div pf_int (pf_callB (call_maxA rfl) sem_max (by rfl) C.n_max PyProof.Rows.boot_max (paf_cons pf_int (paf_cons (pf_v 2) paf_nil)))) paf_nil))))) (pf_v 4) (fun _ _ => rfl)))
  refine psf_cons ?s4 ?t4
  case s4 => exact (psf_set (i := 6) (by exact sc_l_row.nd) (pf_ix ix_seq sem_ix (pf_lst (paf_cons pf_int (paf_cons (pf_op op_sub sem_sub pf_int (pf_call (ok_l_next C) (hr.mono (by decide)) (by rfl) C.g_l_next C.F_l_next.kp C.b_l_next (paf_cons (pf_v 0) (paf_cons pf_int paf_nil)))) (paf_cons (pf_op op_sub sem_sub pf_int pf_int) (paf_cons (pf_op op_sub sem_sub pf_int (pf_op op_mulA sem_mul pf_int (pf_v 2))) paf_nil))))) (pf_call (ok_l_next C) (hr.mono (by decide)) (by rfl) C.g_l_next C.F_l_next.kp C.b_l_next (paf_cons (pf_v 0) (paf_cons pf_int paf_nil))) (fun _ _ => rfl)))
  refine psf_cons ?s5 ?t5
  case s5 => exact (psf_if (ptf_cmp op_gt sem_gt (pf_v 4) pf_int (nomark _)) (psf_one (psf_set (i := 6) (by exact sc_l_row.nd) (pf_op op_sub sem_sub pf_int pf_int))) psf_nil)
  refine psf_cons ?s6 ?t6
  case s6 => exact (psf_set (i := 7) (by exact sc_l_row.nd) (pf_lst paf_nil))
  refine psf_cons ?s7 ?t7
  case s7 => exact (psf_for PassesOwn.never rfl (pif_range1 (by rfl) C.n_range (paf_cons (pf_v 2) paf_nil)) (pgf_name (i := 8) (by exact sc_l_row.nd)) (psf_cons (psf_expr (pf_bm PySem.F.plainAttrs_list PySem.F.slot_list_append PySem.F.type_list_append mt_append sem_append (pf_v 7) (paf_cons (pf_v 6) paf_nil))) (psf_one (psf_set (i := 6) (by exact sc_l_row.nd) (pf_op op_addA sem_add (pf_op op_addA sem_add (pf_v 6) pf_int) (pf_op op_mod sem_mod (pf_op op_addA sem_add (pf_op op_mulA sem_mul (pf_call (ok_l_next C) (hr.mono (by decide)) (by rfl) C.g_l_next C.F_l_next.kp C.b_l_next (paf_cons (pf_v 0) (paf_cons (pf_op op_pow sem_pow pf_int pf_int) paf_nil))) (pf_op op_pow sem_pow pf_int pf_int)) (pf_call (ok_l_next C) (hr.mono (by decide)) (by rfl) C.g_l_next C.F_l_next.kp C.b_l_next (paf_cons (pf_v 0) (paf_cons (pf_op op_pow sem_pow pf_int pf_int) paf_nil)))) (pf_v 5)))))))
  refine psf_cons ?s8 ?t8
  case s8 => exact (psf_if (ptf_cmp (op_eqU hu) sem_eq (pf_v 3) pf_int (nomark _)) (psf_one (psf_set (i := 7) (by exact sc_l_row.nd) (pf_rev (pf_v 7)))) psf_nil)
  refine psf_cons ?s9 ?t9
  case s9 => exact (psf_if (ptf_cmp op_gt sem_gt (pf_v 3) pf_int (nomark _)) (psf_one (psf_set (i := 7) (by exact sc_l_row.nd) (pf_comp (N' := ["k", "left", "deck"]) (ix := [none, some 7, some 0]) ⟨rfl, rfl, rfl, rfl, rfl, rfl⟩ rfl (pif_range1 (by rfl) C.n_range (paf_cons (pf_v 2) paf_nil)) (fun _ _ _ _ _ _ => (pgf_name (i := 0) (show List.Nodup (α := Str) ["k", "left", "deck"] by decide +kernel))) (fun _ _ _ _ _ _ => (pf_bm PySem.F.plainAttrs_list PySem.F.slot_list_pop PySem.F.type_list_pop mt_popAt sem_pop (pf_v 1) (paf_cons (pf_call (ok_l_next C) (hr.mono (by decide)) (by rfl) C.g_l_next C.F_l_next.kp C.b_l_next (paf_cons (pf_v 2) (paf_cons (pf_callB call_len sem_len (by rfl) C.n_len PySem.boot_len (paf_cons (pf_v 1) paf_nil)) paf_nil))) paf_nil)))))) psf_nil)
  refine psf_cons ?s10 ?t10
  case s10 => exact (psf_if (PWF.pt (pwf_and (ptf_cmp (op_eqU hu) sem_eq (pf_v 3) pf_int (nomark _)) (pwf_and1 (ptf_cmp op_gt sem_gt (pf_v 2) pf_int (nomark _))))) (psf_cons (psf_set (i := 9) (by exact sc_l_row.nd) (pf_call (ok_l_next C) (hr.mono (by decide)) (by rfl) C.g_l_next C.F_l_next.kp C.b_l_next (paf_cons (pf_v 0) (paf_cons (pf_op op_sub sem_sub (pf_v 2) pf_int) paf_nil)))) (psf_one (psf_asg (pf_tup (paf_cons (pf_ix ix_seq sem_ix (pf_v 7) (pf_op op_addA sem_add (pf_v 9) pf_int) (fun _ _ => rfl)) (paf_cons (pf_ix ix_seq sem_ix (pf_v 7) (pf_v 9) (fun _ _ => rfl)) paf_nil))) (pgf_tup rfl (pgsf_cons (pgf_sub (pf_v 7) (pf_v 9)) (pgsf_cons (pgf_sub (pf_v 7) (pf_op op_addA sem_add (pf_v 9) pf_int)) pgsf_nil)))))) psf_nil)
  exact (psf_one (psf_ret (pf_callTy call_tuple_of sem_tuple (by rfl) C.n_tuple (by decide +kernel) (paf_cons (pf_v 7) paf_nil))))
theorem ok_ways_with_one_more (C : Defs K mg) : FnOk P w K mg base CX0 1 C.f_ways_with_one_more C.d_ways_with_one_more ["ways", "most"] (spF K 2 m_ways_with_one_more) := by
  refine Fun.okF (N := ["ways", "most"]) C.F_ways_with_one_more sc_ways_with_one_more (fun cdv A outer s H E hr => ?_)
  have hu := hr.units
  exact (psf_one (psf_ret (pf_comp (N' := ["total", "ways", "most"]) (ix := [none, some 0, some 1]) ⟨rfl, rfl, rfl, rfl, rfl, rfl⟩ rfl (pif_range1 (by rfl) C.n_range (paf_cons (pf_op op_addA sem_add (pf_callB call_len sem_len (by rfl) C.n_len PySem.boot_len (paf_cons (pf_v 0) paf_nil)) (pf_v 1)) paf_nil)) (fun _ _ _ _ _ _ => (pgf_name (i := 0) (show List.Nodup (α := Str) ["total", "ways", "most"] by decide +kernel))) (fun _ _ _ _ _ _ => (pf_callB (call_sumA rfl) sem_sum (by rfl) C.n_sum PyProof.Rows.boot_sum (paf_cons (pf_slice sl_all sem_sl (pf_v 1) (pof_some (pf_callB (call_maxA rfl) sem_max (by rfl) C.n_max PyProof.Rows.boot_max (paf_cons pf_int (paf_cons (pf_op op_sub sem_sub (pf_v 0) (pf_v 2)) paf_nil)))) (pof_some (pf_op op_addA sem_add (pf_v 0) pf_int))) paf_nil))))))
theorem ok_ways_from_each (C : Defs K mg) : FnOk P w K mg base CX0 2 C.f_ways_from_each C.d_ways_from_each ["many"] (spF K 1 m_ways_from_each) := by
  refine Fun.okF (N := ["many", "backwards", "place"]) C.F_ways_from_each sc_ways_from_each (fun cdv A outer s H E hr => ?_)
  have hu := hr.units
  refine psf_cons ?s0 ?t0
  case s0 => exact (psf_set (i := 1) (by exact sc_ways_from_each.nd) (pf_lst (paf_cons (pf_lst (paf_cons pf_int paf_nil)) paf_nil)))
  refine psf_cons ?s1 ?t1
  case s1 => exact (psf_for PassesOwn.never rfl (pif_rangeD (by rfl) C.n_range (paf_cons (pf_op op_sub sem_sub (pf_v 0) pf_int) (paf_cons (pf_neg pf_int) (paf_cons (pf_neg pf_int) paf_nil)))) (pgf_name (i := 2) (by exact sc_ways_from_each.nd)) (psf_one (psf_expr (pf_bm PySem.F.plainAttrs_list PySem.F.slot_list_append PySem.F.type_list_append mt_append sem_append (pf_v 1) (paf_cons (pf_call (ok_ways_with_one_more C) (hr.mono (by decide)) (by rfl) C.g_ways_with_one_more C.F_ways_with_one_more.kp C.b_ways_with_one_more (paf_cons (pf_ix ix_seq sem_ix (pf_v 1) (pf_neg pf_int) (fun _ _ => rfl)) (paf_cons (pf_v 2) paf_nil))) paf_nil)))))
  exact (psf_one (psf_ret (pf_lrev rfl (by rfl) C.n_list (by rfl) C.n_reversed (paf_cons (pf_v 1) paf_nil))))
theorem ok_ways_to (C : Defs K mg) : FnOk P w K mg base CX0 1 C.f_ways_to C.d_ways_to ["ways", "total"] (spF K 2 m_ways_to) := by
  refine Fun.okF (N := ["ways", "total"]) C.F_ways_to sc_ways_to (fun cdv A outer s H E hr => ?_)
  have hu := hr.units
  exact (psf_one (psf_ret (pf_if (ptf_chain op_le op_lt sem_le sem_lt pf_int (pf_v 1) (pf_callB call_len sem_len (by rfl) C.n_len PySem.boot_len (paf_cons (pf_v 0) paf_nil))) (pf_ix ix_seq sem_ix (pf_v 0) (pf_v 1) (fun _ _ => rfl)) pf_int)))
theorem ok_nth_row (C : Defs K mg) : FnOk P w K mg base CX0 3 C.f_nth_row C.d_nth_row ["many", "count", "place"] (spF K 3 m_nth_row) := by
  refine Fun.okF (N := ["many", "count", "place", "ways", "counts", "left", "ahead", "turn", "own"]) C.F_nth_row sc_nth_row (fun cdv A outer s H E hr => ?_)
  have hu := hr.units
  refine psf_cons ?s0 ?t0
  case s0 => exact (psf_set (i := 3) (by exact sc_nth_row.nd) (pf_call (ok_ways_from_each C) (hr.mono (by decide)) (by rfl) C.g_ways_from_each C.F_ways_from_each.kp C.b_ways_from_each (paf_cons (pf_v 0) paf_nil)))
  refine psf_cons ?s1 ?t1
  case s1 => exact (psf_if (PWF.pt (pwf_or (ptf_cmp op_lt sem_lt (pf_v 2) pf_int (nomark _)) (pwf_or1 (ptf_cmp op_ge sem_ge (pf_v 2) (pf_call (ok_ways_to C) (hr.mono (by decide)) (by rfl) C.g_ways_to C.F_ways_to.kp C.b_ways_to (paf_cons (pf_ix ix_seq sem_ix (pf_v 3) pf_int (fun _ _ => rfl)) (paf_cons (pf_v 1) paf_nil))) (nomark _))))) (psf_one psf_never) psf_nil)
  refine psf_cons ?s2 ?t2
  case s2 => exact (psf_set (i := 4) (by exact sc_nth_row.nd) (pf_lst paf_nil))
  refine psf_cons ?s3 ?t3
  case s3 => exact (psf_set (i := 5) (by exact sc_nth_row.nd) (pf_v 1))
  refine psf_cons ?s4 ?t4
  case s4 => exact (psf_set (i := 6) (by exact sc_nth_row.nd) (pf_v 2))
  refine psf_cons ?s5 ?t5
  case s5 => exact (psf_for PassesOwn.never rfl (pif_range1 (by rfl) C.n_range (paf_cons (pf_v 0) paf_nil)) (pgf_name (i := 7) (by exact sc_nth_row.nd)) (psf_cons (psf_set (i := 8) (by exact sc_nth_row.nd) pf_int) (psf_cons (psf_while 100000 PassesOwn.never (ptf_cmp op_ge sem_ge (pf_v 6) (pf_call (ok_ways_to C) (hr.mono (by decide)) (by rfl) C.g_ways_to C.F_ways_to.kp C.b_ways_to (paf_cons (pf_ix ix_seq sem_ix (pf_v 3) (pf_op op_addA sem_add (pf_v 7) pf_int) (fun _ _ => rfl)) (paf_cons (pf_op op_sub sem_sub (pf_v 5) (pf_v 8)) paf_nil))) (nomark _)) (psf_cons (psf_set (i := 6) (by exact sc_nth_row.nd) (pf_op op_sub sem_sub (pf_v 6) (pf_call (ok_ways_to C) (hr.mono (by decide)) (by rfl) C.g_ways_to C.F_ways_to.kp C.b_ways_to (paf_cons (pf_ix ix_seq sem_ix (pf_v 3) (pf_op op_addA sem_add (pf_v 7) pf_int) (fun _ _ => rfl)) (paf_cons (pf_op op_sub sem_sub (pf_v 5) (pf_v 8)) paf_nil))))) (psf_one (psf_set (i := 8) (by exact sc_nth_row.nd) (pf_op op_addA sem_add (pf_v 8) pf_int))))) (psf_cons (psf_expr (pf_bm PySem.F.plainAttrs_list PySem.F.slot_list_append PySem.F.type_list_append mt_append sem_append (pf_v 4) (paf_cons (pf_v 8) paf_nil))) (psf_one (psf_set (i := 5) (by exact sc_nth_row.nd) (pf_op op_sub sem_sub (pf_v 5) (pf_v 8))))))))
  exact (psf_one (psf_ret (pf_call (ok_row_of C) (hr.mono (by decide)) (by rfl) C.g_row_of C.F_row_of.kp C.b_row_of (paf_cons (pf_v 4) paf_nil))))
theorem ok_place_of_row (C : Defs K mg) : FnOk P w K mg base CX0 3 C.f_place_of_row C.d_place_of_row ["row"] (spF K 1 m_place_of_row) := by
  refine Fun.okF (N := ["row", "ways", "counts", "left", "ahead", "turn", "own"]) C.F_place_of_row sc_place_of_row (fun cdv A outer s H E hr => ?_)
  have hu := hr.units
  refine psf_cons ?s0 ?t0
  case s0 => exact (psf_set (i := 1) (by exact sc_place_of_row.nd) (pf_call (ok_ways_from_each C) (hr.mono (by decide)) (by rfl) C.g_ways_from_each C.F_ways_from_each.kp C.b_ways_from_each (paf_cons (pf_callB call_len sem_len (by rfl) C.n_len PySem.boot_len (paf_cons (pf_v 0) paf_nil)) paf_nil)))
  refine psf_cons ?s1 ?t1
  case s1 => exact (psf_set (i := 2) (by exact sc_place_of_row.nd) (pf_call (ok_counts_of C) (hr.mono (by decide)) (by rfl) C.g_counts_of C.F_counts_of.kp C.b_counts_of (paf_cons (pf_v 0) paf_nil)))
  refine psf_cons ?s2 ?t2
  case s2 => exact (psf_set (i := 3) (by exact sc_place_of_row.nd) (pf_callB (call_sumA rfl) sem_sum (by rfl) C.n_sum PyProof.Rows.boot_sum (paf_cons (pf_v 2) paf_nil)))
  refine psf_cons ?s3 ?t3
  case s3 => exact (psf_set (i := 4) (by exact sc_place_of_row.nd) pf_int)
  refine psf_cons ?s4 ?t4
  case s4 => exact (psf_for PassesOwn.never rfl (pif_enumA (by rfl) C.n_enumerate (paf_cons (pf_v 2) paf_nil)) (pgf_tup rfl (pgsf_cons (pgf_name (i := 5) (by exact sc_place_of_row.nd)) (pgsf_cons (pgf_name (i := 6) (by exact sc_place_of_row.nd)) pgsf_nil))) (psf_cons (psf_set (i := 4) (by exact sc_place_of_row.nd) (pf_op op_addA sem_add (pf_v 4) (pf_callB (call_sumA rfl) sem_sum (by rfl) C.n_sum PyProof.Rows.boot_sum (paf_cons (pf_comp (N' := ["lesser", "ways", "turn", "left"]) (ix := [none, some 1, some 5, some 3]) ⟨rfl, rfl, rfl, rfl, rfl, rfl⟩ rfl (pif_range1 (by rfl) C.n_range (paf_cons (pf_v 6) paf_nil)) (fun _ _ _ _ _ _ => (pgf_name (i := 0) (show List.Nodup (α := Str) ["lesser", "ways", "turn", "left"] by decide +kernel))) (fun _ _ _ _ _ _ => (pf_call (ok_ways_to C) (hr.mono (by decide)) (by rfl) C.g_ways_to C.F_ways_to.kp C.b_ways_to (paf_cons (pf_ix ix_seq sem_ix (pf_v 1) (pf_op op_addA sem_add (pf_v 2) pf_int) (fun _ _ => rfl)) (paf_cons (pf_op op_sub sem_sub (pf_v 3) (pf_v 0)) paf_nil))))) paf_nil)))) (psf_one (psf_set (i := 3) (by exact sc_place_of_row.nd) (pf_op op_sub sem_sub (pf_v 3) (pf_v 6))))))
  exact (psf_one (psf_ret (pf_v 4)))
theorem ok_rows_with (C : Defs K mg) : FnOk P w K mg base CX0 3 C.f_rows_with C.d_rows_with ["many"] (spF K 1 m_rows_with) := by
  refine Fun.okF (N := ["many"]) C.F_rows_with sc_rows_with (fun cdv A outer s H E hr => ?_)
  have hu := hr.units
  exact (psf_one (psf_ret (pf_callTy call_tuple_of sem_tuple (by rfl) C.n_tuple (by decide +kernel) (paf_cons (pf_ix ix_seq sem_ix (pf_call (ok_ways_from_each C) (hr.mono (by decide)) (by rfl) C.g_ways_from_each C.F_ways_from_each.kp C.b_ways_from_each (paf_cons (pf_v 0) paf_nil)) pf_int (fun _ _ => rfl)) paf_nil))))
theorem ok_law (C : Defs K mg) : FnOk P w K mg base CX0 5 C.f_law C.d_law ["script"] (spF K 1 m_law) := by
  refine Fun.okF (N := ["script", "deck", "turn", "row", "many", "ways", "total", "number", "count", "place"]) C.F_law sc_law (fun cdv A outer s H E hr => ?_)
  have hu := hr.units
  refine psf_cons ?s0 ?t0
  case s0 => exact (psf_set (i := 1) (by exact sc_law.nd) (pf_call (ok_l_deck C) (hr.mono (by decide)) (by rfl) C.g_l_deck C.F_l_deck.kp C.b_l_deck (paf_cons (pf_v 0) paf_nil)))
  refine psf_cons ?s1 ?t1
  case s1 => exact (psf_for PassesOwn.never rfl (pif_range1 (by rfl) C.n_range (paf_cons pf_int paf_nil)) (pgf_name (i := 2) (by exact sc_law.nd)) (psf_cons (psf_if (ptf_not (ptf_tru (pf_call (ok_l_any_right C) (hr.mono (by decide)) (by rfl) C.g_l_any_right C.F_l_any_right.kp C.b_l_any_right (paf_cons (pf_v 1) (paf_cons (pf_call (ok_l_row C) (hr.mono (by decide)) (by rfl) C.g_l_row C.F_l_row.kp C.b_l_row (paf_cons (pf_v 1) (paf_cons (pf_ix ix_seq sem_ix (pf_lst (paf_cons pf_int (paf_cons pf_int (paf_cons pf_int paf_nil)))) (pf_v 2) (fun _ _ => rfl)) paf_nil))) paf_nil))))) (psf_one (psf_ret pf_bl)) psf_nil) (psf_cons (psf_set (i := 3) (by exact sc_law.nd) (pf_call (ok_row_of C) (hr.mono (by decide)) (by rfl) C.g_row_of C.F_row_of.kp C.b_row_of (paf_cons (pf_call (ok_counts_of C) (hr.mono (by decide)) (by rfl) C.g_counts_of C.F_counts_of.kp C.b_counts_of (paf_cons (pf_call (ok_l_row C) (hr.mono (by decide)) (by rfl) C.g_l_row C.F_l_row.kp C.b_l_row (paf_cons (pf_v 1) (paf_cons pf_int paf_nil))) paf_nil)) paf_nil))) (psf_cons (psf_set (i := 4) (by exact sc_law.nd) (pf_callB call_len sem_len (by rfl) C.n_len PySem.boot_len (paf_cons (pf_v 3) paf_nil))) (psf_cons (psf_set (i := 5) (by exact sc_law.nd) (pf_call (ok_rows_with C) (hr.mono (by decide)) (by rfl) C.g_rows_with C.F_rows_with.kp C.b_rows_with (paf_cons (pf_v 4) paf_nil))) (psf_cons (psf_set (i := 6) (by exact sc_law.nd) pf_int) (psf_cons (psf_for PassesOwn.never rfl (pif_range2 (by rfl) C.n_range (paf_cons pf_int (paf_cons (pf_op op_addA sem_add (pf_v 4) pf_int) paf_nil))) (pgf_name (i := 7) (by exact sc_law.nd)) (psf_one (psf_set (i := 6) (by exact sc_law.nd) (pf_op op_mulA sem_mul (pf_v 6) (pf_v 7))))) (psf_cons (psf_if (PWF.pt (pwf_or (ptf_cmp (op_neU hu) sem_ne (pf_callB (call_sumA rfl) sem_sum (by rfl) C.n_sum PyProof.Rows.boot_sum (paf_cons (pf_v 5) paf_nil)) (pf_v 6) (nomark _)) (pwf_or (ptf_cmp (op_neU hu) sem_ne (pf_v 5) (pf_rev (pf_v 5)) (nomark _)) (pwf_or1 (ptf_cmp (op_neU hu) sem_ne (pf_callB call_len sem_len (by rfl) C.n_len PySem.boot_len (paf_cons (pf_v 5) paf_nil)) (pf_op op_addA sem_add (pf_op op_fdivW sem_div (pf_op op_mulA sem_mul (pf_v 4) (pf_op op_sub sem_sub (pf_v 4) pf_int)) pf_int) pf_int) (nomark _)))))) (psf_one (psf_ret pf_bl)) psf_nil) (psf_cons (psf_if (ptf_cmp (op_neU hu) sem_ne (pf_call (ok_nth_row C) (hr.mono (by decide)) (by rfl) C.g_nth_row C.F_nth_row.kp C.b_nth_row (paf_cons (pf_v 4) (paf_cons (pf_call (ok_count_of C) (hr.mono (by decide)) (by rfl) C.g_count_of C.F_count_of.kp C.b_count_of (paf_cons (pf_v 3) paf_nil)) (paf_cons (pf_call (ok_place_of_row C) (hr.mono (by decide)) (by rfl) C.g_place_of_row C.F_place_of_row.kp C.b_place_of_row (paf_cons (pf_v 3) paf_nil)) paf_nil)))) (pf_v 3) (nomark _)) (psf_one (psf_ret pf_bl)) psf_nil) (psf_cons (psf_set (i := 8) (by exact sc_law.nd) (pf_call (ok_l_next C) (hr.mono (by decide)) (by rfl) C.g_l_next C.F_l_next.kp C.b_l_next (paf_cons (pf_v 1) (paf_cons (pf_callB call_len sem_len (by rfl) C.n_len PySem.boot_len (paf_cons (pf_v 5) paf_nil)) paf_nil)))) (psf_cons (psf_set (i := 9) (by exact sc_law.nd) (pf_call (ok_l_next C) (hr.mono (by decide)) (by rfl) C.g_l_next C.F_l_next.kp C.b_l_next (paf_cons (pf_v 1) (paf_cons (pf_ix ix_seq sem_ix (pf_v 5) (pf_v 8) (fun _ _ => rfl)) paf_nil)))) (psf_one (psf_if (PWF.pt (pwf_or (ptf_cmp (op_neU hu) sem_ne (pf_call (ok_place_of_row C) (hr.mono (by decide)) (by rfl) C.g_place_of_row C.F_place_of_row.kp C.b_place_of_row (paf_cons (pf_call (ok_nth_row C) (hr.mono (by decide)) (by rfl) C.g_nth_row C.F_nth_row.kp C.b_nth_row (paf_cons (pf_v 4) (paf_cons (pf_v 8) (paf_cons (pf_v 9) paf_nil)))) paf_nil)) (pf_v 9) (nomark _)) (pwf_or1 (ptf_cmp (op_neU hu) sem_ne (pf_call (ok_count_of C) (hr.mono (by decide)) (by rfl) C.g_count_of C.F_count_of.kp C.b_count_of (paf_cons (pf_call (ok_nth_row C) (hr.mono (by decide)) (by rfl) C.g_nth_row C.F_nth_row.kp C.b_nth_row (paf_cons (pf_v 4) (paf_cons (pf_v 8) (paf_cons (pf_v 9) paf_nil)))) paf_nil)) (pf_v 8) (nomark _))))) (psf_one (psf_ret pf_bl)) psf_nil)))))))))))))
  exact (psf_one (psf_ret pf_bl))
end
theorem all_mk {l : PySem.W.OpenLaw} {w : World} {K : PySem.W.Frag} {h : Heap} {mg : Str → Option Value} {fa : Addr} (X : K.In h) (G : h.Ns mainGlobals mg) (hfa : mg "law" = some (.ref fa))
    {od0 an0 : Option Addr} {sl0 : Array (Option Value)} {oc0 kV0 dc0 pm0 cd0 ct0 : Value} {f0 : Addr} {od1 an1 : Option Addr} {sl1 : Array (Option Value)} {oc1 kV1 dc1 pm1 cd1 ct1 : Value} {f1 : Addr} {od2 an2 : Option Addr} {sl2 : Array (Option Value)} {oc2 kV2 dc2 pm2 cd2 ct2 : Value} {f2 : Addr} {od3 an3 : Option Addr} {sl3 : Array (Option Value)} {oc3 kV3 dc3 pm3 cd3 ct3 : Value} {f3 : Addr} {od4 an4 : Option Addr} {sl4 : Array (Option Value)} {oc4 kV4 dc4 pm4 cd4 ct4 : Value} {f4 : Addr} {od5 an5 : Option Addr} {sl5 : Array (Option Value)} {oc5 kV5 dc5 pm5 cd5 ct5 : Value} {f5 : Addr} {od6 an6 : Option Addr} {sl6 : Array (Option Value)} {oc6 kV6 dc6 pm6 cd6 ct6 : Value} {f6 : Addr} {od7 an7 : Option Addr} {sl7 : Array (Option Value)} {oc7 kV7 dc7 pm7 cd7 ct7 : Value} {f7 : Addr} {od8 an8 : Option Addr} {sl8 : Array (Option Value)} {oc8 kV8 dc8 pm8 cd8 ct8 : Value} {f8 : Addr} {od9 an9 : Option Addr} {sl9 : Array (Option Value)} {oc9 kV9 dc9 pm9 cd9 ct9 : Value} {f9 : Addr} {od10 an10 : Option Addr} {sl10 : Array (Option Value)} {oc10 kV10 dc10 pm10 cd10 ct10 : Value} {f10 : Addr} {od11 an11 : Option Addr} {sl11 : Array (Option Value)} {oc11 kV11 dc11 pm11 cd11 ct11 : Value} {f11 : Addr} {od12 an12 : Option Addr} {sl12 : Array (Option Value)} {oc12 kV12 dc12 pm12 cd12 ct12 : Value} {f12 : Addr} {od13 an13 : Option Addr} {sl13 : Array (Option Value)} {oc13 kV13 dc13 pm13 cd13 ct13 : Value} {f13 : Addr} {od14 an14 : Option Addr} {sl14 : Array (Option Value)} {oc14 kV14 dc14 pm14 cd14 ct14 : Value} {f14 : Addr} {od15 an15 : Option Addr} {sl15 : Array (Option Value)} {oc15 kV15 dc15 pm15 cd15 ct15 : Value} {f15 : Addr} {od16 an16 : Option Addr} {sl16 : Array (Option Value)} {oc16 kV16 dc16 pm16 cd16 ct16 : Value} {f16 : Addr}
    (a0 : PySem.W.nsIn K mainGlobals "_law_mix" = some (some (.ref f0))) (l0 : K.lookup f0 = some ⟨oc0, od0, .func (PySem.W.fnOf "_law_mix" "_law_mix" (defArgs s_l_mix) (defBody s_l_mix) (defScope s_l_mix) .none kV0 dc0 pm0 an0 cd0 ct0), sl0⟩) (c0 : PySem.W.codeIn K cd0 "_law_mix" = true) (k0 : PySem.W.keepIn K (.ref f0) = true)
    (a1 : PySem.W.nsIn K mainGlobals "_law_next" = some (some (.ref f1))) (l1 : K.lookup f1 = some ⟨oc1, od1, .func (PySem.W.fnOf "_law_next" "_law_next" (defArgs s_l_next) (defBody s_l_next) (defScope s_l_next) .none kV1 dc1 pm1 an1 cd1 ct1), sl1⟩) (c1 : PySem.W.codeIn K cd1 "_law_next" = true) (k1 : PySem.W.keepIn K (.ref f1) = true)
    (a2 : PySem.W.nsIn K mainGlobals "many_greater" = some (some (.ref f2))) (l2 : K.lookup f2 = some ⟨oc2, od2, .func (PySem.W.fnOf "many_greater" "many_greater" (defArgs s_many_greater) (defBody s_many_greater) (defScope s_many_greater) .none kV2 dc2 pm2 an2 cd2 ct2), sl2⟩) (c2 : PySem.W.codeIn K cd2 "many_greater" = true) (k2 : PySem.W.keepIn K (.ref f2) = true)
    (a3 : PySem.W.nsIn K mainGlobals "counts_of" = some (some (.ref f3))) (l3 : K.lookup f3 = some ⟨oc3, od3, .func (PySem.W.fnOf "counts_of" "counts_of" (defArgs s_counts_of) (defBody s_counts_of) (defScope s_counts_of) .none kV3 dc3 pm3 an3 cd3 ct3), sl3⟩) (c3 : PySem.W.codeIn K cd3 "counts_of" = true) (k3 : PySem.W.keepIn K (.ref f3) = true)
    (a4 : PySem.W.nsIn K mainGlobals "count_of" = some (some (.ref f4))) (l4 : K.lookup f4 = some ⟨oc4, od4, .func (PySem.W.fnOf "count_of" "count_of" (defArgs s_count_of) (defBody s_count_of) (defScope s_count_of) .none kV4 dc4 pm4 an4 cd4 ct4), sl4⟩) (c4 : PySem.W.codeIn K cd4 "count_of" = true) (k4 : PySem.W.keepIn K (.ref f4) = true)
    (a5 : PySem.W.nsIn K mainGlobals "need_counts" = some (some (.ref f5))) (l5 : K.lookup f5 = some ⟨oc5, od5, .func (PySem.W.fnOf "need_counts" "need_counts" (defArgs s_need_counts) (defBody s_need_counts) (defScope s_need_counts) .none kV5 dc5 pm5 an5 cd5 ct5), sl5⟩) (c5 : PySem.W.codeIn K cd5 "need_counts" = true) (k5 : PySem.W.keepIn K (.ref f5) = true)
    (a6 : PySem.W.nsIn K mainGlobals "row_of" = some (some (.ref f6))) (l6 : K.lookup f6 = some ⟨oc6, od6, .func (PySem.W.fnOf "row_of" "row_of" (defArgs s_row_of) (defBody s_row_of) (defScope s_row_of) .none kV6 dc6 pm6 an6 cd6 ct6), sl6⟩) (c6 : PySem.W.codeIn K cd6 "row_of" = true) (k6 : PySem.W.keepIn K (.ref f6) = true)
    (a7 : PySem.W.nsIn K mainGlobals "_law_any_right" = some (some (.ref f7))) (l7 : K.lookup f7 = some ⟨oc7, od7, .func (PySem.W.fnOf "_law_any_right" "_law_any_right" (defArgs s_l_any_right) (defBody s_l_any_right) (defScope s_l_any_right) .none kV7 dc7 pm7 an7 cd7 ct7), sl7⟩) (c7 : PySem.W.codeIn K cd7 "_law_any_right" = true) (k7 : PySem.W.keepIn K (.ref f7) = true)
    (a8 : PySem.W.nsIn K mainGlobals "_law_deck" = some (some (.ref f8))) (l8 : K.lookup f8 = some ⟨oc8, od8, .func (PySem.W.fnOf "_law_deck" "_law_deck" (defArgs s_l_deck) (defBody s_l_deck) (defScope s_l_deck) .none kV8 dc8 pm8 an8 cd8 ct8), sl8⟩) (c8 : PySem.W.codeIn K cd8 "_law_deck" = true) (k8 : PySem.W.keepIn K (.ref f8) = true)
    (a9 : PySem.W.nsIn K mainGlobals "_law_row" = some (some (.ref f9))) (l9 : K.lookup f9 = some ⟨oc9, od9, .func (PySem.W.fnOf "_law_row" "_law_row" (defArgs s_l_row) (defBody s_l_row) (defScope s_l_row) .none kV9 dc9 pm9 an9 cd9 ct9), sl9⟩) (c9 : PySem.W.codeIn K cd9 "_law_row" = true) (k9 : PySem.W.keepIn K (.ref f9) = true)
    (a10 : PySem.W.nsIn K mainGlobals "ways_with_one_more" = some (some (.ref f10))) (l10 : K.lookup f10 = some ⟨oc10, od10, .func (PySem.W.fnOf "ways_with_one_more" "ways_with_one_more" (defArgs s_ways_with_one_more) (defBody s_ways_with_one_more) (defScope s_ways_with_one_more) .none kV10 dc10 pm10 an10 cd10 ct10), sl10⟩) (c10 : PySem.W.codeIn K cd10 "ways_with_one_more" = true) (k10 : PySem.W.keepIn K (.ref f10) = true)
    (a11 : PySem.W.nsIn K mainGlobals "ways_from_each" = some (some (.ref f11))) (l11 : K.lookup f11 = some ⟨oc11, od11, .func (PySem.W.fnOf "ways_from_each" "ways_from_each" (defArgs s_ways_from_each) (defBody s_ways_from_each) (defScope s_ways_from_each) .none kV11 dc11 pm11 an11 cd11 ct11), sl11⟩) (c11 : PySem.W.codeIn K cd11 "ways_from_each" = true) (k11 : PySem.W.keepIn K (.ref f11) = true)
    (a12 : PySem.W.nsIn K mainGlobals "ways_to" = some (some (.ref f12))) (l12 : K.lookup f12 = some ⟨oc12, od12, .func (PySem.W.fnOf "ways_to" "ways_to" (defArgs s_ways_to) (defBody s_ways_to) (defScope s_ways_to) .none kV12 dc12 pm12 an12 cd12 ct12), sl12⟩) (c12 : PySem.W.codeIn K cd12 "ways_to" = true) (k12 : PySem.W.keepIn K (.ref f12) = true)
    (a13 : PySem.W.nsIn K mainGlobals "nth_row" = some (some (.ref f13))) (l13 : K.lookup f13 = some ⟨oc13, od13, .func (PySem.W.fnOf "nth_row" "nth_row" (defArgs s_nth_row) (defBody s_nth_row) (defScope s_nth_row) .none kV13 dc13 pm13 an13 cd13 ct13), sl13⟩) (c13 : PySem.W.codeIn K cd13 "nth_row" = true) (k13 : PySem.W.keepIn K (.ref f13) = true)
    (a14 : PySem.W.nsIn K mainGlobals "place_of_row" = some (some (.ref f14))) (l14 : K.lookup f14 = some ⟨oc14, od14, .func (PySem.W.fnOf "place_of_row" "place_of_row" (defArgs s_place_of_row) (defBody s_place_of_row) (defScope s_place_of_row) .none kV14 dc14 pm14 an14 cd14 ct14), sl14⟩) (c14 : PySem.W.codeIn K cd14 "place_of_row" = true) (k14 : PySem.W.keepIn K (.ref f14) = true)
    (a15 : PySem.W.nsIn K mainGlobals "rows_with" = some (some (.ref f15))) (l15 : K.lookup f15 = some ⟨oc15, od15, .func (PySem.W.fnOf "rows_with" "rows_with" (defArgs s_rows_with) (defBody s_rows_with) (defScope s_rows_with) .none kV15 dc15 pm15 an15 cd15 ct15), sl15⟩) (c15 : PySem.W.codeIn K cd15 "rows_with" = true) (k15 : PySem.W.keepIn K (.ref f15) = true)
    (a16 : PySem.W.nsIn K mainGlobals "law" = some (some (.ref f16))) (l16 : K.lookup f16 = some ⟨oc16, od16, .func (PySem.W.fnOf "law" "law" (defArgs s_law) (defBody s_law) (defScope s_law) .none kV16 dc16 pm16 an16 cd16 ct16), sl16⟩) (c16 : PySem.W.codeIn K cd16 "law" = true) (k16 : PySem.W.keepIn K (.ref f16) = true)
    (z_enumerate : PySem.W.nsIn K mainGlobals "enumerate" = some none)
    (z_int : PySem.W.nsIn K mainGlobals "int" = some none)
    (z_len : PySem.W.nsIn K mainGlobals "len" = some none)
    (z_list : PySem.W.nsIn K mainGlobals "list" = some none)
    (z_max : PySem.W.nsIn K mainGlobals "max" = some none)
    (z_range : PySem.W.nsIn K mainGlobals "range" = some none)
    (z_reversed : PySem.W.nsIn K mainGlobals "reversed" = some none)
    (z_sorted : PySem.W.nsIn K mainGlobals "sorted" = some none)
    (z_sum : PySem.W.nsIn K mainGlobals "sum" = some none)
    (z_tuple : PySem.W.nsIn K mainGlobals "tuple" = some none) :
    ∃ fd : FuncData, (∀ (s : Shared) (v : Value), BindsTo s fd ⟨[v], []⟩ [("script", v)]) ∧ ∀ base : Heap, K.In base → base.Ns mainGlobals mg → FnOk l.prog w K mg base CX0 5 fa fd ["script"] (spF K 1 m_law) := by
  have e := hfa.symm.trans (PySem.W.mg_of X G a16)
  cases e
  have F0 := fun_mk (st := s_l_mix) l0 c0 k0
  have b0 := F0.binds (ps := ["cell", "k"]) fun _ _ _ _ _ _ => all2 (fun _ _ => rfl)
  have F1 := fun_mk (st := s_l_next) l1 c1 k1
  have b1 := F1.binds (ps := ["deck", "many"]) fun _ _ _ _ _ _ => all2 (fun _ _ => rfl)
  have F2 := fun_mk (st := s_many_greater) l2 c2 k2
  have b2 := F2.binds (ps := ["numbers", "number"]) fun _ _ _ _ _ _ => all2 (fun _ _ => rfl)
  have F3 := fun_mk (st := s_counts_of) l3 c3 k3
  have b3 := F3.binds (ps := ["row"]) fun _ _ _ _ _ _ => all1 (fun _ => rfl)
  have F4 := fun_mk (st := s_count_of) l4 c4 k4
  have b4 := F4.binds (ps := ["row"]) fun _ _ _ _ _ _ => all1 (fun _ => rfl)
  have F5 := fun_mk (st := s_need_counts) l5 c5 k5
  have b5 := F5.binds (ps := ["counts"]) fun _ _ _ _ _ _ => all1 (fun _ => rfl)
  have F6 := fun_mk (st := s_row_of) l6 c6 k6
  have b6 := F6.binds (ps := ["counts"]) fun _ _ _ _ _ _ => all1 (fun _ => rfl)
  have F7 := fun_mk (st := s_l_any_right) l7 c7 k7
  have b7 := F7.binds (ps := ["deck", "row"]) fun _ _ _ _ _ _ => all2 (fun _ _ => rfl)
  have F8 := fun_mk (st := s_l_deck) l8 c8 k8
  have b8 := F8.binds (ps := ["script"]) fun _ _ _ _ _ _ => all1 (fun _ => rfl)
  have F9 := fun_mk (st := s_l_row) l9 c9 k9
  have b9 := F9.binds (ps := ["deck", "most"]) fun _ _ _ _ _ _ => all2 (fun _ _ => rfl)
  have F10 := fun_mk (st := s_ways_with_one_more) l10 c10 k10
  have b10 := F10.binds (ps := ["ways", "most"]) fun _ _ _ _ _ _ => all2 (fun _ _ => rfl)
  have F11 := fun_mk (st := s_ways_from_each) l11 c11 k11
  have b11 := F11.binds (ps := ["many"]) fun _ _ _ _ _ _ => all1 (fun _ => rfl)
  have F12 := fun_mk (st := s_ways_to) l12 c12 k12
  have b12 := F12.binds (ps := ["ways", "total"]) fun _ _ _ _ _ _ => all2 (fun _ _ => rfl)
  have F13 := fun_mk (st := s_nth_row) l13 c13 k13
  have b13 := F13.binds (ps := ["many", "count", "place"]) fun _ _ _ _ _ _ => all3 (fun _ _ _ => rfl)
  have F14 := fun_mk (st := s_place_of_row) l14 c14 k14
  have b14 := F14.binds (ps := ["row"]) fun _ _ _ _ _ _ => all1 (fun _ => rfl)
  have F15 := fun_mk (st := s_rows_with) l15 c15 k15
  have b15 := F15.binds (ps := ["many"]) fun _ _ _ _ _ _ => all1 (fun _ => rfl)
  have F16 := fun_mk (st := s_law) l16 c16 k16
  have b16 := F16.binds (ps := ["script"]) fun _ _ _ _ _ _ => all1 (fun _ => rfl)
  let C : Defs K mg := { f_l_mix := _, d_l_mix := _, F_l_mix := F0, b_l_mix := b0, g_l_mix := PySem.W.mg_of X G a0, f_l_next := _, d_l_next := _, F_l_next := F1, b_l_next := b1, g_l_next := PySem.W.mg_of X G a1, f_many_greater := _, d_many_greater := _, F_many_greater := F2, b_many_greater := b2, g_many_greater := PySem.W.mg_of X G a2, f_counts_of := _, d_counts_of := _, F_counts_of := F3, b_counts_of := b3, g_counts_of := PySem.W.mg_of X G a3, f_count_of := _, d_count_of := _, F_count_of := F4, b_count_of := b4, g_count_of := PySem.W.mg_of X G a4, f_need_counts := _, d_need_counts := _, F_need_counts := F5, b_need_counts := b5, g_need_counts := PySem.W.mg_of X G a5, f_row_of := _, d_row_of := _, F_row_of := F6, b_row_of := b6, g_row_of := PySem.W.mg_of X G a6, f_l_any_right := _, d_l_any_right := _, F_l_any_right := F7, b_l_any_right := b7, g_l_any_right := PySem.W.mg_of X G a7, f_l_deck := _, d_l_deck := _, F_l_deck := F8, b_l_deck := b8, g_l_deck := PySem.W.mg_of X G a8, f_l_row := _, d_l_row := _, F_l_row := F9, b_l_row := b9, g_l_row := PySem.W.mg_of X G a9, f_ways_with_one_more := _, d_ways_with_one_more := _, F_ways_with_one_more := F10, b_ways_with_one_more := b10, g_ways_with_one_more := PySem.W.mg_of X G a10, f_ways_from_each := _, d_ways_from_each := _, F_ways_from_each := F11, b_ways_from_each := b11, g_ways_from_each := PySem.W.mg_of X G a11, f_ways_to := _, d_ways_to := _, F_ways_to := F12, b_ways_to := b12, g_ways_to := PySem.W.mg_of X G a12, f_nth_row := _, d_nth_row := _, F_nth_row := F13, b_nth_row := b13, g_nth_row := PySem.W.mg_of X G a13, f_place_of_row := _, d_place_of_row := _, F_place_of_row := F14, b_place_of_row := b14, g_place_of_row := PySem.W.mg_of X G a14, f_rows_with := _, d_rows_with := _, F_rows_with := F15, b_rows_with := b15, g_rows_with := PySem.W.mg_of X G a15, f_law := _, d_law := _, F_law := F16, b_law := b16, g_law := PySem.W.mg_of X G a16, n_enumerate := PySem.W.mg_none_of X G z_enumerate, n_int := PySem.W.mg_none_of X G z_int, n_len := PySem.W.mg_none_of X G z_len, n_list := PySem.W.mg_none_of X G z_list, n_max := PySem.W.mg_none_of X G z_max, n_range := PySem.W.mg_none_of X G z_range, n_reversed := PySem.W.mg_none_of X G z_reversed, n_sorted := PySem.W.mg_none_of X G z_sorted, n_sum := PySem.W.mg_none_of X G z_sum, n_tuple := PySem.W.mg_none_of X G z_tuple }
  refine ⟨PySem.W.fnOf "law" "law" (defArgs s_law) (defBody s_law) (defScope s_law) .none kV16 dc16 pm16 an16 cd16 ct16, fun s v => .of_eq rfl, fun base _ _ => ?_⟩
  exact ok_law C
theorem walk {l : PySem.W.OpenLaw} {q : Program} {loose : List Str} {XP : (Str → Option Value) → Heap → Prop} {YP : World → Heap → Prop} {d : DefRec} {K : Params → PySem.W.Frag} (hn : l.most = some 63) (hdf : d.params.defaults = [])
    (hY : ∀ (w : World) (h : Heap), YP w h → (K w.params).In h)
    (F : ∀ (w : World) (mg : Str → Option Value) (fa : Addr) (h : Heap), (K w.params).In h → h.Ns mainGlobals mg → mg d.name = some (.ref fa) →
      ∃ fd : FuncData, (∀ (s : Shared) (u : Value), BindsTo s fd ⟨[u], []⟩ [("script", u)]) ∧ ∀ base : Heap, (K w.params).In base → base.Ns mainGlobals mg → FnOk l.prog w (K w.params) mg base CX0 5 fa fd ["script"] (spF (K w.params) 1 m_law)) :
    PySem.W.WalkO q loose XP YP l.row.toRowW d [] (fun f vs => PySem.call f vs) :=
  L2.walk_of (n := 63) (k := 5) (x := "script") (CX := fun _ => CX0) (sp := fun w => spF (K w.params) 1 m_law) hn (by decide) hdf ⟨rfl, by decide, by decide⟩ hY F (fun w H a ns hl ho hS => law_sp ho hS (law_true ns hl)) fun _ _ _ _ _ z => z
end Lw
open PySem PySem.W PyProof.Rows
set_option maxRecDepth 100000 in
set_option maxHeartbeats 0 in
theorem PySem.Challenge.cw_belowpoints_k38_whole_rows_and_counts_holds : PySem.Challenge.rw_belowpoints_k38_whole_rows_and_counts.Holds := by
  w_on; o_law; k_head; (case hw => w_witness2)
  k_fill
  refine Lw.walk (l := PySem.Challenge.rw_belowpoints_k38_whole_rows_and_counts) rfl rfl (fun w h Y => PySem.W.kIn_of Y) ?F
  case F =>
    intro w mg fa h KX G hmg
    refine' Lw.all_mk KX G hmg  ?a0 ?l0 ?c0 ?k0 ?a1 ?l1 ?c1 ?k1 ?a2 ?l2 ?c2 ?k2 ?a3 ?l3 ?c3 ?k3 ?a4 ?l4 ?c4 ?k4 ?a5 ?l5 ?c5 ?k5 ?a6 ?l6 ?c6 ?k6 ?a7 ?l7 ?c7 ?k7 ?a8 ?l8 ?c8 ?k8 ?a9 ?l9 ?c9 ?k9 ?a10 ?l10 ?c10 ?k10 ?a11 ?l11 ?c11 ?k11 ?a12 ?l12 ?c12 ?k12 ?a13 ?l13 ?c13 ?k13 ?a14 ?l14 ?c14 ?k14 ?a15 ?l15 ?c15 ?k15 ?a16 ?l16 ?c16 ?k16 ?z_enumerate ?z_int ?z_len ?z_list ?z_max ?z_range ?z_reversed ?z_sorted ?z_sum ?z_tuple
    (case a0 => k_is); (case l0 => k_is); (case c0 => k_is); (case k0 => k_is)
    (case a1 => k_is); (case l1 => k_is); (case c1 => k_is); (case k1 => k_is)
    (case a2 => k_is); (case l2 => k_is); (case c2 => k_is); (case k2 => k_is)
    (case a3 => k_is); (case l3 => k_is); (case c3 => k_is); (case k3 => k_is)
    (case a4 => k_is); (case l4 => k_is); (case c4 => k_is); (case k4 => k_is)
    (case a5 => k_is); (case l5 => k_is); (case c5 => k_is); (case k5 => k_is)
    (case a6 => k_is); (case l6 => k_is); (case c6 => k_is); (case k6 => k_is)
    (case a7 => k_is); (case l7 => k_is); (case c7 => k_is); (case k7 => k_is)
    (case a8 => k_is); (case l8 => k_is); (case c8 => k_is); (case k8 => k_is)
    (case a9 => k_is); (case l9 => k_is); (case c9 => k_is); (case k9 => k_is)
    (case a10 => k_is); (case l10 => k_is); (case c10 => k_is); (case k10 => k_is)
    (case a11 => k_is); (case l11 => k_is); (case c11 => k_is); (case k11 => k_is)
    (case a12 => k_is); (case l12 => k_is); (case c12 => k_is); (case k12 => k_is)
    (case a13 => k_is); (case l13 => k_is); (case c13 => k_is); (case k13 => k_is)
    (case a14 => k_is); (case l14 => k_is); (case c14 => k_is); (case k14 => k_is)
    (case a15 => k_is); (case l15 => k_is); (case c15 => k_is); (case k15 => k_is)
    (case a16 => k_is); (case l16 => k_is); (case c16 => k_is); (case k16 => k_is)
    (case z_enumerate => k_is)
    (case z_int => k_is)
    (case z_len => k_is)
    (case z_list => k_is)
    (case z_max => k_is)
    (case z_range => k_is)
    (case z_reversed => k_is)
    (case z_sorted => k_is)
    (case z_sum => k_is)
    (case z_tuple => k_is)

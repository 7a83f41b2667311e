import PyProof.Rows.All
import Wide.All
import OpenK.AllK
import Wide.FinOn
import Lean
import PyProof.EqAt
import PyProof.EqKinds
import PyProof.TupleCall
import KE.KSortTup
import KE.KEqDict
import PyProof.TupleOfSeq
import PySem.Challenge.RW_belowpoints_k32_whole_room_by_planes
set_option Elab.async false
set_option linter.all false
set_option maxRecDepth 100000
namespace L2
open PySem PySem.Spec PyProof.Rows
abbrev Key:=Sum Int Str
def P3:Key → Value → Bool
  | .inl k,v=>Value.isInt k v
  | .inr x,v=>Value.isStrOf x v
def Ajv (w:World):Key → Int
  | .inl k=>hashInt k
  | .inr x=>hashStr w x
theorem Cj:∀ {k:Key} {v:Value},P3 k v = true → (∃ i t,k = Sum.inl i ∧ v = Value.int i t) ∨ (∃ x t,k = Sum.inr x ∧ v = Value.str x t)
  | .inl i,v,h=>by
    obtain ⟨t,e⟩:=Value.isInt_shape (k:=i) (v:=v) h
    exact .inl ⟨i,t,rfl,e⟩
  | .inr x,v,h=>by
    obtain ⟨t,e⟩:=Value.isStrOf_shape (x:=x) (v:=v) h
    exact .inr ⟨x,t,rfl,e⟩
theorem Wq (i:Int) (t:Tok):P3 (.inl i) (.int i t) = true:=by simp [P3,Value.isInt]
theorem Xb (x:Str) (t:Tok):P3 (.inr x) (.str x t) = true:=by simp [P3,Value.isStrOf]
theorem Ag4 (a b:Int):decide ((Sum.inl a:Key) = Sum.inl b) = (a == b):=by
  by_cases e:a = b
  · subst e; simp
  · have h:¬ (Sum.inl a:Key) = Sum.inl b:=fun q=>e (Sum.inl.inj q)
    rw [decide_eq_false h]
    exact (beq_eq_false_iff_ne.mpr e).symm
theorem Ahj (a b:Str):decide ((Sum.inr a:Key) = Sum.inr b) = decide (a = b):=by
  by_cases e:a = b
  · subst e; simp
  · have h:¬ (Sum.inr a:Key) = Sum.inr b:=fun q=>e (Sum.inr.inj q)
    rw [decide_eq_false h,decide_eq_false e]
theorem Agm (a:Int) (b:Str):decide ((Sum.inl a:Key) = Sum.inr b) = false:=decide_eq_false (fun q=>nomatch q)
theorem Afb (a:Str) (b:Int):decide ((Sum.inr a:Key) = Sum.inl b) = false:=decide_eq_false (fun q=>nomatch q)
def B0 (prog:Program) (w:World):PySem.KeyKind prog w Key where
  is:=P3
  hash:=Ajv w
  inj:=fun v a b ha hb=>by
    rcases Cj ha with ⟨i,t,rfl,rfl⟩ | ⟨x,t,rfl,rfl⟩
    · rcases Cj hb with ⟨j,u,rfl,e⟩ | ⟨y,u,rfl,e⟩
      · injection e with e1 _; rw [e1]
      · exact nomatch e
    · rcases Cj hb with ⟨j,u,rfl,e⟩ | ⟨y,u,rfl,e⟩
      · exact nomatch e
      · injection e with e1 _; rw [e1]
  byValue:=fun k v h=>by
    rcases Cj h with ⟨i,t,rfl,rfl⟩ | ⟨x,t,rfl,rfl⟩ <;> rfl
  pyHash:=fun hv h=>by
    rcases Cj hv with ⟨i,t,rfl,rfl⟩ | ⟨x,t,rfl,rfl⟩
    · exact wpAny_pyHash_int h
    · exact wpAny_pyHash_str h
  eqBool:=fun hu hv h=>by
    rcases Cj hu with ⟨i,t,rfl,rfl⟩ | ⟨x,t,rfl,rfl⟩
    · rcases Cj hv with ⟨j,u,rfl,rfl⟩ | ⟨y,u,rfl,rfl⟩
      · rw [Ag4] at h; exact wpAny_eqBool_int h
      · rw [Agm] at h; exact SeqAt.EqAt.int_str i t y u _ _ _ _ h
    · rcases Cj hv with ⟨j,u,rfl,rfl⟩ | ⟨y,u,rfl,rfl⟩
      · rw [Afb] at h; exact SeqAt.EqAt.str_int x t j u _ _ _ _ h
      · rw [Ahj] at h; exact wpAny_eqBool_str h
  «strs»:=fun k x t v h=>by
    rcases Cj h with ⟨i,u,rfl,e⟩ | ⟨y,u,rfl,e⟩
    · exact nomatch e
    · injection e with e1 _
      subst e1
      cases v <;> rfl
theorem Rv (prog:Program) (w:World) (i:Int) (t:Tok):(B0 prog w).is (.inl i) (.int i t) = true:=Wq i t
theorem Rk (prog:Program) (w:World) (x:Str) (t:Tok):(B0 prog w).is (.inr x) (.str x t) = true:=Xb x t
end L2
namespace L2
open PySem PySem.Spec PyProof.Rows
inductive V where
  | non | bl (b:Bool) | int (i:Int) | str (x:Str) | byt (b:Array UInt8) | flt (b:UInt64) | ref (a:Addr) | ty (n:String)
  deriving DecidableEq
def RelV:V → Value → Prop
  | .non,u=>u = Value.none
  | .bl b,u=>u = Value.bool b
  | .int i,u=>∃ t,u = Value.int i t
  | .str x,u=>∃ t,u = Value.str x t
  | .byt b,u=>∃ t,u = Value.bytes b t
  | .flt b,u=>∃ t,u = Value.float b t
  | .ref a,u=>u = Value.ref a
  | .ty n,u=>u = Value.type n
abbrev Vals:List V → List Value → Prop:=Paired RelV
theorem Vals.length {xs:List V} {us:List Value} (r:Vals xs us):xs.length = us.length:=Paired.length r
theorem Vals.get:∀ {xs:List V} {us:List Value} {i:Nat} {x:V},Vals xs us → xs[i]? = some x → ∃ u,us[i]? = some u ∧ RelV x u
  | _,_,_,_,.nil,e=>by simp at e
  | _,_,0,_,.cons r _,e=>by simp at e; subst e; exact ⟨_,rfl,r⟩
  | _,_,i + 1,x,.cons _ t,e=>by
    obtain ⟨u,h1,h2⟩:=Vals.get (i:=i) (x:=x) t (by simpa using e)
    exact ⟨u,by simpa using h1,h2⟩
theorem Vals.set {x:V} {u:Value} (r:RelV x u):∀ {xs:List V} {us:List Value} (i:Nat),Vals xs us → Vals (xs.set i x) (us.set i u)
  | _,_,_,.nil=>.nil
  | _,_,0,.cons _ t=>.cons r t
  | _,_,i + 1,.cons q t=>.cons q (Vals.set r i t)
theorem Vals.append:∀ {xs ys:List V} {us ws:List Value},Vals xs us → Vals ys ws → Vals (xs ++ ys) (us ++ ws)
  | _,_,_,_,.nil,s=>s
  | _,_,_,_,.cons r t,s=>.cons r (Vals.append t s)
theorem Vals.take:∀ {xs:List V} {us:List Value} (n:Nat),Vals xs us → Vals (xs.take n) (us.take n)
  | _,_,0,_=>.nil
  | _,_,_ + 1,.nil=>.nil
  | _,_,n + 1,.cons r t=>.cons r (Vals.take n t)
theorem Vals.drop:∀ {xs:List V} {us:List Value} (n:Nat),Vals xs us → Vals (xs.drop n) (us.drop n)
  | _,_,0,r=>r
  | _,_,_ + 1,.nil=>.nil
  | _,_,n + 1,.cons _ t=>Vals.drop n t
theorem Vals.none_of:∀ {xs:List V} {us:List Value} {i:Nat},Vals xs us → xs[i]? = none → us[i]? = none:=fun {xs us i} r e=>by
  have h1:=r.length
  have h2:xs.length ≤ i:=List.getElem?_eq_none_iff.mp e
  exact List.getElem?_eq_none_iff.mpr (by omega)
def RelO:Option V → Option Value → Prop
  | some v,some u=>RelV v u
  | none,none=>True
  | _,_=>False
def KV {κ:Type}:List (κ × V) → List (κ × Value) → Prop:=Paired fun (p:κ × V) (q:κ × Value)=>p.1 = q.1 ∧ RelV p.2 q.2
def kV:Key → V
  | .inl i=>.int i
  | .inr x=>.str x
inductive HO where
  | lst (xs:List V)
  | tup (xs:List V)
  | dK (kvs:List (Key × V)) | dT (kvs:List (List Key × V))
  | set (S:Int → Bool) (n:Nat)
  | ins (C dx:Addr) (fs:List (Str × V))
  | own (x:Addr)
  | xd (fs:List (Str × V))
  | met (f x:Addr)
  | rng (lo hi:Int)
  | frz (o:Obj) (u:HO)
  | tbl (ps:Array Value)
  | ext (φ:Heap → Prop)
abbrev Hp:=Addr → Option HO
def upd (H:Hp) (a:Addr) (o:HO):Hp:=fun b=>if b = a then some o else H b
theorem Es {H:Hp} {a:Addr} {o:HO}:upd H a o a = some o:=by unfold upd; rw [if_pos rfl]
theorem Az {H:Hp} {a b:Addr} {o:HO} (h:b ≠ a):upd H a o b = H b:=by unfold upd; rw [if_neg h]
theorem Aev {H:Hp} {a b:Addr} {o u:HO} (h:H a = some o) (h':H b = some u) (d:o ≠ u):a ≠ b:=by
  intro e; subst e; rw [h] at h'; exact d (Option.some.inj h')
theorem Be {H:Hp} {a b:Addr} {o:HO} (h:H a = some o) (h':H b = none):a ≠ b:=by
  intro e; subst e; rw [h] at h'; cases h'
section
variable (P:Program) (w:World)
def ObjOk (H:Hp) (h:Heap) (a:Addr):HO → Prop
  | .lst xs=>xs.length ≤ sizeLine ∧ ∃ (its:List Value) (n:Nat),Vals xs its ∧ h.get? a = some { cls:=.type "list",data:=.seq its.toArray n }
  | .tup xs=>xs.length ≤ sizeLine ∧ ∃ its:List Value,Vals xs its ∧ IsTup h a its.toArray
  | .dK kvs=>kvs.length ≤ sizeLine ∧ (a == sysModules) = false ∧ ∃ vs,KV kvs vs ∧ h.DictOf (B0 P w) a vs
  | .dT kvs=>kvs.length ≤ sizeLine ∧ (a == sysModules) = false ∧ ∃ xs:List (List Key × Addr × Value),
      Paired (fun (p:List Key × V) (q:List Key × Addr × Value)=>p.1 = q.1 ∧ H q.2.1 = some (.tup (p.1.map kV)) ∧ RelV p.2 q.2.2) kvs xs ∧
      ∃ o es ep,h.get? a = some o ∧ o.ExactDict ∧ o.data = .dict es ep ∧ es.toList = xs.map (entryOfKey (tupleKind (B0 P w))) ∧ (xs.map (·.1)).Nodup
  | .set S n=>h.SetOf (intKind P w) a S n
  | .ins C dx fs=>H dx = some (.own a) ∧ fs.length ≤ 1000 ∧ dx ≠ a ∧ h.get? a = some (PySem.W.instObj C dx) ∧
      ∃ mA,h.Ns1 dx mA ∧ (∀ f,RelO (fs.lookup f) (mA f)) ∧ PySem.Within mA (fs.map (·.1))
  | .own _=>∃ o,h.get? a = some o
  | .xd fs=>∃ mA,h.Ns1 a mA ∧ ∀ f,RelO (fs.lookup f) (mA f)
  | .rng lo hi=>∃ t u v,h.get? a = some { cls:=.type "range",data:=.fields #[.int lo t,.int hi u,.int 1 v] }
  | .frz o u=>h.get? a = some o ∧ ObjOk H h a u
  | .tbl ps=>h.get? a = some { cls:=.none,data:=.fields ps }
  | .met f x=>h.get? a = some (PySem.W.methodObj (.ref f) (.ref x))
  | .ext φ=>φ h ∧ (∃ o,h.get? a = some o) ∧ ∀ h1 h2:Heap,φ h1 → (∀ o,h1.get? a = some o → h2.get? a = some o) → φ h2
def HOk (H:Hp) (h:Heap):Prop:=∀ a o,H a = some o → ObjOk P w H h a o
end
section
variable {P:Program} {w:World} {H H':Hp} {h h':Heap} {a:Addr} {o:HO}
theorem ObjOk.lt (x:ObjOk P w H h a o):a < h.objs.size:=by
  cases o with
  | lst xs=>obtain ⟨_,_,_,_,e⟩:=x; exact Heap.lt_size e
  | tup xs=>obtain ⟨_,_,_,p⟩:=x; exact p.lt
  | dK kvs=>obtain ⟨_,_,_,_,o,_,_,e,_⟩:=x; exact Heap.lt_size e
  | dT kvs=>obtain ⟨_,_,_,_,o,_,_,e,_⟩:=x; exact Heap.lt_size e
  | set S n=>obtain ⟨o,_,_,_,e,_⟩:=x; exact Heap.lt_size e
  | ins C dx fs=>obtain ⟨_,_,_,e,_⟩:=x; exact Heap.lt_size e
  | own y=>obtain ⟨_,e⟩:=x; exact Heap.lt_size e
  | xd fs=>obtain ⟨_,⟨_,_,_,e,_⟩,_⟩:=x; exact Heap.lt_size e
  | rng lo hi=>obtain ⟨_,_,_,e⟩:=x; exact Heap.lt_size e
  | frz ob u=>obtain ⟨e,_⟩:=x; exact Heap.lt_size e
  | tbl ps=>exact Heap.lt_size (show h.get? a = some _ from x)
  | met f y=>exact Heap.lt_size (show h.get? a = some _ from x)
  | ext φ=>obtain ⟨_,⟨_,e⟩,_⟩:=x; exact Heap.lt_size e
theorem Paired.mapP {α β:Type} {F G:α → β → Prop}:∀ {l₁:List α} {l₂:List β},Paired F l₁ l₂ → (∀ a b,F a b → G a b) → Paired G l₁ l₂
  | _,_,.nil,_=>.nil
  | _,_,.cons r t,f=>.cons (f _ _ r) (Paired.mapP t f)
theorem ObjOk.stay (x:ObjOk P w H h a o) (k:∀ b u,(b = a ∨ H b = some (.own a)) → h.get? b = some u → h'.get? b = some u)
    (ho:∀ b,H b = some (.own a) → H' b = some (.own a)) (ht:∀ b xs,H b = some (.tup xs) → H' b = some (.tup xs)):ObjOk P w H' h' a o:=by
  induction o with
  | lst xs=>obtain ⟨z,its,n,r,e⟩:=x; exact ⟨z,its,n,r,k _ _ (.inl rfl) e⟩
  | tup xs=>obtain ⟨z,its,r,ob,e,c⟩:=x; exact ⟨z,its,r,ob,k _ _ (.inl rfl) e,c⟩
  | dK kvs=>obtain ⟨z,y,vs,r,ob,es,ep,e,c⟩:=x; exact ⟨z,y,vs,r,ob,es,ep,k _ _ (.inl rfl) e,c⟩
  | dT kvs=>
    obtain ⟨z,y,xs,r,ob,es,ep,e,c⟩:=x
    exact ⟨z,y,xs,Paired.mapP r fun p q z=>⟨z.1,ht _ _ z.2.1,z.2.2⟩,ob,es,ep,k _ _ (.inl rfl) e,c⟩
  | set S n=>obtain ⟨ob,es,ep,t,e,c⟩:=x; exact ⟨ob,es,ep,t,k _ _ (.inl rfl) e,c⟩
  | ins C dx fs=>
    obtain ⟨d,z,ne,e,mA,⟨od,es,ep,e2,c⟩,r⟩:=x
    exact ⟨ho _ d,z,ne,k _ _ (.inl rfl) e,mA,⟨od,es,ep,k _ _ (.inr d) e2,c⟩,r⟩
  | own y=>obtain ⟨ob,e⟩:=x; exact ⟨ob,k _ _ (.inl rfl) e⟩
  | xd fs=>obtain ⟨mA,⟨od,es,ep,e,c⟩,r⟩:=x; exact ⟨mA,⟨od,es,ep,k _ _ (.inl rfl) e,c⟩,r⟩
  | rng lo hi=>obtain ⟨t,u,v,e⟩:=x; exact ⟨t,u,v,k _ _ (.inl rfl) e⟩
  | frz ob u ih=>obtain ⟨e,q⟩:=x; exact ⟨k _ _ (.inl rfl) e,ih q⟩
  | tbl ps=>
    have e:h.get? a = some { cls:=.none,data:=.fields ps }:=x
    show h'.get? a = some { cls:=.none,data:=.fields ps }
    exact k a _ (.inl rfl) e
  | met f y=>
    have e:h.get? a = some (PySem.W.methodObj (.ref f) (.ref y)):=x
    show h'.get? a = some (PySem.W.methodObj (.ref f) (.ref y))
    exact k a _ (.inl rfl) e
  | ext φ=>obtain ⟨p,⟨o,e⟩,st⟩:=x; exact ⟨st _ _ p fun o q=>k _ _ (.inl rfl) q,⟨o,k _ _ (.inl rfl) e⟩,st⟩
theorem HOk.lt (x:HOk P w H h) (e:H a = some o):a < h.objs.size:=(x a o e).lt
theorem HOk.fresh (x:HOk P w H h) (e:h.objs.size ≤ a):H a = none:=by
  cases q:H a with
  | none=>rfl
  | some u=>exact absurd (Nat.lt_of_lt_of_le (x.lt q) e) (Nat.lt_irrefl _)
theorem HOk.kept (x:HOk P w H h) (k:∀ b u,h.get? b = some u → h'.get? b = some u):HOk P w H h':=fun a o e=>
  (x a o e).stay (fun b u _ q=>k b u q) (fun _ q=>q) fun _ _ q=>q
theorem HOk.laid (x:HOk P w H h) (k:∀ b u,h.get? b = some u → h'.get? b = some u) (hp:h.objs.size ≤ a) (new:ObjOk P w (upd H a o) h' a o):HOk P w (upd H a o) h':=fun b u e=>by
  have hn:=x.fresh hp
  by_cases hb:b = a
  · subst hb; rw [Es] at e; cases e; exact new
  · rw [Az hb] at e
    exact (x b u e).stay (fun c v _ q=>k c v q) (fun c q=>by rw [Az (Be q hn)]; exact q) fun c xs q=>by rw [Az (Be q hn)]; exact q
end
def Rd (H:Hp) (a:Addr) (u:HO):Prop:=H a = some u ∨ ∃ o,H a = some (.frz o u)
theorem Rd.of {H:Hp} {a:Addr} {u:HO} (h:H a = some u):Rd H a u:=.inl h
theorem Rd.ok {P:Program} {w:World} {H:Hp} {h:Heap} {a:Addr} {u:HO} (r:Rd H a u) (x:HOk P w H h):ObjOk P w H h a u:=by
  rcases r with r | ⟨o,r⟩
  · exact x a u r
  · obtain ⟨_,q⟩:=x a _ r
    exact q
def Mut:Option HO → Prop
  | some (.lst _)=>True
  | some (.dK _)=>True
  | some (.dT _)=>True
  | some (.set _ _)=>True
  | some (.ins _ _ _)=>True
  | some (.ext _)=>True
  | _=>False
section
variable {P:Program} {w:World} {H:Hp} {h h':Heap} {x e:Addr} {o':HO}
theorem HOk.write (ok:HOk P w H h) (mu:Mut (H x)) (he:e = x ∨ H e = some (.own x)) (k:∀ b u,b ≠ e → h.get? b = some u → h'.get? b = some u) (heo:∃ u,h'.get? e = some u)
    (new:ObjOk P w (upd H x o') h' x o'):HOk P w (upd H x o') h':=fun b u q=>by
  have nown:∀ c y,H c = some (.own y) → c ≠ x:=fun c y r z=>by subst z; rw [r] at mu; exact mu
  have ntup:∀ c xs,H c = some (.tup xs) → c ≠ x:=fun c xs r z=>by subst z; rw [r] at mu; exact mu
  by_cases hb:b = x
  · subst hb; rw [Es] at q; cases q; exact new
  · rw [Az hb] at q
    by_cases hbe:b = e
    · have q':H b = some (.own x):=by
        rcases he with z | z
        · exact absurd (hbe.trans z) hb
        · rw [hbe]; exact z
      rw [q] at q'; cases q'
      obtain ⟨v,hv⟩:=heo
      exact ⟨v,by rw [hbe]; exact hv⟩
    · refine (ok b u q).stay (fun c v hc r=>k c v ?_ r) (fun c r=>by rw [Az (nown c b r)]; exact r) fun c xs r=>by rw [Az (ntup c xs r)]; exact r
      rcases hc with rfl | hc
      · exact hbe
      · rintro rfl
        rcases he with z | z
        · exact nown c b hc z
        · rw [hc] at z; cases z; exact hb rfl
end
structure Un (fs ex:List Addr) (H H':Hp) (h h':Heap):Prop where
  keep:∀ b o,h.get? b = some o → H b = none → b ∉ fs → b ∉ ex → h'.get? b = some o
  slot:∀ b o,h.get? b = some o → H b = none → b ∈ fs → b ∉ ex → ∃ sl,h'.get? b = some { o with slots:=sl }
  free:∀ b o,h.get? b = some o → H b = none → b ∉ ex → H' b = none
  there:∀ b o,h.get? b = some o → b ∉ ex → ∃ o',h'.get? b = some o'
  tups:∀ b xs,H b = some (.tup xs) → H' b = some (.tup xs)
  frzs:∀ b o u,H b = some (.frz o u) → H' b = some (.frz o u)
  tbls:∀ b ps,H b = some (.tbl ps) → ∃ more,H' b = some (.tbl (ps ++ more))
section
variable {fs fs' ex ex':List Addr} {H H1 H2:Hp} {h h1 h2 h':Heap} {a x e:Addr} {o:HO}
theorem Un.any (u:Un fs ex H H1 h h1) {b:Addr} {ob:Obj} (q:h.get? b = some ob) (n:H b = none) (hx:b ∉ ex):∃ sl,h1.get? b = some { ob with slots:=sl }:=by
  by_cases hb:b ∈ fs
  · exact u.slot b ob q n hb hx
  · exact ⟨ob.slots,u.keep b ob q n hb hx⟩
theorem Un.trans (a:Un fs ex H H1 h h1) (b:Un fs ex H1 H2 h1 h2):Un fs ex H H2 h h2 where
  keep:=fun c ob q n hc hx=>b.keep c ob (a.keep c ob q n hc hx) (a.free c ob q n hx) hc hx
  slot:=fun c ob q n hc hx=>by
    obtain ⟨sl,e1⟩:=a.slot c ob q n hc hx
    obtain ⟨sl',e2⟩:=b.slot c _ e1 (a.free c ob q n hx) hc hx
    exact ⟨sl',e2⟩
  free:=fun c ob q n hx=>by
    obtain ⟨o',e1⟩:=a.there c ob q hx
    exact b.free c o' e1 (a.free c ob q n hx) hx
  there:=fun c ob q hx=>by
    obtain ⟨o',e1⟩:=a.there c ob q hx
    exact b.there c o' e1 hx
  tups:=fun c xs q=>b.tups c xs (a.tups c xs q)
  frzs:=fun c ob xs q=>b.frzs c ob xs (a.frzs c ob xs q)
  tbls:=fun c ps q=>by
    obtain ⟨m1,e1⟩:=a.tbls c ps q
    obtain ⟨m2,e2⟩:=b.tbls c _ e1
    exact ⟨m1 ++ m2,by rw [e2,Array.append_assoc]⟩
theorem Un.kept (k:∀ b u,h.get? b = some u → h'.get? b = some u):Un fs ex H H h h':=
  ⟨fun b ob q _ _ _=>k b ob q,fun b ob q _ _ _=>⟨ob.slots,k b ob q⟩,fun _ _ _ n _=>n,fun b ob q _=>⟨ob,k b ob q⟩,fun _ _ q=>q,fun _ _ _ q=>q,fun _ ps q=>⟨#[],by rw [q]; simp⟩⟩
theorem Un.refl:Un fs ex H H h h:=Un.kept fun _ _ q=>q
theorem Un.laid (k:∀ b u,h.get? b = some u → h'.get? b = some u) (hp:h.objs.size ≤ a) (hn:H a = none):Un fs ex H (upd H a o) h h' where
  keep:=fun b u q _ _ _=>k b u q
  slot:=fun b u q _ _ _=>⟨u.slots,k b u q⟩
  free:=fun b u q n _=>by rw [Az (Nat.ne_of_lt (Nat.lt_of_lt_of_le (Heap.lt_size q) hp))]; exact n
  there:=fun b u q _=>⟨u,k b u q⟩
  tups:=fun b xs q=>by rw [Az (Be q hn)]; exact q
  frzs:=fun b u xs q=>by rw [Az (Be q hn)]; exact q
  tbls:=fun b ps q=>⟨#[],by rw [Az (Be q hn),q]; simp⟩
theorem Un.write (mu:Mut (H x)) (he:e = x ∨ H e = some (.own x)) (k:∀ b u,b ≠ e → h.get? b = some u → h'.get? b = some u) (heo:∃ u,h'.get? e = some u):Un fs ex H (upd H x o) h h':=by
  have hx:∀ b,H b = none → b ≠ x:=fun b n z=>by subst z; rw [n] at mu; exact mu
  have hb:∀ b,H b = none → b ≠ e:=fun b n z=>by
    subst z
    rcases he with r | r
    · exact hx b n r
    · rw [n] at r; cases r
  have hm:∀ b u,H b = some u → ¬ Mut (some u) → b ≠ x:=fun b u q nm z=>by subst z; rw [q] at mu; exact nm mu
  refine ⟨fun b u q n _ _=>k b u (hb b n) q,fun b u q n _ _=>⟨u.slots,k b u (hb b n) q⟩,fun b u q n _=>by rw [Az (hx b n)]; exact n,fun b u q _=>?_,
    fun b xs q=>by rw [Az (hm b _ q fun z=>z)]; exact q,fun b u xs q=>by rw [Az (hm b _ q fun z=>z)]; exact q,fun b ps q=>⟨#[],by rw [Az (hm b _ q fun z=>z),q]; simp⟩⟩
  by_cases hbe:b = e
  · subst hbe; exact heo
  · exact ⟨u,k b u hbe q⟩
theorem Un.mono (u:Un fs ex H H1 h h1) (hs:∀ b ∈ fs,b ∈ fs') (hx:∀ b ∈ ex,b ∈ ex'):Un fs' ex' H H1 h h1:=
  ⟨fun b ob q n hb he=>u.keep b ob q n (fun z=>hb (hs b z)) fun z=>he (hx b z),fun _ _ q n _ he=>u.any q n fun z=>he (hx _ z),fun b ob q n he=>u.free b ob q n fun z=>he (hx b z),fun b ob q he=>u.there b ob q fun z=>he (hx b z),u.tups,u.frzs,u.tbls⟩
end
def trk (h:Heap) (H:Hp):List Addr:=(List.range h.objs.size).filter fun a=>(H a).isSome
def Qt (h:Heap) (H:Hp):Heap:=PySem.W.hideAll h (trk h H)
theorem Wn (h:Heap) (H:Hp):(Qt h H).objs.size = h.objs.size:=PySem.W.hideAll_size _ _
theorem Yy {h:Heap} {H:Hp} {b:Addr} {o:Obj} (e:h.get? b = some o) (n:H b = none):(Qt h H).get? b = some o:=
  PySem.W.hideAll_get _ e fun hm=>by
    have q:(H b).isSome = true:=(List.mem_filter.mp hm).2
    rw [n] at q; simp at q
theorem Acf {h:Heap} {H:Hp} {b:Addr} {o:Obj} (e:(Qt h H).get? b = some o):h.get? b = some o ∧ H b = none:=by
  have e':h.get? b = some o:=PySem.W.of_hideAll (trk h H) e
  refine ⟨e',?_⟩
  cases q:H b with
  | none=>rfl
  | some x=>
    have hm:b ∈ trk h H:=List.mem_filter.mpr ⟨List.mem_range.mpr (Heap.lt_size e'),by simp [q]⟩
    have z:(Qt h H).get? b = none:=PySem.W.hideAll_none (trk h H) hm
    rw [z] at e; cases e
def Adf (g h:Heap) (L:Addr):List (Addr × Obj):=(List.range h.objs.size).filterMap fun a=>if a = L ∨ (g.get? a).isSome = true then none else (h.get? a).map fun o=>(a,o)
def rest (g h:Heap) (L d:Addr):List (Addr × Obj):=(Adf g h L).filter fun p=>decide (p.1 ≠ d)
end L2
namespace L2
open PySem PySem.Spec PyProof.Rows
structure Mod (K:PySem.W.Frag) (mg:Str → Option Value) (base:Heap):Prop where
  kin:K.In base
  glob:base.Ns mainGlobals mg
  blt:∃ mb,base.Ns builtinsNs mb ∧ ∀ x:Str,x ≠ "__name__" → mb x = bootBuiltins x
  nolimit:base.NoLimit
structure Cx where
  prog:Program
  w:World
  K:PySem.W.Frag
  mg:Str → Option Value
  base:Heap
  A:Around
  N:List Str
  s₀:Shared
  H₀:Hp
  env:Env
  outer:List Env
  stack:List Env
  ex:List Addr
  fn:Str → Bool
  calm:Bool
  pn:List (Addr × Obj)
  xe:Value → Shared → Prop
def frs (l:List Env):List Addr:=l.filterMap (·.frame)
abbrev Cx.fs (X:Cx):List Addr:=frs X.outer
def Vis (sc:Scope) (x:Str):Prop:=sc.names.lookup x = some .local ∨ sc.names.lookup x = some .cell ∨ sc.names.lookup x = some .free
def Loc (sc:Scope) (x:Str):Prop:=sc.names.lookup x = some .local ∨ sc.names.lookup x = some .cell
def Ajx (env:Env) (h:Heap) (m:Str → Option Value) (x:Str) (u:Value):Prop:=
  (env.kindOf x = some .local ∧ m x = some u) ∨ ((env.kindOf x = some .cell ∨ env.kindOf x = some .free) ∧ ∃ c,env.cells.lookup x = some c ∧ h.IsCell c (some u))
structure Cx.Ok (X:Cx):Prop where
  mod:Mod X.K X.mg X.base
  kind:X.env.scope.kind = .function
  glob:X.env.globals = mainGlobals
  blt:X.env.builtins = builtinsNs
  above:X.s₀.heap.objs.size ≤ X.env.locals
  inj:∀ x y c,X.env.cells.lookup x = some c → X.env.cells.lookup y = some c → x = y
  has:∀ x,(X.env.kindOf x = some .cell ∨ X.env.kindOf x = some .free) → ∃ c,X.env.cells.lookup x = some c
  cab:∀ x c,X.fn x = true → X.env.cells.lookup x = some c → X.s₀.heap.objs.size ≤ c
  hd:X.calm = true → X.A.handled = none
  frames:X.A.frames = some X.stack
  stk:X.stack = X.outer ∨ (X.stack = X.env :: X.outer ∧ X.env.frame = some X.env.locals)
  exf:∀ b ∈ X.ex,b ≠ X.env.locals ∧ ∀ x c,X.env.cells.lookup x = some c → c ≠ b
  bs:∀ b o,X.base.get? b = some o → X.s₀.heap.get? b = some o ∧ X.H₀ b = none
  bsz:X.base.objs.size ≤ X.s₀.heap.objs.size
  noex:∀ b o,X.base.get? b = some o → b ∉ X.ex
  exfs:∀ b ∈ X.ex,b ∉ X.fs
  funs:X.s₀.heap.FunFrames X.base X.outer
  frf:∀ b ∈ X.fs,X.H₀ b = none
structure Inv (X:Cx) (pins:List (Addr × Obj)) (σ:List (Option V)) (H:Hp) (s:Shared):Prop where
  ok:X.Ok
  os:s.os = X.s₀.os
  bare:AllBare s.gens
  base:Un X.fs X.ex X.H₀ H X.s₀.heap s.heap
  loc:∃ m,s.heap.Ns X.env.locals m ∧ ∀ (i:Nat) (x:Str) (v:V),X.N[i]? = some x → σ[i]? = some (some v) → Vis X.env.scope x → ∃ u,RelV v u ∧ Ajx X.env s.heap m x u
  cell:∀ x c,X.env.cells.lookup x = some c → ∃ v,s.heap.IsCell c v
  free:H X.env.locals = none
  freeC:∀ x c,X.env.cells.lookup x = some c → H c = none
  pin:∀ p ∈ X.pn ++ pins,s.heap.get? p.1 = some p.2 ∧ H p.1 = none ∧ p.1 ≠ X.env.locals ∧ p.1 ∉ X.fs ∧ ∀ v,p.2.data ≠ .cell v
  hok:HOk X.prog X.w H s.heap
  len:σ.length = X.N.length
section
variable {X:Cx} {pins:List (Addr × Obj)} {σ:List (Option V)} {H H':Hp} {s:Shared} {h':Heap}
theorem Cx.Ok.nofr (ok:X.Ok) {b:Addr} {o:Obj} (e:X.base.get? b = some o):b ∉ X.fs:=fun hb=>by
  have:=(ok.funs.mem hb).1
  rw [e] at this; cases this
theorem Inv.bs (I:Inv X pins σ H s):∀ b o,X.base.get? b = some o → s.heap.get? b = some o ∧ H b = none:=fun b o e=>
  ⟨I.base.keep b o (I.ok.bs b o e).1 (I.ok.bs b o e).2 (I.ok.nofr e) (I.ok.noex b o e),I.base.free b o (I.ok.bs b o e).1 (I.ok.bs b o e).2 (I.ok.noex b o e)⟩
theorem Inv.bk (I:Inv X pins σ H s):∀ b o,X.base.get? b = some o → s.heap.get? b = some o:=fun b o e=>(I.bs b o e).1
theorem Inv.mod (I:Inv X pins σ H s):Mod X.K X.mg X.base:=I.ok.mod
theorem Inv.kIn (I:Inv X pins σ H s):X.K.In s.heap:=I.ok.mod.kin.keeps I.bk
theorem Inv.nolimit (I:Inv X pins σ H s):s.heap.NoLimit:=I.ok.mod.nolimit.keeps I.bk
theorem Inv.fr (I:Inv X pins σ H s):∃ m,Fr X.base X.env.locals s.heap m:=
  let ⟨m,hn,_⟩:=I.loc
  ⟨m,hn,I.bk,Nat.le_trans I.ok.bsz I.ok.above⟩
theorem Inv.lt (I:Inv X pins σ H s):X.env.locals < s.heap.objs.size:=let ⟨_,hn,_⟩:=I.loc; hn.lt
theorem Inv.sz (I:Inv X pins σ H s):X.s₀.heap.objs.size ≤ s.heap.objs.size:=Nat.le_trans I.ok.above (Nat.le_of_lt I.lt)
theorem Inv.nofs (I:Inv X pins σ H s) {a:Addr} (h:s.heap.objs.size ≤ a):a ∉ X.fs:=fun hb=>by
  obtain ⟨_,o,ho,_⟩:=I.ok.funs.mem hb
  exact absurd (Nat.lt_of_lt_of_le (Heap.lt_size ho) (Nat.le_trans I.sz h)) (Nat.lt_irrefl _)
theorem Inv.cne (I:Inv X pins σ H s):∀ x c,X.env.cells.lookup x = some c → c ≠ X.env.locals:=fun x c e z=>by
  obtain ⟨v,o,ho,hd⟩:=I.cell x c e
  obtain ⟨m,⟨o',es,ep,ho',hd',_⟩,_⟩:=I.loc
  rw [z,ho'] at ho; cases ho; rw [hd'] at hd; cases hd
theorem Inv.funs (I:Inv X pins σ H s):s.heap.FunFrames X.base X.outer:=by
  have all:∀ (l:List Env),(∀ b ∈ frs l,b ∈ X.fs) → X.s₀.heap.FunFrames X.base l → s.heap.FunFrames X.base l:=by
    intro l
    induction l with
    | nil=>intro _ _; trivial
    | cons env r ih=>
      intro hs hl
      obtain ⟨hk,⟨L,o,hf,hn,ho,hd⟩,hr⟩:=hl
      have hL:L ∈ X.fs:=hs L (by unfold frs; rw [List.filterMap_cons,hf]; exact List.mem_cons_self)
      obtain ⟨sl,e⟩:=I.base.slot L o ho (I.ok.frf L hL) hL fun z=>I.ok.exfs L z hL
      exact ⟨hk,⟨L,_,hf,hn,e,hd⟩,ih (fun b hb=>hs b (by unfold frs; rw [List.filterMap_cons,hf]; exact List.mem_cons_of_mem _ hb)) hr⟩
  exact all X.outer (fun _ hb=>hb) I.ok.funs
theorem Inv.stack (I:Inv X pins σ H s):s.heap.FunFrames X.base X.stack:=by
  rcases I.ok.stk with e | ⟨e,hf⟩
  · rw [e]; exact I.funs
  · rw [e]
    obtain ⟨m,hn,_⟩:=I.loc
    refine .cons (by rw [I.ok.kind]; decide) hf hn ?_ I.funs
    exact Heap.get?_none_of_le (Nat.le_trans I.ok.bsz I.ok.above)
theorem Inv.stkSub (I:Inv X pins σ H s):∀ b ∈ frs X.stack,b ∈ X.env.locals :: X.fs:=fun b hb=>by
  rcases I.ok.stk with e | ⟨e,hf⟩
  · rw [e] at hb; exact List.mem_cons_of_mem _ hb
  · rw [e] at hb
    unfold frs at hb
    rw [List.filterMap_cons,hf] at hb
    exact hb
theorem Inv.stkFree (I:Inv X pins σ H s):∀ b ∈ frs X.stack,H b = none:=fun b hb=>by
  rcases List.mem_cons.mp (I.stkSub b hb) with e | hb
  · rw [e]; exact I.free
  · obtain ⟨_,o,ho,_⟩:=I.ok.funs.mem hb
    exact I.base.free b o ho (I.ok.frf b hb) fun z=>I.ok.exfs b z hb
theorem Inv.step {g':Array GenState} {t':Nat} {d':Drawn} {ch:List Addr} (I:Inv X pins σ H s)
    (hch:∀ b ∈ ch,(b ∈ X.ex ∨ X.s₀.heap.objs.size ≤ b) ∧ b ≠ X.env.locals ∧ (∀ x c,X.env.cells.lookup x = some c → c ≠ b) ∧ ∀ p ∈ X.pn ++ pins,p.1 ≠ b)
    (keep:∀ b o,b ≠ X.env.locals → b ∉ X.fs → b ∉ ch → s.heap.get? b = some o → H b = none → h'.get? b = some o)
    (slot:∀ b o,b ≠ X.env.locals → b ∈ X.fs → b ∉ ch → s.heap.get? b = some o → H b = none → ∃ sl,h'.get? b = some { o with slots:=sl }) (free:∀ b o,b ∉ ch → s.heap.get? b = some o → H b = none → H' b = none)
    (there:∀ b o,b ∉ ch → s.heap.get? b = some o → ∃ o',h'.get? b = some o')
    (tups:∀ b xs,H b = some (.tup xs) → H' b = some (.tup xs)) (frzs:∀ b o u,H b = some (.frz o u) → H' b = some (.frz o u)) (tbls:∀ b ps,H b = some (.tbl ps) → ∃ more,H' b = some (.tbl (ps ++ more)))
    (ns:∀ m,s.heap.Ns X.env.locals m → h'.Ns X.env.locals m) (hok:HOk X.prog X.w H' h') (hg:AllBare g') :
    Inv X pins σ H' { s with heap:=h',gens:=g',drawn:=d',toks:=t' }:=by
  have neL:∀ b o,X.s₀.heap.get? b = some o → b ≠ X.env.locals:=fun b o e=>Nat.ne_of_lt (Nat.lt_of_lt_of_le (Heap.lt_size e) I.ok.above)
  have neC:∀ b o,X.s₀.heap.get? b = some o → b ∉ X.ex → b ∉ ch:=fun b o e hx hb=>by
    rcases (hch b hb).1 with z | z
    · exact hx z
    · exact absurd (Nat.lt_of_lt_of_le (Heap.lt_size e) z) (Nat.lt_irrefl _)
  have cellK:∀ x c,X.env.cells.lookup x = some c → ∀ v,s.heap.IsCell c v → h'.IsCell c v:=fun x c e v ⟨o,ho,hd⟩=>by
    have nch:c ∉ ch:=fun z=>(hch c z).2.2.1 x c e rfl
    by_cases hc:c ∈ X.fs
    · obtain ⟨sl,q⟩:=slot c o (I.cne x c e) hc nch ho (I.freeC x c e)
      exact ⟨_,q,hd⟩
    · exact ⟨o,keep c o (I.cne x c e) hc nch ho (I.freeC x c e),hd⟩
  refine ⟨I.ok,I.os,hg,⟨fun b o e n hb hx=>?_,fun b o e n hb hx=>?_,fun b o e n hx=>?_,fun b o e hx=>?_,fun b xs e=>tups b xs (I.base.tups b xs e),fun b o xs e=>frzs b o xs (I.base.frzs b o xs e),fun b ps e=>?_⟩,?_,fun x c e=>?_,?_,fun x c e=>?_,fun p hp=>?_,hok,I.len⟩
  · exact keep b o (neL b o e) hb (neC b o e hx) (I.base.keep b o e n hb hx) (I.base.free b o e n hx)
  · obtain ⟨sl,e1⟩:=I.base.slot b o e n hb hx
    obtain ⟨sl',e2⟩:=slot b _ (neL b o e) hb (neC b o e hx) e1 (I.base.free b o e n hx)
    exact ⟨sl',e2⟩
  · obtain ⟨o',e1⟩:=I.base.there b o e hx
    exact free b o' (neC b o e hx) e1 (I.base.free b o e n hx)
  · obtain ⟨o',e1⟩:=I.base.there b o e hx
    exact there b o' (neC b o e hx) e1
  · obtain ⟨m1,e1⟩:=I.base.tbls b ps e
    obtain ⟨m2,e2⟩:=tbls b _ e1
    exact ⟨m1 ++ m2,by rw [e2,Array.append_assoc]⟩
  · obtain ⟨m,hn,hl⟩:=I.loc
    refine ⟨m,ns m hn,fun i x v e1 e2 e3=>?_⟩
    obtain ⟨u,r,l⟩:=hl i x v e1 e2 e3
    refine ⟨u,r,?_⟩
    rcases l with l | ⟨k,c,e,z⟩
    · exact .inl l
    · exact .inr ⟨k,c,e,cellK x c e _ z⟩
  · obtain ⟨v,z⟩:=I.cell x c e
    exact ⟨v,cellK x c e v z⟩
  · obtain ⟨m,⟨o,_,_,ho,_⟩,_⟩:=I.loc
    exact free _ o (fun z=>(hch _ z).2.1 rfl) ho I.free
  · obtain ⟨v,o,ho,hd⟩:=I.cell x c e
    exact free c o (fun z=>(hch c z).2.2.1 x c e rfl) ho (I.freeC x c e)
  · obtain ⟨e,n,ne,nf,d⟩:=I.pin p hp
    have nch:p.1 ∉ ch:=fun z=>(hch p.1 z).2.2.2 p hp rfl
    exact ⟨keep p.1 p.2 ne nf nch e n,free p.1 p.2 nch e n,ne,nf,d⟩
theorem Inv.un {t':Nat} (I:Inv X pins σ H s) (u:Un X.fs [] H H' s.heap h') (hok:HOk X.prog X.w H' h'):Inv X pins σ H' { s with heap:=h',toks:=t' }:=by
  obtain ⟨m,⟨o,es,ep,ho,r⟩,_⟩:=id I.loc
  obtain ⟨sl,hL⟩:=u.any ho I.free (by simp)
  exact I.step (g':=s.gens) (d':=s.drawn) (ch:=[]) (fun _ z=>nomatch z) (fun b o _ hb _ e n=>u.keep b o e n hb (by simp)) (fun b o _ hb _ e n=>u.slot b o e n hb (by simp)) (fun b o _ e n=>u.free b o e n (by simp)) (fun b o _ e=>u.there b o e (by simp)) u.tups u.frzs u.tbls (fun m' hm=>by
    obtain ⟨o',es',ep',ho',r'⟩:=hm
    rw [ho] at ho'; cases ho'
    exact ⟨_,es',ep',hL,r'⟩) hok I.bare
theorem Inv.call {g':Array GenState} {t':Nat} {d':Drawn} {ch:List Addr} (I:Inv X pins σ H s) (u:Un (frs X.stack) ch H H' s.heap h') (hok:HOk X.prog X.w H' h') (hg:AllBare g')
    (hch:∀ b ∈ ch,(b ∈ X.ex ∨ X.s₀.heap.objs.size ≤ b) ∧ b ≠ X.env.locals ∧ (∀ x c,X.env.cells.lookup x = some c → c ≠ b) ∧ ∀ p ∈ X.pn ++ pins,p.1 ≠ b) :
    Inv X pins σ H' { s with heap:=h',gens:=g',drawn:=d',toks:=t' }:=by
  obtain ⟨m,⟨o,es,ep,ho,r⟩,_⟩:=id I.loc
  obtain ⟨sl,hL⟩:=u.any ho I.free fun z=>(hch _ z).2.1 rfl
  exact I.step (ch:=ch) hch (fun b o hL hb hc e n=>u.keep b o e n (fun z=>(List.mem_cons.mp (I.stkSub b z)).elim hL hb) hc) (fun b o _ _ hc e n=>u.any e n hc) (fun b o hc e n=>u.free b o e n hc) (fun b o hc e=>u.there b o e hc) u.tups u.frzs u.tbls (fun m' hm=>by
    obtain ⟨o',es',ep',ho',r'⟩:=hm
    rw [ho] at ho'; cases ho'
    exact ⟨_,es',ep',hL,r'⟩) hok hg
theorem Inv.turned {t':Nat} {it:Addr} (I:Inv X pins σ H s) (k:∀ b o,b ≠ it → s.heap.get? b = some o → h'.get? b = some o) (hn:H it = none) (hL:it ≠ X.env.locals)
    (h1:it ∈ X.ex ∨ X.s₀.heap.objs.size ≤ it) (h2:∀ x c,X.env.cells.lookup x = some c → c ≠ it) (h3:∀ p ∈ X.pn ++ pins,p.1 ≠ it):Inv X pins σ H { s with heap:=h',toks:=t' }:=by
  have nit:∀ b u,H b = some u → b ≠ it:=fun b u e z=>by rw [z,hn] at e; cases e
  refine I.step (g':=s.gens) (d':=s.drawn) (ch:=[it]) (fun b hb=>?_) (fun b o _ _ hc e _=>k b o (fun z=>hc (by simp [z])) e) (fun b o _ _ hc e _=>⟨o.slots,k b o (fun z=>hc (by simp [z])) e⟩) (fun _ _ _ _ n=>n)
    (fun b o hc e=>⟨o,k b o (fun z=>hc (by simp [z])) e⟩) (fun _ _ e=>e) (fun _ _ _ e=>e) (fun b ps e=>⟨#[],by rw [e]; simp⟩) (fun m hm=>?_) (fun b u e=>?_) I.bare
  · have e:b = it:=by simpa using hb
    subst e
    exact ⟨h1,hL,h2,h3⟩
  · obtain ⟨o,es,ep,ho,r⟩:=hm
    exact ⟨o,es,ep,k _ o (Ne.symm hL) ho,r⟩
  · refine (I.hok b u e).stay (fun c v hc q=>k c v ?_ q) (fun _ q=>q) fun _ _ q=>q
    rcases hc with z | z
    · rw [z]; exact nit b u e
    · exact nit c _ z
theorem Inv.tok (I:Inv X pins σ H s) (t:Nat):Inv X pins σ H { s with toks:=t }:=I.un (h':=s.heap) (t':=t) Un.refl I.hok
theorem Inv.kept {t':Nat} (I:Inv X pins σ H s) (k:∀ b u,s.heap.get? b = some u → h'.get? b = some u):Inv X pins σ H { s with heap:=h',toks:=t' }:=I.un (Un.kept k) (I.hok.kept k)
theorem Inv.laid {a:Addr} {o:HO} {t':Nat} (I:Inv X pins σ H s) (k:∀ b u,s.heap.get? b = some u → h'.get? b = some u) (hp:s.heap.objs.size ≤ a) (new:ObjOk X.prog X.w (upd H a o) h' a o) :
    Inv X pins σ (upd H a o) { s with heap:=h',toks:=t' }:=I.un (Un.laid k hp (I.hok.fresh hp)) (I.hok.laid k hp new)
theorem Inv.write {x e:Addr} {o:HO} {t':Nat} (I:Inv X pins σ H s) (mu:Mut (H x)) (he:e = x ∨ H e = some (.own x)) (k:∀ b u,b ≠ e → s.heap.get? b = some u → h'.get? b = some u) (heo:∃ u,h'.get? e = some u)
    (new:ObjOk X.prog X.w (upd H x o) h' x o):Inv X pins σ (upd H x o) { s with heap:=h',toks:=t' }:=I.un (Un.write mu he k heo) (I.hok.write mu he k heo new)
theorem Inv.pins_of {pins':List (Addr × Obj)} (I:Inv X pins σ H s) (h:∀ p ∈ pins',s.heap.get? p.1 = some p.2 ∧ H p.1 = none ∧ p.1 ≠ X.env.locals ∧ p.1 ∉ X.fs ∧ ∀ v,p.2.data ≠ .cell v):Inv X pins' σ H s:=
  ⟨I.ok,I.os,I.bare,I.base,I.loc,I.cell,I.free,I.freeC,fun p hp=>(List.mem_append.mp hp).elim (fun z=>I.pin p (List.mem_append_left _ z)) (h p),I.hok,I.len⟩
theorem Rl {N:List Str} (hN:N.Nodup) {i j:Nat} {x:Str} (a:N[i]? = some x) (b:N[j]? = some x):i = j:=by
  obtain ⟨h1,e1⟩:=List.getElem?_eq_some_iff.mp a
  obtain ⟨h2,e2⟩:=List.getElem?_eq_some_iff.mp b
  exact (List.getElem_inj hN).mp (e1.trans e2.symm)
theorem X0 {M:Model} {A:Around} {E:Value → Shared → Prop} {i:Nat} {x:Str} {v:V} {u:Value} {Q:Unit → Shared → Prop} (I:Inv X pins σ H s) (hN:X.N.Nodup) (hi:X.N[i]? = some x) (hx:Loc X.env.scope x) (r:RelV v u)
    (h:∀ s',Inv X pins (σ.set i (some v)) H s' → (∃ a,Heap.SameBut a s.heap s'.heap ∧ (a = X.env.locals ∨ X.env.cells.lookup x = some a)) → Q () s') (hf:X.fn x = true ∨ X.env.scope.names.lookup x = some .local:=by first | exact .inl rfl | exact .inr rfl | assumption):wpAny M A (storeName X.env x u) Q E s:=by
  obtain ⟨m,hn,hl⟩:=id I.loc
  have hcls:(X.env.scope.kind == .class || (X.env.scope.kind == .module && X.env.locals != X.env.globals)) = false:=by rw [I.ok.kind]; rfl
  have hiσ:i < σ.length:=by rw [I.len]; exact (List.getElem?_eq_some_iff.mp hi).1
  have cne:=I.cne
  have tracked:∀ {a:Addr} {h':Heap},(∃ o,s.heap.get? a = some o ∧ H a = none) → Heap.SameBut a s.heap h' → HOk X.prog X.w H h':=fun {a h'} ha hs b ob e=>by
    obtain ⟨_,_,hfree⟩:=ha
    refine (I.hok b ob e).stay (fun c w' hc q=>(hs.2 c ?_).trans q) (fun _ q=>q) fun _ _ q=>q
    rintro rfl
    rcases hc with rfl | hc
    · rw [hfree] at e; cases e
    · rw [hfree] at hc; cases hc
  rcases hx with hk | hk
  · refine wpAny_storeName_local hk hn (fun h' hn' hs=>?_) hcls
    obtain ⟨oL,_,_,hoL,_⟩:=id hn
    refine h _ ⟨I.ok,I.os,I.bare,⟨fun b o e n hb hx=>?_,fun b o e n hb hx=>?_,I.base.free,fun b o e hx=>?_,I.base.tups,I.base.frzs,I.base.tbls⟩,⟨_,hn',fun j y v' e1 e2 e3=>?_⟩,fun y c e=>?_,I.free,I.freeC,fun p hp=>?_,tracked ⟨oL,hoL,I.free⟩ hs,by simpa using I.len⟩ ⟨_,hs,.inl rfl⟩
    · exact (hs.2 b (Nat.ne_of_lt (Nat.lt_of_lt_of_le (Heap.lt_size e) I.ok.above))).trans (I.base.keep b o e n hb hx)
    · obtain ⟨sl,e1⟩:=I.base.slot b o e n hb hx
      exact ⟨sl,(hs.2 b (Nat.ne_of_lt (Nat.lt_of_lt_of_le (Heap.lt_size e) I.ok.above))).trans e1⟩
    · obtain ⟨o',e1⟩:=I.base.there b o e hx
      exact ⟨o',(hs.2 b (Nat.ne_of_lt (Nat.lt_of_lt_of_le (Heap.lt_size e) I.ok.above))).trans e1⟩
    · by_cases hj:j = i
      · subst hj
        rw [hi] at e1; cases e1
        rw [List.getElem?_set_self hiσ] at e2
        cases e2
        exact ⟨u,r,.inl ⟨hk,by simp⟩⟩
      · rw [List.getElem?_set_ne (Ne.symm hj)] at e2
        obtain ⟨u',r',q⟩:=hl j y v' e1 e2 e3
        refine ⟨u',r',?_⟩
        rcases q with ⟨k,e⟩ | ⟨k,c,e,z⟩
        · refine .inl ⟨k,?_⟩
          have:y ≠ x:=fun e=>hj (Rl hN e1 (e ▸ hi))
          simp [this,e]
        · exact .inr ⟨k,c,e,z.sameBut hs (cne y c e)⟩
    · obtain ⟨w',z⟩:=I.cell y c e
      exact ⟨w',z.sameBut hs (cne y c e)⟩
    · obtain ⟨e,n,ne,nf,d⟩:=I.pin p hp
      exact ⟨(hs.2 p.1 ne).trans e,n,ne,nf,d⟩
  · have hfn:X.fn x = true:=by
      rcases hf with z | z
      · exact z
      · rw [z] at hk; cases hk
    obtain ⟨c,hc⟩:=I.ok.has x (.inl hk)
    obtain ⟨w',z⟩:=I.cell x c hc
    refine wpAny_storeName_cell I.ok.kind hk hc z (fun h' hc' hs=>?_)
    obtain ⟨oc,hoc,hocd⟩:=id z
    refine h { s with heap:=h' } ⟨I.ok,I.os,I.bare,⟨fun b o e n hb hx=>?_,fun b o e n hb hx=>?_,I.base.free,fun b o e hx=>?_,I.base.tups,I.base.frzs,I.base.tbls⟩,⟨m,hn.sameBut hs (Ne.symm (cne x c hc)),fun j y v' e1 e2 e3=>?_⟩,fun y c' e=>?_,I.free,I.freeC,fun p hp=>?_,tracked ⟨oc,hoc,I.freeC x c hc⟩ hs,by simpa using I.len⟩ ⟨c,hs,.inr hc⟩
    · exact (hs.2 b (Nat.ne_of_lt (Nat.lt_of_lt_of_le (Heap.lt_size e) (I.ok.cab x c hfn hc)))).trans (I.base.keep b o e n hb hx)
    · obtain ⟨sl,e1⟩:=I.base.slot b o e n hb hx
      exact ⟨sl,(hs.2 b (Nat.ne_of_lt (Nat.lt_of_lt_of_le (Heap.lt_size e) (I.ok.cab x c hfn hc)))).trans e1⟩
    · obtain ⟨o',e1⟩:=I.base.there b o e hx
      exact ⟨o',(hs.2 b (Nat.ne_of_lt (Nat.lt_of_lt_of_le (Heap.lt_size e) (I.ok.cab x c hfn hc)))).trans e1⟩
    · by_cases hj:j = i
      · subst hj
        rw [hi] at e1; cases e1
        rw [List.getElem?_set_self hiσ] at e2
        cases e2
        exact ⟨u,r,.inr ⟨.inl hk,c,hc,hc'⟩⟩
      · rw [List.getElem?_set_ne (Ne.symm hj)] at e2
        obtain ⟨u',r',q⟩:=hl j y v' e1 e2 e3
        refine ⟨u',r',?_⟩
        rcases q with q | ⟨k,c',e,z'⟩
        · exact .inl q
        · refine .inr ⟨k,c',e,z'.sameBut hs ?_⟩
          rintro rfl
          exact hj (Rl hN e1 (I.ok.inj _ _ _ e hc ▸ hi))
    · by_cases hcc:c' = c
      · subst hcc; exact ⟨_,hc'⟩
      · obtain ⟨w2,z2⟩:=I.cell y c' e
        exact ⟨w2,z2.sameBut hs hcc⟩
    · obtain ⟨e,n,ne,nf,d⟩:=I.pin p hp
      refine ⟨(hs.2 p.1 ?_).trans e,n,ne,nf,d⟩
      intro q
      rw [q,hoc] at e
      have q':oc = p.2:=Option.some.inj e
      exact d w' (by rw [← q']; exact hocd)
theorem Sv {M:Model} {A:Around} {E:Value → Shared → Prop} {i:Nat} {x:Str} {v:V} {u:Value} {Q:Unit → Shared → Prop} (I:Inv X pins σ H s) (hN:X.N.Nodup) (hi:X.N[i]? = some x) (hx:Loc X.env.scope x) (r:RelV v u)
    (h:∀ s',Inv X pins (σ.set i (some v)) H s' → Q () s') (hf:X.fn x = true ∨ X.env.scope.names.lookup x = some .local:=by first | exact .inl rfl | exact .inr rfl | assumption):wpAny M A (storeName X.env x u) Q E s:=
  X0 I hN hi hx r (fun s' I' _=>h s' I') hf
theorem Inv.call' {s':Shared} {ch:List Addr} (I:Inv X pins σ H s) (ho:s'.os = s.os) (u:Un (frs X.stack) ch H H' s.heap s'.heap) (hok:HOk X.prog X.w H' s'.heap) (hg:AllBare s'.gens)
    (hch:∀ b ∈ ch,(b ∈ X.ex ∨ X.s₀.heap.objs.size ≤ b) ∧ b ≠ X.env.locals ∧ (∀ x c,X.env.cells.lookup x = some c → c ≠ b) ∧ ∀ p ∈ X.pn ++ pins,p.1 ≠ b):Inv X pins σ H' s':=by
  obtain ⟨h',g',d',t',o'⟩:=s'
  have e:o' = s.os:=ho
  subst e
  exact I.call (g':=g') (t':=t') (d':=d') u hok hg hch
end
abbrev XK:=Value → Option Addr → Hp → Prop
abbrev St:=List (Option V)
abbrev VK:=V → Hp → Prop
abbrev TE:=St → Hp → VK → Prop
abbrev TT:=St → Hp → (Bool → Hp → Prop) → Prop
abbrev TA:=St → Hp → (List V → Hp → Prop) → Prop
structure Ends where
  nx:St → Hp → Prop
  rt:VK
  bk:St → Hp → Prop:=fun _ _=>False
  ct:St → Hp → Prop:=fun _ _=>False
abbrev TS:=Ends → St → Hp → Prop
def EP (X:Cx) (pins:List (Addr × Obj)) (σ:St) (Q:VK) (u:Value) (s':Shared):Prop:=∃ v H',Inv X pins σ H' s' ∧ RelV v u ∧ Q v H'
def TP (X:Cx) (pins:List (Addr × Obj)) (σ:St) (Q:Bool → Hp → Prop) (b:Bool) (s':Shared):Prop:=∃ H',Inv X pins σ H' s' ∧ Q b H'
def AP (X:Cx) (pins:List (Addr × Obj)) (σ:St) (Q:List V → Hp → Prop) (us:List Value) (s':Shared):Prop:=∃ vs H',Inv X pins σ H' s' ∧ Vals vs us ∧ Q vs H'
def SP (X:Cx) (pins:List (Addr × Obj)) (D:Ends) (f:Flow) (s':Shared):Prop:=
  match f with
  | .next=>∃ σ' H',Inv X pins σ' H' s' ∧ D.nx σ' H'
  | .brk=>∃ σ' H',Inv X pins σ' H' s' ∧ D.bk σ' H'
  | .cont=>∃ σ' H',Inv X pins σ' H' s' ∧ D.ct σ' H'
  | .ret u=>∃ v σ' H',Inv X pins σ' H' s' ∧ RelV v u ∧ D.rt v H'
def PE (X:Cx) (e:Expr) (t:TE):Prop:=
  ∀ (pins:List (Addr × Obj)) (s:Shared) (σ:St) (H:Hp) (Q:VK),Inv X pins σ H s → t σ H Q → wpAny (model X.prog X.w) X.A (eval e X.env) (EP X pins σ Q) X.xe s
def PT (X:Cx) (e:Expr) (t:TT):Prop:=
  ∀ (pins:List (Addr × Obj)) (s:Shared) (σ:St) (H:Hp) (Q:Bool → Hp → Prop),Inv X pins σ H s → t σ H Q → wpAny (model X.prog X.w) X.A (isTrue e X.env (eval e X.env)) (TP X pins σ Q) X.xe s
def PW (X:Cx) (e:Expr) (t:TT):Prop:=
  ∀ (whole:Sem Value) (pins:List (Addr × Obj)) (s:Shared) (σ:St) (H:Hp) (Q:Bool → Hp → Prop),Inv X pins σ H s → t σ H Q → wpAny (model X.prog X.w) X.A (isTrue e X.env whole) (TP X pins σ Q) X.xe s
theorem PW.pt {X:Cx} {e:Expr} {t:TT} (h:PW X e t):PT X e t:=h _
def PA (X:Cx) (es:List Expr) (t:TA):Prop:=
  ∀ (pos:Pos) (pins:List (Addr × Obj)) (s:Shared) (σ:St) (H:Hp) (Q:List V → Hp → Prop),Inv X pins σ H s → t σ H Q → wpAny (model X.prog X.w) X.A (spliced (backTo pos (starEach es X.env))) (AP X pins σ Q) X.xe s
def PS (X:Cx) (st:Stmt) (t:TS):Prop:=
  ∀ (pins:List (Addr × Obj)) (s:Shared) (σ:St) (H:Hp) (D:Ends),Inv X pins σ H s → t D σ H → wpAny (model X.prog X.w) X.A (exec st X.env) (SP X pins D) X.xe s
def PSs (X:Cx) (st:List Stmt) (t:TS):Prop:=
  ∀ (pins:List (Addr × Obj)) (s:Shared) (σ:St) (H:Hp) (D:Ends),Inv X pins σ H s → t D σ H → wpAny (model X.prog X.w) X.A (execs st X.env) (SP X pins D) X.xe s
theorem thn {α:Type} {t:Sem α} {Q Q':α → Shared → Prop} {M:Model} {A:Around} {E:Value → Shared → Prop} {s:Shared} (h:wpAny M A t Q E s) (hQ:∀ a s,Q a s → Q' a s):wpAny M A t Q' E s:=wpAny_mono h hQ fun _ _ x=>x
end L2
namespace L2
open PySem PySem.Spec PyProof.Rows
section
variable {X:Cx}
def Aj4 (i:Nat):TE:=fun σ H Q=>∃ v,σ[i]? = some (some v) ∧ Q v H
def tC (v:V):TE:=fun _ H Q=>Q v H
theorem Afs {i:Nat} {x:Str} {pos:Pos} (hN:X.N[i]? = some x) (hv:Vis X.env.scope x) (hd:(x == ("__debug__" : Str)) = false:=by decide) (hcd:(x == ("__classdict__" : Str)) = false:=by decide):PE X (.Name x pos) (Aj4 i):=by
  intro pins s σ H Q I h
  obtain ⟨v,e,h⟩:=h
  obtain ⟨m,hn,hl⟩:=I.loc
  obtain ⟨u,r,l⟩:=hl i x v hN e hv
  have fin:EP X pins σ Q u s:=⟨v,H,I,r,h⟩
  rcases l with ⟨hk,hm⟩ | ⟨hk,c,hc,hcell⟩
  · exact wpAny_Name (wpAny_loadName_local I.ok.kind hk hn hm fin) hd
  · rcases hk with hk | hk
    · exact wpAny_Name (wpAny_loadName_cell I.ok.kind hk hc hcell fin) hd
    · exact wpAny_Name (wpAny_loadName_free I.ok.kind hk hc hcell fin hcd) hd
theorem Ae4 {i j pos}:PE X (.Constant (.int i) j pos) (tC (.int i)):=fun _ _ _ H _ I h=>wpAny_Constant_int ⟨.int i,H,I.tok _,⟨_,rfl⟩,h⟩
theorem Ahx {b j pos}:PE X (.Constant (.bool b) j pos) (tC (.bl b)):=fun _ _ _ H _ I h=>Constant_bool ⟨.bl b,H,I,rfl,h⟩
theorem Ahl {x j pos}:PE X (.Constant (.str x) j pos) (tC (.str x)):=fun _ _ _ H _ I h=>Calls.Constant_str ⟨.str x,H,I.tok _,⟨_,rfl⟩,h⟩
def Gl (X:Cx) (x:Str):Prop:=X.env.kindOf x = some .globalImplicit
theorem Vt {E:Value → Shared → Prop} {pins:List (Addr × Obj)} {s:Shared} {σ:St} {H:Hp} {x:Str} {u:Value} {pos:Pos} {Q:Value → Shared → Prop} (I:Inv X pins σ H s) (hg:Gl X x) (hm:X.mg x = some u) (h:Q u s)
    (hd:(x == ("__debug__" : Str)) = false:=by decide):wpAny (model X.prog X.w) X.A (eval (.Name x pos) X.env) Q E s:=
  Calls.Name_function_global I.ok.kind hg (Calls.loadGlobal_global (by rw [I.ok.glob]; exact I.mod.glob.keeps I.bk) hm h) hd
theorem Hk {E:Value → Shared → Prop} {pins:List (Addr × Obj)} {s:Shared} {σ:St} {H:Hp} {x:Str} {u:Value} {pos:Pos} {Q:Value → Shared → Prop} (I:Inv X pins σ H s) (hg:Gl X x) (hm:X.mg x = none) (hv:bootBuiltins x = some u) (h:Q u s)
    (hn:x ≠ "__name__" := by decide) (hd:(x == ("__debug__" : Str)) = false:=by decide):wpAny (model X.prog X.w) X.A (eval (.Name x pos) X.env) Q E s:=by
  obtain ⟨mb,h1,h2⟩:=I.mod.blt
  exact Calls.Name_function_global I.ok.kind hg (Calls.loadGlobal_builtin (by rw [I.ok.glob]; exact I.mod.glob.keeps I.bk) hm (by rw [I.ok.blt]; exact h1.keeps I.bk) ((h2 x hn).trans hv) h) hd
theorem Acl {x:Str} {v:V} {u:Value} {pos:Pos} (hg:Gl X x) (hm:X.mg x = some u) (r:RelV v u) (hd:(x == ("__debug__" : Str)) = false:=by decide):PE X (.Name x pos) (tC v):=
  fun _ _ _ H _ I h=>Vt I hg hm ⟨v,H,I,r,h⟩ hd
variable {a b:Expr} {ta tb:TE} {pos:Pos}
variable {tA tB':TT} {rest:List Expr}
def Aj6 (t u:TT):TT:=fun σ H Q=>t σ H fun c H1=>if c = true then u σ H1 Q else Q false H1
def tOr (t u:TT):TT:=fun σ H Q=>t σ H fun c H1=>if c = true then Q true H1 else u σ H1 Q
def Aj1 (t:TT):TT:=fun σ H Q=>t σ H fun c H1=>Q (!c) H1
theorem Acc (ha:PT X a tA):PW X (.BoolOp .And [a] pos) tA:=by
  intro wh pins s σ H Q I h
  refine isTrue_and (thn (ha pins s σ H Q I h) fun c s1 e=>?_)
  cases c with
  | true=>exact isTrue_and_nil e
  | false=>exact e
theorem Ae7 (ha:PT X a tA):PW X (.BoolOp .Or [a] pos) tA:=by
  intro wh pins s σ H Q I h
  refine isTrue_or (thn (ha pins s σ H Q I h) fun c s1 e=>?_)
  cases c with
  | false=>exact isTrue_or_nil e
  | true=>exact e
theorem Agn (ha:PT X a tA) (hb:PW X (.BoolOp .And (b :: rest) pos) tB'):PW X (.BoolOp .And (a :: b :: rest) pos) (Aj6 tA tB'):=by
  intro wh pins s σ H Q I h
  refine isTrue_and (thn (ha pins s σ H _ I h) fun c s1 ⟨H1,I1,q1⟩=>?_)
  cases c with
  | true=>exact hb wh pins s1 σ H1 Q I1 q1
  | false=>exact ⟨H1,I1,q1⟩
theorem Ai1 (ha:PT X a tA) (hb:PW X (.BoolOp .Or (b :: rest) pos) tB'):PW X (.BoolOp .Or (a :: b :: rest) pos) (tOr tA tB'):=by
  intro wh pins s σ H Q I h
  refine isTrue_or (thn (ha pins s σ H _ I h) fun c s1 ⟨H1,I1,q1⟩=>?_)
  cases c with
  | true=>exact ⟨H1,I1,q1⟩
  | false=>exact hb wh pins s1 σ H1 Q I1 q1
theorem Aey (ha:PT X a tA):PT X (.UnaryOp .Not a pos) (Aj1 tA):=by
  intro pins s σ H Q I h
  exact isTrue_not (ha pins s σ H (fun c H1=>Q (!c) H1) I h)
def Aiu (ta tb:TE):TE:=fun σ H Q=>ta σ H fun x H1=>∃ c,x = .bl c ∧ if c = true then tb σ H1 Q else Q (.bl false) H1
def Ajt (ta tb:TE):TE:=fun σ H Q=>ta σ H fun x H1=>∃ c,x = .bl c ∧ if c = true then Q (.bl true) H1 else tb σ H1 Q
theorem Agt {op} {t:TE} (h:PE X a t):PE X (.BoolOp op [a] pos) t:=fun pins s σ H Q I hw=>BoolOp_one (h pins s σ H Q I hw)
theorem Afz (ha:PE X a ta) (hb:PE X (.BoolOp .And (b :: rest) pos) tb):PE X (.BoolOp .And (a :: b :: rest) pos) (Aiu ta tb):=by
  intro pins s σ H Q I h
  refine BoolOp_and (thn (ha pins s σ H _ I h) fun v s1 ⟨x,H1,I1,r1,q1⟩=>?_)
  obtain ⟨c,rfl,q1⟩:=q1
  cases r1
  refine wpAny_truthy_bool ?_
  cases c with
  | true=>exact hb pins s1 σ H1 Q I1 q1
  | false=>exact ⟨.bl false,H1,I1,rfl,q1⟩
theorem Ahz (ha:PE X a ta) (hb:PE X (.BoolOp .Or (b :: rest) pos) tb):PE X (.BoolOp .Or (a :: b :: rest) pos) (Ajt ta tb):=by
  intro pins s σ H Q I h
  refine BoolOp_or (thn (ha pins s σ H _ I h) fun v s1 ⟨x,H1,I1,r1,q1⟩=>?_)
  obtain ⟨c,rfl,q1⟩:=q1
  cases r1
  refine wpAny_truthy_bool ?_
  cases c with
  | false=>exact hb pins s1 σ H1 Q I1 q1
  | true=>exact ⟨.bl true,H1,I1,rfl,q1⟩
end
end L2
namespace L2
open PySem PySem.Spec PyProof.Rows
def SqL (K:PySem.W.Frag) (H:Hp) (a:Addr) (xs:List V):Prop:=
  Rd H a (.lst xs) ∨
    ∃ (o:Obj) (its:Array Value) (n:Nat),K.lookup a = some o ∧ o.cls = .type "list" ∧ o.dict = none ∧ o.data = .seq its n ∧ its.size ≤ sizeLine ∧ Vals xs its.toList
def SqT (K:PySem.W.Frag) (H:Hp) (a:Addr) (xs:List V):Prop:=
  Rd H a (.tup xs) ∨
    ∃ (o:Obj) (its:Array Value) (n:Nat),K.lookup a = some o ∧ o.cls = .type "tuple" ∧ o.data = .seq its n ∧ its.size ≤ sizeLine ∧ Vals xs its.toList
def Ajs:Value → Option V
  | .none=>some .non
  | .bool b=>some (.bl b)
  | .int i _=>some (.int i)
  | .str x _=>some (.str x)
  | .bytes b _=>some (.byt b)
  | .float b _=>some (.flt b)
  | .ref a=>some (.ref a)
  | .type n=>some (.ty n)
  | _=>none
theorem RelV.abs {x:V} {u:Value} (r:RelV x u):Ajs u = some x:=by
  cases x with
  | non=>cases r; rfl
  | bl _=>cases r; rfl
  | int _=>obtain ⟨t,rfl⟩:=r; rfl
  | str _=>obtain ⟨t,rfl⟩:=r; rfl
  | byt _=>obtain ⟨t,rfl⟩:=r; rfl
  | flt _=>obtain ⟨t,rfl⟩:=r; rfl
  | ref _=>cases r; rfl
  | ty _=>cases r; rfl
theorem RelV.inj {x y:V} {u:Value} (r:RelV x u) (q:RelV y u):x = y:=Option.some.inj (r.abs.symm.trans q.abs)
theorem Vals.inj:∀ {xs ys:List V} {us:List Value},Vals xs us → Vals ys us → xs = ys
  | _,_,_,.nil,.nil=>rfl
  | _,_,_,.cons r t,.cons r' t'=>by rw [r.inj r',Vals.inj t t']
section
variable {X:Cx} {pins:List (Addr × Obj)} {σ:St} {H:Hp} {s:Shared} {a:Addr} {xs ys:List V}
theorem SqL.of {K:PySem.W.Frag} (h:H a = some (.lst xs)):SqL K H a xs:=.inl (.inl h)
theorem SqT.of {K:PySem.W.Frag} (h:H a = some (.tup xs)):SqT K H a xs:=.inl (.inl h)
theorem Inv.list (I:Inv X pins σ H s) (h:SqL X.K H a xs):∃ its:List Value,Vals xs its ∧ PlainL s.heap a its.toArray ∧ xs.length ≤ sizeLine:=by
  rcases h with h | ⟨o,its,n,hk,hc,hd,hs,hz,r⟩
  · obtain ⟨z,its,n,r,e⟩:=h.ok I.hok
    exact ⟨its,r,⟨_,n,e,rfl,rfl,rfl⟩,z⟩
  · refine ⟨its.toList,r,⟨o,n,I.kIn a o hk,hc,hd,by simpa using hs⟩,?_⟩
    have e:=r.length
    simp only [Array.length_toList] at e
    omega
theorem Inv.tuple (I:Inv X pins σ H s) (h:SqT X.K H a xs):∃ its:List Value,Vals xs its ∧ IsTup s.heap a its.toArray ∧ xs.length ≤ sizeLine:=by
  rcases h with h | ⟨o,its,n,hk,hc,hs,hz,r⟩
  · obtain ⟨z,its,r,p⟩:=h.ok I.hok
    exact ⟨its,r,p,z⟩
  · refine ⟨its.toList,r,⟨o,I.kIn a o hk,hc,n,by simpa using hs⟩,?_⟩
    have e:=r.length
    simp only [Array.length_toList] at e
    omega
theorem Inv.list_inj (I:Inv X pins σ H s) (h:SqL X.K H a xs) (h':SqL X.K H a ys):xs = ys:=by
  obtain ⟨its,r,⟨o,n,e,_,_,d⟩,_⟩:=I.list h
  obtain ⟨its',r',⟨o',n',e',_,_,d'⟩,_⟩:=I.list h'
  rw [e] at e'; cases e'
  rw [d] at d'
  injection d' with d1 _
  have:its = its':=by simpa using congrArg Array.toList d1
  subst this
  exact r.inj r'
theorem Inv.tuple_inj (I:Inv X pins σ H s) (h:SqT X.K H a xs) (h':SqT X.K H a ys):xs = ys:=by
  obtain ⟨its,r,⟨o,e,_,n,d⟩,_⟩:=I.tuple h
  obtain ⟨its',r',⟨o',e',_,n',d'⟩,_⟩:=I.tuple h'
  rw [e] at e'; cases e'
  rw [d] at d'
  injection d' with d1 _
  have:its = its':=by simpa using congrArg Array.toList d1
  subst this
  exact r.inj r'
end
abbrev Cx.wish (X:Cx) (E:Value → Shared → Prop):Cx:={ X with xe:=E }
abbrev Cx.nox (X:Cx):Cx:=X.wish fun _ _=>False
theorem Cx.Ok.wish {X:Cx} (ok:X.Ok) (E:Value → Shared → Prop):(X.wish E).Ok:=
  ⟨ok.mod,ok.kind,ok.glob,ok.blt,ok.above,ok.inj,ok.has,ok.cab,ok.hd,ok.frames,ok.stk,ok.exf,ok.bs,ok.bsz,ok.noex,ok.exfs,ok.funs,ok.frf⟩
theorem Cx.Ok.unwish {X:Cx} {E:Value → Shared → Prop} (ok:(X.wish E).Ok):X.Ok:=
  ⟨ok.mod,ok.kind,ok.glob,ok.blt,ok.above,ok.inj,ok.has,ok.cab,ok.hd,ok.frames,ok.stk,ok.exf,ok.bs,ok.bsz,ok.noex,ok.exfs,ok.funs,ok.frf⟩
section
variable {X:Cx} {pins:List (Addr × Obj)} {σ:St} {H:Hp} {s:Shared} {E:Value → Shared → Prop}
theorem Inv.wish (I:Inv X pins σ H s) (E:Value → Shared → Prop):Inv (X.wish E) pins σ H s:=⟨I.ok.wish E,I.os,I.bare,I.base,I.loc,I.cell,I.free,I.freeC,I.pin,I.hok,I.len⟩
theorem Inv.unwish (I:Inv (X.wish E) pins σ H s):Inv X pins σ H s:=⟨I.ok.unwish,I.os,I.bare,I.base,I.loc,I.cell,I.free,I.freeC,I.pin,I.hok,I.len⟩
theorem SP.unwish {D:Ends} {f:Flow} {s':Shared} (h:SP (X.wish E) pins D f s'):SP X pins D f s':=by
  cases f with
  | next=>obtain ⟨σ',H',I,q⟩:=h; exact ⟨σ',H',I.unwish,q⟩
  | brk=>obtain ⟨σ',H',I,q⟩:=h; exact ⟨σ',H',I.unwish,q⟩
  | cont=>obtain ⟨σ',H',I,q⟩:=h; exact ⟨σ',H',I.unwish,q⟩
  | ret u=>obtain ⟨v,σ',H',I,r,q⟩:=h; exact ⟨v,σ',H',I.unwish,r,q⟩
theorem PE.nox {e:Expr} {t:TE} (h:PE X.nox e t):PE X e t:=fun pins s σ H Q I hw=>
  wpAny_mono (h pins s σ H Q (I.wish _) hw) (fun _ _ ⟨v,H',I',r,q⟩=>⟨v,H',I'.unwish,r,q⟩) fun _ _ z=>False.elim z
theorem PT.nox {e:Expr} {t:TT} (h:PT X.nox e t):PT X e t:=fun pins s σ H Q I hw=>
  wpAny_mono (h pins s σ H Q (I.wish _) hw) (fun _ _ ⟨H',I',q⟩=>⟨H',I'.unwish,q⟩) fun _ _ z=>False.elim z
theorem PSs.nox {st:List Stmt} {t:TS} (h:PSs X.nox st t):PSs X st t:=fun pins s σ H D I hw=>
  wpAny_mono (h pins s σ H D (I.wish _) hw) (fun _ _ q=>q.unwish) fun _ _ z=>False.elim z
end
section
variable {X:Cx} {st:Stmt} {rest:List Stmt} {t u:TS} {e:Expr} {te:TE} {pos:Pos}
def Aib:TS:=fun D σ H=>D.nx σ H
def Aj8 (t u:TS):TS:=fun D σ H=>t { D with nx:=u D } σ H
theorem Ac9:PSs X [] Aib:=fun _ _ σ H _ I h=>wpAny_execs_nil ⟨σ,H,I,h⟩
theorem Abb (h1:PS X st t) (h2:PSs X rest u):PSs X (st :: rest) (Aj8 t u):=by
  intro pins s σ H D I h
  refine wpAny_execs_cons (thn (h1 pins s σ H { D with nx:=u D } I h) fun f s1 q=>?_)
  cases f with
  | next=>
    obtain ⟨σ',H',I',q⟩:=q
    exact h2 pins s1 σ' H' D I' q
  | ret v=>exact q
  | brk=>exact q
  | cont=>exact q
theorem Ad0 (h1:PS X st t):PSs X [st] t:=by
  intro pins s σ H D I h
  refine wpAny_execs_cons (thn (h1 pins s σ H D I h) fun f s1 q=>?_)
  cases f with
  | next=>exact wpAny_execs_nil q
  | ret v=>exact q
  | brk=>exact q
  | cont=>exact q
theorem Inv.quiet {pins:List (Addr × Obj)} {σ:St} {H:Hp} {s:Shared} (I:Inv X pins σ H s):interactive X.env = false:=by simp [interactive,I.ok.kind]
def Aiv (te:TE):TS:=fun D σ H=>te σ H fun _ H1=>D.nx σ H1
theorem Adb (he:PE X e te) (hs:swapsWith e none pos.line X.env = pure false:=by rfl):PS X (.Expr e pos) (Aiv te):=by
  intro pins s σ H D I h
  exact wpAny_Expr_any (thn (he pins s σ H _ I h) fun v s1 ⟨x,H1,I1,r1,q1⟩=>⟨σ,H1,I1,q1⟩) I.quiet hs
def Ajz (te:TE):TS:=fun D σ H=>te σ H D.rt
theorem Agu (he:PE X e te):PS X (.Return (some e) pos) (Ajz te):=by
  intro pins s σ H D I h
  exact wpAny_Return_some (thn (he pins s σ H _ I h) fun v s1 ⟨x,H1,I1,r1,q1⟩=>⟨x,σ,H1,I1,r1,q1⟩)
def Aj3 (c:TT) (t u:TS):TS:=fun D σ H=>c σ H fun b H1=>if b = true then t D σ H1 else u D σ H1
theorem Aij {c:Expr} {a b:List Stmt} {tc:TT} (hc:PT X c tc) (ha:PSs X a t) (hb:PSs X b u):PS X (.If c a b pos) (Aj3 tc t u):=by
  intro pins s σ H D I h
  refine wpAny_If (thn (hc pins s σ H _ I h) fun d s1 ⟨H1,I1,q1⟩=>?_)
  cases d with
  | true=>exact ha pins s1 σ H1 D I1 q1
  | false=>exact hb pins s1 σ H1 D I1 q1
end
abbrev TG:=V → St → Hp → (St → Hp → Prop) → Prop
abbrev TGs:=List V → St → Hp → (St → Hp → Prop) → Prop
def PG (X:Cx) (target:Expr) (t:TG):Prop:=
  ∀ (pins:List (Addr × Obj)) (s:Shared) (σ:St) (H:Hp) (v:V) (u:Value) (Q:St → Hp → Prop),Inv X pins σ H s → RelV v u → t v σ H Q →
    wpAny (model X.prog X.w) X.A (assign target X.env u) (fun _ s'=>∃ σ' H',Inv X pins σ' H' s' ∧ Q σ' H') X.xe s
def PGs (X:Cx) (ts:List Expr) (t:TGs):Prop:=
  ∀ (pins:List (Addr × Obj)) (s:Shared) (σ:St) (H:Hp) (vs:List V) (us:List Value) (Q:St → Hp → Prop),Inv X pins σ H s → Vals vs us → t vs σ H Q →
    wpAny (model X.prog X.w) X.A (assignInOrder ((assignEach ts X.env).map (·.2)) us) (fun _ s'=>∃ σ' H',Inv X pins σ' H' s' ∧ Q σ' H') X.xe s
abbrev Ag8:=V → V → V → Hp → (Hp → Prop) → Prop
def Ahr (X:Cx) (t:Ag8):Prop:=
  ∀ (pins:List (Addr × Obj)) (s:Shared) (σ:St) (H:Hp) (o i v:V) (ov iv u:Value) (Q:Hp → Prop),Inv X pins σ H s → RelV o ov → RelV i iv → RelV v u → t o i v H Q →
    wpAny (model X.prog X.w) X.A (setItem ov iv u) (fun _ s'=>∃ H',Inv X pins σ H' s' ∧ Q H') X.xe s
section
variable {X:Cx} {pos:Pos}
def Na (i:Nat):TG:=fun v σ H Q=>Q (σ.set i (some v)) H
theorem Q6 {i:Nat} {x:Str} (hN:X.N.Nodup) (hi:X.N[i]? = some x) (hx:Loc X.env.scope x) (hf:X.fn x = true ∨ X.env.scope.names.lookup x = some .local:=by first | exact .inl rfl | exact .inr rfl | assumption):PG X (.Name x pos) (Na i):=by
  intro pins s σ H v u Q I r h
  exact wpAny_assign_Name (Sv I hN hi hx r (fun s' I'=>⟨_,H,I',h⟩) hf)
def gNil:TGs:=fun vs σ H Q=>vs = [] ∧ Q σ H
def gCons (t:TG) (u:TGs):TGs:=fun vs σ H Q=>∃ v r,vs = v :: r ∧ t v σ H fun σ' H'=>u r σ' H' Q
theorem Adv:PGs X [] gNil:=by
  intro pins s σ H vs us Q I r h
  obtain ⟨e,h⟩:=h
  subst e
  cases r
  exact assignInOrder_nil ⟨σ,H,I,h⟩
theorem Aax {e:Expr} {es:List Expr} {t:TG} {u:TGs} (h1:PG X e t) (h2:PGs X es u)
    (hs:(assignEach (e :: es) X.env).map (·.2) = assign e X.env :: (assignEach es X.env).map (·.2):=by rfl):PGs X (e :: es) (gCons t u):=by
  intro pins s σ H vs us Q I r h
  obtain ⟨v,vr,e1,h⟩:=h
  subst e1
  cases r with
  | cons r rr=>
    rw [hs]
    refine assignInOrder_cons (thn (h1 pins s σ H _ _ _ I r h) fun _ s1 ⟨σ1,H1,I1,q1⟩=>?_)
    exact h2 pins s1 σ1 H1 _ _ Q I1 rr q1
def gTup (K:PySem.W.Frag) (n:Nat) (t:TGs):TG:=fun v σ H Q=>∃ a xs,v = .ref a ∧ SqT K H a xs ∧ xs.length = n ∧ t xs σ H Q
theorem Agh {es:List Expr} {k:Nat} {t:TGs} {n:Nat} (hc:X.calm = true) (h:PGs X es t)
    (hn:(assignEach es X.env).length = n:=by rfl) (hst:(assignEach es X.env).findIdx? (·.1) = none:=by rfl):PG X (.Tuple es k pos) (gTup X.K n t):=by
  intro pins s σ H v u Q I r hw
  obtain ⟨a,xs,e1,hq,hl,hw⟩:=hw
  subst e1
  cases r
  obtain ⟨its,rv,ht,hz⟩:=I.tuple hq
  refine assign_Tuple_tuple (I.ok.hd hc) ht (by simp [hn,← hl,rv.length]) hst fun h' hx=>?_
  have I1:Inv X pins σ H { s with heap:=h' }:=I.kept (t':=s.toks) fun b o e=>hx b o (Nat.ne_of_lt (Heap.lt_size e)) e
  exact h pins _ σ H xs _ Q I1 (by simpa using rv) hw
def gSub (to ti:TE) (t:Ag8):TG:=fun v σ H Q=>to σ H fun o H1=>ti σ H1 fun i H2=>t o i v H2 fun H3=>Q σ H3
theorem Afh {o i:Expr} {to ti:TE} {t:Ag8} (ho:PE X o to) (hi:PE X i ti) (hs:Ahr X t)
    (ha:∀ v,assign (.Subscript o i pos) X.env v = (do
      let ov ← holding [v] (eval o X.env)
      let iv ← holding [v,ov] (eval i X.env)
      standAt pos
      holding [v,ov,iv] (setItem ov iv v)
      release [v,ov,iv] []):=by intro _; rfl):PG X (.Subscript o i pos) (gSub to ti t):=by
  intro pins s σ H v u Q I r h
  rw [ha]
  refine wpAny_bind (wpAny_holding (thn (ho pins s σ H _ I h) fun ov s1 ⟨x,H1,I1,r1,q1⟩=>?_))
  refine wpAny_bind (wpAny_holding (thn (hi pins s1 σ H1 _ I1 q1) fun iv s2 ⟨y,H2,I2,r2,q2⟩=>?_))
  refine wpAny_bind (wpAny_standAt (wpAny_bind (wpAny_holding (thn (hs pins s2 σ H2 x y v ov iv u _ I2 r1 r2 r q2) fun _ s3 ⟨H3,I3,q3⟩=>?_))))
  exact wpAny_release ⟨σ,H3,I3,q3⟩
def Yp (te:TE) (g:TG):TS:=fun D σ H=>te σ H fun x H1=>g x σ H1 D.nx
theorem Ahi {tg e:Expr} {te:TE} {g:TG} (he:PE X e te) (hg:PG X tg g) (hs:swapsWithSole [tg] e pos.line X.env = pure false:=by rfl) (hw:swappedStores [tg] e X.env = pure none:=by rfl)
    (h1:(assignEach [tg] X.env).map (·.2) = [assign tg X.env]:=by rfl):PS X (.Assign [tg] e pos) (Yp te g):=by
  intro pins s σ H D I h
  refine wpAny_Assign_stores (thn (he pins s σ H _ I h) fun v s1 ⟨x,H1,I1,r1,q1⟩=>?_) hs hw
  rw [h1]
  exact thn (hg pins s1 σ H1 x v _ I1 r1 q1) fun _ s2 q=>q
theorem Afj {i:Nat} {x:Str} {e:Expr} {te:TE} {pos':Pos} (hN:X.N.Nodup) (hi:X.N[i]? = some x) (hx:Loc X.env.scope x) (he:PE X e te) (hs:swapsWith e (some (.Name x pos')) pos.line X.env = pure false:=by rfl) (hf:X.fn x = true ∨ X.env.scope.names.lookup x = some .local:=by first | exact .inl rfl | exact .inr rfl | assumption) :
    PS X (.Assign [.Name x pos'] e pos) (Yp te (Na i)):=by
  intro pins s σ H D I h
  refine wpAny_Assign_Name (thn (he pins s σ H _ I h) fun v s1 ⟨y,H1,I1,r1,q1⟩=>?_) hs
  exact Sv I1 hN hi hx r1 (fun s2 I2=>⟨_,H1,I2,q1⟩) hf
end
section
variable {X:Cx} {pos:Pos}
def Ae3 (c:TT) (tb:TS):TS:=fun D σ H=>∃ W:Nat → St → Hp → Prop,(∃ m,W m σ H) ∧ ∀ m σ H,W m σ H →
  c σ H fun b H1=>if b = true then ∃ N:St → Hp → Prop,(∀ σ' H',N σ' H' → ∃ m',m' < m ∧ W m' σ' H') ∧ tb { D with nx:=N,ct:=N,bk:=D.nx } σ H1 else D.nx σ H1
theorem Yw {c:Expr} {body:List Stmt} {tc:TT} {tb:TS} (hp:PassesOwn (model X.prog X.w) X.A X.env X.xe) (hc:PT X c tc) (hb:PSs X body tb):PS X (.While c body [] pos) (Ae3 tc tb):=by
  intro pins s σ H D I h
  obtain ⟨W,⟨m0,w0⟩,turn⟩:=h
  refine wpAny_While (codeAny_whileLoop (fun n s'=>∃ σ' H',Inv X pins σ' H' s' ∧ W n σ' H') ?_ m0 ⟨σ,H,I,w0⟩)
  rintro n s1 ⟨σ1,H1,I1,w1⟩
  refine wpAny_passesOwn hp (thn (hc pins s1 σ1 H1 _ I1 (turn n σ1 H1 w1)) fun b s2 ⟨H2,I2,q2⟩=>?_)
  cases b with
  | true=>
    obtain ⟨N,hN,q2⟩:=q2
    rw [if_pos rfl]
    refine wpAny_passesOwn hp (thn (hb pins s2 σ1 H2 _ I2 q2) fun f s3 q3=>?_)
    cases f with
    | next=>
      obtain ⟨σ3,H3,I3,n3⟩:=q3
      obtain ⟨m',hm,w3⟩:=hN σ3 H3 n3
      exact ⟨m',hm,σ3,H3,I3,w3⟩
    | cont=>
      obtain ⟨σ3,H3,I3,n3⟩:=q3
      obtain ⟨m',hm,w3⟩:=hN σ3 H3 n3
      exact ⟨m',hm,σ3,H3,I3,w3⟩
    | brk=>exact q3
    | ret v=>exact q3
  | false=>
    rw [if_neg Bool.false_ne_true]
    exact wpAny_execs_nil ⟨σ1,H2,I2,q2⟩
end
structure It where
  go:Nat → Hp → Prop
  yld:Nat → Hp → V → Hp → Prop
  stop:Nat → Hp → Prop
def Fu (X:Cx) (pins:List (Addr × Obj)) (H:Hp) (b:Addr):Prop:=
  H b = none ∧ b ≠ X.env.locals ∧ b ∉ X.fs ∧ (b ∈ X.ex ∨ X.s₀.heap.objs.size ≤ b) ∧ (∀ x c,X.env.cells.lookup x = some c → c ≠ b) ∧ ∀ p ∈ X.pn ++ pins,p.1 ≠ b
theorem Inv.fpOk {X:Cx} {pins:List (Addr × Obj)} {σ:St} {H H':Hp} {s:Shared} {b:Addr} (I:Inv X pins σ H s) (hb:s.heap.objs.size ≤ b) (hn:H' b = none):Fu X pins H' b:=by
  refine ⟨hn,Nat.ne_of_gt (Nat.lt_of_lt_of_le I.lt hb),I.nofs hb,.inr (Nat.le_trans I.sz hb),fun x c e z=>?_,fun p hp z=>?_⟩
  · obtain ⟨v,q⟩:=I.cell x c e
    exact absurd (Nat.lt_of_lt_of_le q.lt (by rw [z]; exact hb)) (Nat.lt_irrefl _)
  · exact absurd (Nat.lt_of_lt_of_le (Heap.lt_size (I.pin p hp).1) (by rw [z]; exact hb)) (Nat.lt_irrefl _)
structure Turn (P:Program) (w:World) (K:PySem.W.Frag) (tg:Expr) (J:It) (fp:List Addr) (it:Addr) (tn:Nat → Heap → Prop):Prop where
  mem:it ∈ fp
  obj:∀ i h,tn i h → ∀ b ∈ fp,∃ o,h.get? b = some o ∧ ∀ v,o.data ≠ .cell v
  keep:∀ i h h',tn i h → (∀ b ∈ fp,∀ o,h.get? b = some o → h'.get? b = some o) → tn i h'
  item:∀ (X:Cx),X.prog = P → X.w = w → X.K = K → X.calm = true → ∀ (i:Nat) (pins:List (Addr × Obj)) (s:Shared) (σ:St) (H:Hp) (E:Value → Shared → Prop),Inv X pins σ H s → (∀ b ∈ fp,Fu X pins H b) → tn i s.heap → J.go i H →
    wpAny (model P w) X.A (pyNext (.ref it)) (fun r s1=>∃ u,r = some u ∧
      wpAny (model P w) X.A (letOwnedTupleGo tg (.ref it) u) (fun _ s2=>∃ x H',Inv X pins σ H' s2 ∧ RelV x u ∧ J.yld i H x H' ∧ tn (i + 1) s2.heap ∧ ∀ b ∈ fp,H' b = none) E s1) E s
  done:∀ (X:Cx),X.prog = P → X.w = w → X.K = K → X.calm = true → ∀ (i:Nat) (pins:List (Addr × Obj)) (s:Shared) (σ:St) (H:Hp) (E:Value → Shared → Prop),Inv X pins σ H s → (∀ b ∈ fp,Fu X pins H b) → tn i s.heap → J.stop i H →
    wpAny (model P w) X.A (pyNext (.ref it)) (fun r s1=>r = none ∧ Inv X pins σ H s1) E s
  self:∀ (A:Around) (i:Nat) (s:Shared) (Q:Value → Shared → Prop) (E:Value → Shared → Prop),tn i s.heap → Q (.ref it) s → wpAny (model P w) A (pyIter (.ref it)) Q E s
abbrev TI:=St → Hp → (It → Hp → Prop) → Prop
def PIE (X:Cx) (pins:List (Addr × Obj)) (σ:St) (tg:Expr) (R:It → Hp → Prop) (itv:Value) (s2:Shared):Prop:=
  ∃ (it:Addr) (fp:List Addr) (tn:Nat → Heap → Prop) (J:It) (H':Hp),itv = .ref it ∧ Inv X pins σ H' s2 ∧ Turn X.prog X.w X.K tg J fp it tn ∧ tn 0 s2.heap ∧ (∀ b ∈ fp,Fu X pins H' b) ∧ R J H'
def PI (X:Cx) (tg iter:Expr) (wi:TI):Prop:=
  ∀ (pins:List (Addr × Obj)) (s:Shared) (σ:St) (H:Hp) (R:It → Hp → Prop),Inv X pins σ H s → wi σ H R →
    wpAny (model X.prog X.w) X.A (eval iter X.env) (fun v s1=>wpAny (model X.prog X.w) X.A (pyIter v) (PIE X pins σ tg R) X.xe s1) X.xe s
theorem Aa4 {M:Model} {A:Around} {E:Value → Shared → Prop} {s:Shared} {tg:Expr} {it:Addr} {u:Value} {o:Obj} {n:String} {vs:Array Value} {Q:Unit → Shared → Prop} (ho:s.heap.get? it = some o) (hc:o.cls = .type n) (hd:o.data = .fields vs)
    (hn:["enumerate","zip","dict_itemiterator","dict_reverseitemiterator","odict_iterator","itertools.zip_longest","itertools.pairwise"].contains n = false) (hQ:Q () s):wpAny M A (letOwnedTupleGo tg (.ref it) u) Q E s:=by
  unfold letOwnedTupleGo
  cases tg <;> first
    | exact wpAny_pure hQ
    | (cases u <;> first
        | exact wpAny_pure hQ
        | (refine wpAny_bind (wpAny_load ho ?_)
           rw [hc,hd]
           show wpAny M A (if (["enumerate","zip","dict_itemiterator","dict_reverseitemiterator","odict_iterator","itertools.zip_longest","itertools.pairwise"].contains n && vs[0]? == some (rawInt _)) = true then _ else _) Q E s
           rw [if_neg (by intro h; rw [hn,Bool.false_and] at h; cases h)]
           exact wpAny_pure hQ))
def Itl (K:PySem.W.Frag) (a:Addr):It:=
  ⟨fun i H=>∃ xs x,SqL K H a xs ∧ xs[i]? = some x,fun i H x H'=>H' = H ∧ ∀ xs,SqL K H a xs → xs[i]? = some x,fun i H=>∃ xs,SqL K H a xs ∧ xs.length ≤ i⟩
def Itt (K:PySem.W.Frag) (a:Addr):It:=
  ⟨fun i H=>∃ xs x,SqT K H a xs ∧ xs[i]? = some x,fun i H x H'=>H' = H ∧ ∀ xs,SqT K H a xs → xs[i]? = some x,fun i H=>∃ xs,SqT K H a xs ∧ xs.length ≤ i⟩
def Itr (lo:Int) (n:Nat):It:=⟨fun i _=>i < n,fun i H x H'=>H' = H ∧ x = .int (lo + i),fun i _=>n ≤ i⟩
theorem Xz {P:Program} {w:World} {K:PySem.W.Frag} {tg:Expr} (a it:Addr):Turn P w K tg (Itl K a) [it] it (fun i h=>h.IsListIter it a i) where
  mem:=by simp
  obj:=fun i h st b hb=>by
    have e:b = it:=by simpa using hb
    subst e
    obtain ⟨o,e,c,d⟩:=st
    exact ⟨o,e,fun v z=>by rw [d] at z; cases z⟩
  keep:=fun i h h' st k=>st.at fun o e=>k it (by simp) o e
  item:=by
    intro X hP hw hK hc i pins s σ H E I hf st hg
    subst hP hw hK
    obtain ⟨xs,x,hq,hx⟩:=hg
    obtain ⟨its,rv,p,hz⟩:=I.list hq
    obtain ⟨u,hu,ru⟩:=rv.get hx
    obtain ⟨f0,f1,f2,f3,f4,f5⟩:=hf it (by simp)
    refine wpAny_pyNext_list_item st p.isList (x:=u) (by simpa using hu) fun h' st' sb=>?_
    have I1:Inv X pins σ H { s with heap:=h' }:=I.turned (t':=s.toks) (fun b o hb e=>(sb.2 b hb).trans e) f0 f1 f3 f4 f5
    obtain ⟨o,e,c,d⟩:=id st'
    exact ⟨u,rfl,Aa4 (s:={ s with heap:=h' }) e c d (by decide) ⟨x,H,I1,ru,⟨rfl,fun ys hy=>by rw [I.list_inj hy hq]; exact hx⟩,st',fun b hb=>(hf b hb).1⟩⟩
  done:=by
    intro X hP hw hK hc i pins s σ H E I hf st hg
    subst hP hw hK
    obtain ⟨xs,hq,hx⟩:=hg
    obtain ⟨its,rv,p,hz⟩:=I.list hq
    obtain ⟨f0,f1,f2,f3,f4,f5⟩:=hf it (by simp)
    have hl:=rv.length
    exact wpAny_pyNext_list_end (I.ok.hd hc) st p.isList (by simp; omega) fun h' eb=>⟨rfl,I.turned (t':=s.toks) (fun b o hb e=>eb b o hb e) f0 f1 f3 f4 f5⟩
  self:=fun _ _ _ _ _ st h=>wpAny_pyIter_listiter st h
theorem Tn {P:Program} {w:World} {K:PySem.W.Frag} {tg:Expr} (a it:Addr):Turn P w K tg (Itt K a) [it] it (fun i h=>h.IsTupleIter it a i) where
  mem:=by simp
  obj:=fun i h st b hb=>by
    have e:b = it:=by simpa using hb
    subst e
    obtain ⟨o,e,c,d⟩:=st
    exact ⟨o,e,fun v z=>by rw [d] at z; cases z⟩
  keep:=fun i h h' st k=>st.at fun o e=>k it (by simp) o e
  item:=by
    intro X hP hw hK hc i pins s σ H E I hf st hg
    subst hP hw hK
    obtain ⟨xs,x,hq,hx⟩:=hg
    obtain ⟨its,rv,p,hz⟩:=I.tuple hq
    obtain ⟨u,hu,ru⟩:=rv.get hx
    obtain ⟨f0,f1,f2,f3,f4,f5⟩:=hf it (by simp)
    refine wpAny_pyNext_tuple_item st (show s.heap.IsTuple a its.toArray from p) (x:=u) (by simpa using hu) fun h' st' sb=>?_
    have I1:Inv X pins σ H { s with heap:=h' }:=I.turned (t':=s.toks) (fun b o hb e=>(sb.2 b hb).trans e) f0 f1 f3 f4 f5
    obtain ⟨o,e,c,d⟩:=id st'
    exact ⟨u,rfl,Aa4 (s:={ s with heap:=h' }) e c d (by decide) ⟨x,H,I1,ru,⟨rfl,fun ys hy=>by rw [I.tuple_inj hy hq]; exact hx⟩,st',fun b hb=>(hf b hb).1⟩⟩
  done:=by
    intro X hP hw hK hc i pins s σ H E I hf st hg
    subst hP hw hK
    obtain ⟨xs,hq,hx⟩:=hg
    obtain ⟨its,rv,p,hz⟩:=I.tuple hq
    obtain ⟨f0,f1,f2,f3,f4,f5⟩:=hf it (by simp)
    have hl:=rv.length
    exact wpAny_pyNext_tuple_end (I.ok.hd hc) st (show s.heap.IsTuple a its.toArray from p) (by simp; omega) fun h' eb=>⟨rfl,I.turned (t':=s.toks) (fun b o hb e=>eb b o hb e) f0 f1 f3 f4 f5⟩
  self:=fun _ _ _ _ _ st h=>wpAny_pyIter_tupleiter st h
theorem Uh {P:Program} {w:World} {K:PySem.W.Frag} {tg:Expr} (it:Addr) (lo:Int) (n:Nat):Turn P w K tg (Itr lo n) [it] it (fun i h=>IsRangeIter h it (lo + (i:Nat) * 1) ((n:Int) - (i:Nat)) 1) where
  mem:=by simp
  obj:=fun i h st b hb=>by
    have e:b = it:=by simpa using hb
    subst e
    exact ⟨_,st,fun v z=>by
      have z':Data.fields _ = Data.cell v:=z
      cases z'⟩
  keep:=fun i h h' st k=>k it (by simp) _ st
  item:=by
    intro X hP hw hK hc i pins s σ H E I hf st hg
    subst hP hw hK
    obtain ⟨f0,f1,f2,f3,f4,f5⟩:=hf it (by simp)
    have W:=Walks.range (prog:=X.prog) (w:=X.w) (I.ok.hd hc) it lo 1 n
    refine W.item i s _ _ hg st fun v h' tk hv st' kk=>?_
    obtain ⟨t,rfl⟩:=hv
    have I1:Inv X pins σ H { s with heap:=h',toks:=tk }:=I.turned (fun b o hb e=>kk b o (by simpa using hb) e) f0 f1 f3 f4 f5
    refine ⟨_,rfl,Aa4 (s:={ s with heap:=h',toks:=tk }) (n := "range_iterator") st' rfl rfl (by decide) ⟨.int (lo + i),H,I1,⟨t,?_⟩,⟨rfl,rfl⟩,st',fun b hb=>(hf b hb).1⟩⟩
    rw [Int.mul_one]
  done:=by
    intro X hP hw hK hc i pins s σ H E I hf st hg
    subst hP hw hK
    obtain ⟨f0,f1,f2,f3,f4,f5⟩:=hf it (by simp)
    exact wpAny_pyNext_range_end (I.ok.hd hc) st (by have:n ≤ i:=hg; omega) fun h' eb=>⟨rfl,I.turned (t':=s.toks) (fun b o hb e=>eb b o hb e) f0 f1 f3 f4 f5⟩
  self:=fun _ _ _ _ _ st h=>wpAny_pyIter_rangeiter st h
end L2
namespace L2
open PySem PySem.Spec PyProof.Rows
section
variable {X:Cx} {tg:Expr}
def Aio (K:PySem.W.Frag) (tl:TE):TI:=fun σ H R=>tl σ H fun x H1=>∃ a,x = .ref a ∧ (∃ xs,SqL K H1 a xs) ∧ R (Itl K a) H1
def Ajy (K:PySem.W.Frag) (tl:TE):TI:=fun σ H R=>tl σ H fun x H1=>∃ a,x = .ref a ∧ (∃ xs,SqT K H1 a xs) ∧ R (Itt K a) H1
theorem Adq {l:Expr} {tl:TE} (hl:PE X l tl):PI X tg l (Aio X.K tl):=by
  intro pins s σ H R I h
  refine thn (hl pins s σ H _ I h) fun v s1 ⟨x,H1,I1,r1,q1⟩=>?_
  obtain ⟨a,e,⟨xs,hq⟩,q⟩:=q1
  subst e
  cases r1
  obtain ⟨its,rv,p,hz⟩:=I1.list hq
  refine wpAny_pyIter_list p.isList ?_
  refine ⟨s1.heap.objs.size,[s1.heap.objs.size],_,_,H1,rfl,I1.kept (t':=s1.toks) fun b o e=>Heap.get?_push_of_some _ e,Xz a _,⟨_,Heap.get?_push_size _ rfl,rfl,rfl⟩,fun b hb=>?_,q⟩
  have e:b = s1.heap.objs.size:=by simpa using hb
  subst e
  exact I1.fpOk (Nat.le_refl _) (I1.hok.fresh (Nat.le_refl _))
theorem Aff {l:Expr} {tl:TE} (hl:PE X l tl):PI X tg l (Ajy X.K tl):=by
  intro pins s σ H R I h
  refine thn (hl pins s σ H _ I h) fun v s1 ⟨x,H1,I1,r1,q1⟩=>?_
  obtain ⟨a,e,⟨xs,hq⟩,q⟩:=q1
  subst e
  cases r1
  obtain ⟨its,rv,p,hz⟩:=I1.tuple hq
  refine wpAny_pyIter_tuple (show s1.heap.IsTuple a its.toArray from p) ?_
  refine ⟨s1.heap.objs.size,[s1.heap.objs.size],_,_,H1,rfl,I1.kept (t':=s1.toks) fun b o e=>Heap.get?_push_of_some _ e,Tn a _,⟨_,Heap.get?_push_size _ rfl,rfl,rfl⟩,fun b hb=>?_,q⟩
  have e:b = s1.heap.objs.size:=by simpa using hb
  subst e
  exact I1.fpOk (Nat.le_refl _) (I1.hok.fresh (Nat.le_refl _))
theorem Ya {pins:List (Addr × Obj)} {σ:St} {H:Hp} {s:Shared} {R:It → Hp → Prop} {E:Value → Shared → Prop} {lo hi:Int} {t u v:Tok} {tk:Nat} (I:Inv X pins σ H s) (h1:-(2 ^ 62) ≤ lo) (h2:lo < 2 ^ 62) (h3:-(2 ^ 62) ≤ hi) (h4:hi < 2 ^ 62)
    (q:R (Itr lo (hi - lo).toNat) H):wpAny (model X.prog X.w) X.A (pyIter (.ref s.heap.objs.size)) (PIE X pins σ tg R) E { s with heap:=s.heap.push { cls:=.type "range",data:=.fields #[.int lo t,.int hi u,.int 1 v] },toks:=tk }:=by
  refine wpAny_pyIter_range (IsRange.new ..) (small_one h1 h2 h3 h4) ?_
  have I1:Inv X pins σ H { s with heap:=s.heap.push { cls:=.type "range",data:=.fields #[.int lo t,.int hi u,.int 1 v] },toks:=tk }:=I.kept fun b o e=>Heap.get?_push_of_some _ e
  refine ⟨(s.heap.push { cls:=.type "range",data:=.fields #[.int lo t,.int hi u,.int 1 v] }).objs.size,[(s.heap.push { cls:=.type "range",data:=.fields #[.int lo t,.int hi u,.int 1 v] }).objs.size],_,_,H,rfl,
    I1.kept (t':=tk) fun b o e=>Heap.get?_push_of_some _ e,Uh _ lo (hi - lo).toNat,?_,fun b hb=>?_,q⟩
  · have e1:lo + ((0:Nat):Int) * 1 = lo:=by simp
    have e2:(((hi - lo).toNat:Nat):Int) - ((0:Nat):Int) = Builtin.Range.rangeSize lo hi 1:=by rw [rangeSize_one]; split <;> omega
    show IsRangeIter _ _ (lo + ((0:Nat):Int) * 1) ((((hi - lo).toNat:Nat):Int) - ((0:Nat):Int)) 1
    rw [e1,e2]
    exact Heap.get?_push_size _ rfl
  · have e:b = (s.heap.push { cls:=.type "range",data:=.fields #[.int lo t,.int hi u,.int 1 v] }).objs.size:=by simpa using hb
    subst e
    exact I1.fpOk (Nat.le_refl _) (I1.hok.fresh (Nat.le_refl _))
def Ah9 (ta:TA):TI:=fun σ H R=>ta σ H fun vs H1=>∃ j:Int,vs = [.int j] ∧ -(2 ^ 62) ≤ j ∧ j < 2 ^ 62 ∧ R (Itr 0 j.toNat) H1
theorem Wp {a:Expr} {ta:TA} {p pos:Pos} (hg:Gl X "range") (hm:X.mg "range" = none) (ha:PA X [a] ta) (hs:starEach [a] X.env = [(false,eval a X.env)]:=by rfl):PI X tg (.Call (.Name "range" p) [a] [] pos) (Ah9 ta):=by
  intro pins s σ H R I h
  refine Call_ (Hk I hg hm boot_range (PyProof.Rows.callWith_type1 (thn (ha pos pins s σ H _ I h) fun us s1 ⟨vs,H1,I1,r1,q1⟩=>?_) hs rfl))
  obtain ⟨j,e,q1,q2,q⟩:=q1
  subst e
  cases r1 with
  | cons r rr=>
    cases rr
    obtain ⟨t,rfl⟩:=r
    exact call_range_1 (Ya I1 (by omega) (by omega) q1 q2 (by simpa using q))
def Akb (wi:TI) (g:TG) (tb:TS):TS:=fun D σ H=>wi σ H fun J H1=>∃ W:Nat → Nat → St → Hp → Prop,(∃ m,W 0 m σ H1) ∧ ∀ i m σ H,W i m σ H →
  (J.stop i H ∧ D.nx σ H) ∨ (J.go i H ∧ ∃ N:St → Hp → Prop,(∀ σ' H',N σ' H' → ∃ m',m' < m ∧ W (i + 1) m' σ' H') ∧ ∀ x H',J.yld i H x H' → g x σ H' fun σ2 H2=>tb { D with nx:=N,ct:=N,bk:=D.nx } σ2 H2)
def Nd (fp:List Addr) (h:Heap):List (Addr × Obj):=fp.filterMap fun b=>(h.get? b).map fun o=>(b,o)
theorem Hu {fp:List Addr} {h:Heap} {b:Addr} {o:Obj} (hb:b ∈ fp) (e:h.get? b = some o):(b,o) ∈ Nd fp h:=List.mem_filterMap.mpr ⟨b,hb,by rw [e]; rfl⟩
theorem W3 {fp:List Addr} {h:Heap} {p:Addr × Obj} (hp:p ∈ Nd fp h):p.1 ∈ fp ∧ h.get? p.1 = some p.2:=by
  obtain ⟨b,hb,e⟩:=List.mem_filterMap.mp hp
  cases q:h.get? b with
  | none=>rw [q] at e; cases e
  | some o=>
    rw [q] at e
    have e':(b,o) = p:=Option.some.inj e
    subst e'
    exact ⟨hb,q⟩
theorem Inv.pinned {pins:List (Addr × Obj)} {σ:St} {H:Hp} {s:Shared} {fp:List Addr} (I:Inv X pins σ H s) (hf:∀ b ∈ fp,Fu X pins H b) (ho:∀ b ∈ fp,∃ o,s.heap.get? b = some o ∧ ∀ v,o.data ≠ .cell v):Inv X (pins ++ Nd fp s.heap) σ H s:=
  I.pins_of fun p hp=>(List.mem_append.mp hp).elim (fun z=>I.pin p (List.mem_append_right _ z)) fun z=>by
    obtain ⟨hb,e⟩:=W3 z
    obtain ⟨f0,f1,f2,_⟩:=hf p.1 hb
    obtain ⟨o,e',d⟩:=ho p.1 hb
    rw [e] at e'; cases e'
    exact ⟨e,f0,f1,f2,d⟩
theorem Inv.unpinned {pins pl:List (Addr × Obj)} {σ:St} {H:Hp} {s:Shared} (I:Inv X (pins ++ pl) σ H s):Inv X pins σ H s:=I.pins_of fun p hp=>I.pin p (List.mem_append_right _ (List.mem_append_left _ hp))
theorem Ae0 {iter:Expr} {body:List Stmt} {wi:TI} {g:TG} {tb:TS} {pos:Pos} (hp:PassesOwn (model X.prog X.w) X.A X.env X.xe) (hc:X.calm = true) (hi:PI X tg iter wi) (hg:PG X tg g) (hb:PSs X body tb)
    (hs:∀ x,foldedSetIterable iter X.env x = pure x:=by intro _; rfl):PS X (.For tg iter body [] pos) (Akb wi g tb):=by
  intro pins s σ H D I h
  refine wpAny_For (thn (hi pins s σ H _ I h) fun v s1 h1=>thn h1 fun itv s2 h2=>?_) hs
  obtain ⟨it,fp,tn,J,H2,e,I2,T,st2,f2,W,⟨m0,w0⟩,turn⟩:=h2
  subst e
  have stat:∀ {H':Hp},(∀ b ∈ fp,H' b = none) → ∀ b ∈ fp,Fu X pins H' b:=fun hn b hb=>⟨hn b hb,(f2 b hb).2⟩
  refine codeAny_forLoop_any (fun n s'=>∃ i σ' H',Inv X pins σ' H' s' ∧ tn i s'.heap ∧ (∀ b ∈ fp,H' b = none) ∧ W i n σ' H') ?_ m0 ⟨0,σ,H2,I2,st2,fun b hb=>(f2 b hb).1,w0⟩
  rintro n s3 ⟨i,σ3,H3,I3,st3,fr3,w3⟩
  rcases turn i n σ3 H3 w3 with ⟨stop,qn⟩ | ⟨go,N,hN,step⟩
  · refine wpAny_passesOwn hp (thn (T.done X rfl rfl rfl hc i pins s3 σ3 H3 X.xe I3 (stat fr3) st3 stop) fun r s4 ⟨hr,I4⟩=>?_)
    subst hr
    exact wpAny_execs_nil ⟨σ3,H3,I4,qn⟩
  · refine wpAny_passesOwn hp (thn (T.item X rfl rfl rfl hc i pins s3 σ3 H3 X.xe I3 (stat fr3) st3 go) fun r s4 ⟨u,hr,h4⟩=>?_)
    subst hr
    refine wpAny_passesOwn hp (thn h4 fun _ s5 ⟨x,H5,I5,r5,y5,st5,fr5⟩=>?_)
    have I5':=I5.pinned (stat fr5) (T.obj _ _ st5)
    refine wpAny_passesOwn hp (thn (hg _ s5 σ3 H5 x u _ I5' r5 (step x H5 y5)) fun _ s6 ⟨σ6,H6,I6,q6⟩=>?_)
    refine wpAny_passesOwn hp (thn (hb _ s6 σ6 H6 _ I6 q6) fun f s7 q7=>?_)
    have again:∀ {σ7:St} {H7:Hp},Inv X (pins ++ Nd fp s5.heap) σ7 H7 s7 → N σ7 H7 → ∃ m,m < n ∧ ∃ i σ' H',Inv X pins σ' H' s7 ∧ tn i s7.heap ∧ (∀ b ∈ fp,H' b = none) ∧ W i m σ' H':=fun {σ7 H7} I7 n7=>by
      obtain ⟨m',hm,w7⟩:=hN σ7 H7 n7
      refine ⟨m',hm,i + 1,σ7,H7,I7.unpinned,T.keep _ _ _ st5 fun b hb o e=>(I7.pin (b,o) (List.mem_append_right _ (List.mem_append_right _ (Hu hb e)))).1,fun b hb=>?_,w7⟩
      obtain ⟨o,e,d⟩:=T.obj _ _ st5 b hb
      exact (I7.pin (b,o) (List.mem_append_right _ (List.mem_append_right _ (Hu hb e)))).2.1
    cases f with
    | next=>obtain ⟨σ7,H7,I7,n7⟩:=q7; exact again I7 n7
    | cont=>obtain ⟨σ7,H7,I7,n7⟩:=q7; exact again I7 n7
    | brk=>obtain ⟨σ7,H7,I7,q7⟩:=q7; exact ⟨σ7,H7,I7.unpinned,q7⟩
    | ret v=>obtain ⟨x7,σ7,H7,I7,r7,q7⟩:=q7; exact ⟨x7,σ7,H7,I7.unpinned,r7,q7⟩
end
end L2
namespace L2
open PySem PySem.Spec PyProof.Rows
abbrev R2:=V → V → Hp → VK → Prop
def OpR (X:Cx) (f:Value → Value → Sem Value) (r:R2):Prop:=
  ∀ (pins:List (Addr × Obj)) (s:Shared) (σ:St) (H:Hp) (x y:V) (v u:Value) (Q:VK),Inv X pins σ H s → RelV x v → RelV y u → r x y H Q →
    wpAny (model X.prog X.w) X.A (f v u) (EP X pins σ Q) X.xe s
def UnR (X:Cx) (f:Value → Sem Value) (r:V → Hp → VK → Prop):Prop:=
  ∀ (pins:List (Addr × Obj)) (s:Shared) (σ:St) (H:Hp) (x:V) (v:Value) (Q:VK),Inv X pins σ H s → RelV x v → r x H Q →
    wpAny (model X.prog X.w) X.A (f v) (EP X pins σ Q) X.xe s
def CallR (X:Cx) (f:Value) (r:List V → Hp → VK → Prop):Prop:=
  ∀ (pins:List (Addr × Obj)) (s:Shared) (σ:St) (H:Hp) (xs:List V) (us:List Value) (Q:VK),Inv X pins σ H s → Vals xs us → r xs H Q →
    wpAny (model X.prog X.w) X.A (call f us) (EP X pins σ Q) X.xe s
def Aj5 (X:Cx) (r:V → Hp → (Bool → Hp → Prop) → Prop):Prop:=
  ∀ (pins:List (Addr × Obj)) (s:Shared) (σ:St) (H:Hp) (x:V) (v:Value) (Q:Bool → Hp → Prop),Inv X pins σ H s → RelV x v → r x H Q →
    wpAny (model X.prog X.w) X.A (truthy v) (TP X pins σ Q) X.xe s
def tOp (r:R2) (ta tb:TE):TE:=fun σ H Q=>ta σ H fun x H1=>tb σ H1 fun y H2=>r x y H2 Q
def tUn (r:V → Hp → VK → Prop) (ta:TE):TE:=fun σ H Q=>ta σ H fun x H1=>r x H1 Q
def rI (C:Int → Int → Prop) (g:Int → Int → V):R2:=fun x y H Q=>∃ i j,x = .int i ∧ y = .int j ∧ C i j ∧ Q (g i j) H
def rI0 (g:Int → Int → V):R2:=fun x y H Q=>∃ i j,x = .int i ∧ y = .int j ∧ Q (g i j) H
def rU (g:Int → V):V → Hp → VK → Prop:=fun x H Q=>∃ i,x = .int i ∧ Q (g i) H
section
variable {X:Cx} {a b c:Expr} {ta tb tc:TE} {pos:Pos}
theorem Ahf (ha:PE X a ta) (hb:PE X b tb) {pins:List (Addr × Obj)} {s:Shared} {σ:St} {H:Hp} {R:V → V → Hp → Prop} (I:Inv X pins σ H s)
    (h:ta σ H fun x H1=>tb σ H1 fun y H2=>R x y H2) {Q:Value → Shared → Prop} {f:Value → Value → Sem Value}
    (hf:∀ v u s2 x y H2,Inv X pins σ H2 s2 → RelV x v → RelV y u → R x y H2 → wpAny (model X.prog X.w) X.A (f v u) Q X.xe s2) :
    wpAny (model X.prog X.w) X.A (eval a X.env) (fun v s₁=>wpAny (model X.prog X.w) X.A (eval b X.env) (fun u s₂=>wpAny (model X.prog X.w) X.A (f v u) Q X.xe s₂) X.xe s₁) X.xe s:=by
  refine thn (ha pins s σ H _ I h) fun v s1 ⟨x,H1,I1,r1,q1⟩=>?_
  refine thn (hb pins s1 σ H1 _ I1 q1) fun u s2 ⟨y,H2,I2,r2,q2⟩=>?_
  exact hf v u s2 x y H2 I2 r1 r2 q2
theorem Aiy {op:Operator} {r:R2} (ho:OpR X (binaryOp op) r) (ha:PE X a ta) (hb:PE X b tb):PE X (.BinOp a op b pos) (tOp r ta tb):=by
  intro pins s σ H Q I h
  exact wpAny_BinOp (Ahf ha hb I h fun v u s2 x y H2 I2 rx ry q=>ho pins s2 σ H2 x y v u Q I2 rx ry q)
theorem Aiz {op:UnaryOp} {r:V → Hp → VK → Prop} (ho:UnR X (unaryOp op) r) (ha:PE X a ta):PE X (.UnaryOp op a pos) (tUn r ta):=by
  intro pins s σ H Q I h
  exact UnaryOp_ (thn (ha pins s σ H _ I h) fun v s1 ⟨x,H1,I1,r1,q1⟩=>ho pins s1 σ H1 x v Q I1 r1 q1)
theorem opI {f:Value → Value → Sem Value} {C:Int → Int → Prop} {g:Int → Int → Int}
    (rule:∀ (i j:Int) (t u:Tok) (s:Shared) (Q:Value → Shared → Prop) (E:Value → Shared → Prop),C i j → Q (.int (g i j) s.toks) { s with toks:=s.toks + 1 } → wpAny (model X.prog X.w) X.A (f (.int i t) (.int j u)) Q E s) :
    OpR X f (rI C fun i j=>.int (g i j)):=by
  intro pins s σ H x y v u Q I rx ry h
  obtain ⟨i,j,rfl,rfl,hc,q⟩:=h
  obtain ⟨t,rfl⟩:=rx
  obtain ⟨t',rfl⟩:=ry
  exact rule i j t t' s _ _ hc ⟨.int (g i j),H,I.tok _,⟨_,rfl⟩,q⟩
theorem Air {f:Value → Value → Sem Value} {g:Int → Int → Int}
    (rule:∀ (i j:Int) (t u:Tok) (s:Shared) (Q:Value → Shared → Prop) (E:Value → Shared → Prop),Q (.int (g i j) s.toks) { s with toks:=s.toks + 1 } → wpAny (model X.prog X.w) X.A (f (.int i t) (.int j u)) Q E s) :
    OpR X f (rI0 fun i j=>.int (g i j)):=by
  intro pins s σ H x y v u Q I rx ry h
  obtain ⟨i,j,rfl,rfl,q⟩:=h
  obtain ⟨t,rfl⟩:=rx
  obtain ⟨t',rfl⟩:=ry
  exact rule i j t t' s _ _ ⟨.int (g i j),H,I.tok _,⟨_,rfl⟩,q⟩
theorem Adn {f:Value → Value → Sem Value} {g:Int → Int → Bool}
    (rule:∀ (i j:Int) (t u:Tok) (s:Shared) (Q:Value → Shared → Prop) (E:Value → Shared → Prop),Q (.bool (g i j)) s → wpAny (model X.prog X.w) X.A (f (.int i t) (.int j u)) Q E s) :
    OpR X f (rI0 fun i j=>.bl (g i j)):=by
  intro pins s σ H x y v u Q I rx ry h
  obtain ⟨i,j,rfl,rfl,q⟩:=h
  obtain ⟨t,rfl⟩:=rx
  obtain ⟨t',rfl⟩:=ry
  exact rule i j t t' s _ _ ⟨.bl (g i j),H,I,rfl,q⟩
def Ai0 (i j:Int):Prop:=0 ≤ j ∧ j ≤ 1000000 ∧ i.natAbs < 2 ^ 64
def CMul (i j:Int):Prop:=(-(2 ^ 64) < i ∧ i < 2 ^ 64) ∨ (-(2 ^ 64) < j ∧ j < 2 ^ 64)
theorem CMul.ok {i j:Int} (h:CMul i j):IntMulOk i j:=by
  rcases h with ⟨h1,h2⟩ | ⟨h1,h2⟩
  · exact .of_left (intBits_le_64 h1 h2)
  · exact .of_right (intBits_le_64 h1 h2)
theorem Afy:OpR X (binaryOp .Add) (rI0 fun i j=>.int (i + j)):=Air fun _ _ _ _ _ _ _ q=>add_int q
theorem Lg:OpR X (binaryOp .Sub) (rI0 fun i j=>.int (i - j)):=Air fun _ _ _ _ _ _ _ q=>sub_int q
theorem Af5:OpR X (binaryOp .Mult) (rI CMul fun i j=>.int (i * j)):=opI fun _ _ _ _ _ _ _ hc q=>mul_int q hc.ok
theorem Io:OpR X (binaryOp .Mod) (rI (fun _ j=>0 < j) fun i j=>.int (i % j)):=opI fun i j _ _ _ _ _ hc q=>by
  have h1:(0:Int) < j:=hc
  exact mod_int' (by omega) (by rw [Int.fmod_eq_emod_of_nonneg i (by omega)]; exact q)
theorem Nk:OpR X (binaryOp .Pow) (rI Ai0 fun i j=>.int (i ^ j.toNat)):=opI fun _ _ _ _ _ _ _ hc q=>pow_int_small hc.1 hc.2.1 hc.2.2 q
theorem unI {f:Value → Sem Value} {g:Int → Int}
    (rule:∀ (i:Int) (t:Tok) (s:Shared) (Q:Value → Shared → Prop) (E:Value → Shared → Prop),Q (.int (g i) s.toks) { s with toks:=s.toks + 1 } → wpAny (model X.prog X.w) X.A (f (.int i t)) Q E s) :
    UnR X f (rU fun i=>.int (g i)):=by
  intro pins s σ H x v Q I rx h
  obtain ⟨i,rfl,q⟩:=h
  obtain ⟨t,rfl⟩:=rx
  exact rule i t s _ _ ⟨.int (g i),H,I.tok _,⟨_,rfl⟩,q⟩
theorem Ag5:UnR X (unaryOp .USub) (rU fun i=>.int (-i)):=unI fun _ _ _ _ _ q=>neg_int q
end
section
variable {X:Cx} {a b c:Expr} {ta tb tc:TE} {pos:Pos}
theorem Ag2 {pins:List (Addr × Obj)} {σ:St} {H:Hp} {s:Shared} {Q:VK} {k k':Bool} (I:Inv X pins σ H s) (q:Q (.bl k) H) (e:k = k'):EP X pins σ Q (.bool k') s:=by
  subst e
  exact ⟨.bl k,H,I,rfl,q⟩
theorem Aiw:OpR X (compareOp .Lt) (rI0 fun i j=>.bl (decide (i < j))):=Adn fun _ _ _ _ _ _ _ q=>lt_int q
theorem Ai3:OpR X (compareOp .LtE) (rI0 fun i j=>.bl (decide (i ≤ j))):=Adn fun _ _ _ _ _ _ _ q=>le_int q
theorem Aag:OpR X (compareOp .Gt) (rI0 fun i j=>.bl (decide (j < i))):=Adn fun _ _ _ _ _ _ _ q=>gt_int q
theorem Aem:OpR X (compareOp .GtE) (rI0 fun i j=>.bl (decide (j ≤ i))):=Adn fun _ _ _ _ _ _ _ q=>ge_int q
theorem W0:OpR X (compareOp .In) (fun x y H Q=>∃ i j,x = .str i ∧ y = .str j ∧ Q (.bl (!(Builtin.Str.occurrences j i 0 j.length 1).isEmpty)) H):=by
  intro pins s σ H x y v u Q I rx ry h
  obtain ⟨i,j,rfl,rfl,q⟩:=h
  obtain ⟨t,rfl⟩:=rx
  obtain ⟨t',rfl⟩:=ry
  exact in_str (Ag2 I q rfl)
theorem OpR.or {f:Value → Value → Sem Value} {r r':R2} (h:OpR X f r) (h':OpR X f r'):OpR X f (fun x y H Q=>r x y H Q ∨ r' x y H Q):=by
  intro pins s σ H x y v u Q I rx ry q
  rcases q with q | q
  · exact h pins s σ H x y v u Q I rx ry q
  · exact h' pins s σ H x y v u Q I rx ry q
theorem Bn (b:Expr) {op:CmpOp} (h:op ≠ .In:=by decide) (h2:op ≠ .NotIn:=by decide):behindInMarks op b = false:=by
  have e1:(op == CmpOp.In) = false:=by cases op <;> first | rfl | exact absurd rfl h
  have e2:(op == CmpOp.NotIn) = false:=by cases op <;> first | rfl | exact absurd rfl h2
  cases b <;> simp [behindInMarks,e1,e2]
theorem Ab0 {op:CmpOp} {r:R2} (ho:OpR X (compareOp op) r) (ha:PE X a ta) (hb:PE X b tb) (hm:behindInMarks op b = false):PE X (.Compare a [op] [b] pos) (tOp r ta tb):=by
  intro pins s σ H Q I h
  exact wpAny_Compare1 (Ahf ha hb I h fun v u s2 x y H2 I2 rx ry q=>ho pins s2 σ H2 x y v u Q I2 rx ry q) hm
def Aej (t:TE):TT:=fun σ H Q=>t σ H fun x H'=>∃ k,x = .bl k ∧ Q k H'
theorem Ab8 {op:CmpOp} {r:R2} (ho:OpR X (compareOp op) r) (ha:PE X a ta) (hb:PE X b tb) (hm:behindInMarks op b = false):PT X (.Compare a [op] [b] pos) (Aej (tOp r ta tb)):=by
  intro pins s σ H Q I h
  refine wpAny_isTrue_Compare1 (thn (ha pins s σ H _ I h) fun v s1 ⟨x,H1,I1,r1,q1⟩=>thn (hb pins s1 σ H1 _ I1 q1) fun u s2 ⟨y,H2,I2,r2,q2⟩=>
    thn (ho pins s2 σ H2 x y v u _ I2 r1 r2 q2) fun c s3 ⟨z,H3,I3,r3,k,e,q3⟩=>?_) hm
  subst e
  cases r3
  exact wpAny_truthy_bool ⟨H3,I3,q3⟩
def Agl (K:PySem.W.Frag) (x:V) (H:Hp) (k:Bool):Prop:=
  match x with
  | .non=>k = false
  | .bl b=>k = b
  | .int i=>k = (i != 0)
  | .str y=>y.length ≤ sizeLine ∧ k = ((y.length:Int) != 0)
  | .byt y=>y.size ≤ sizeLine ∧ k = ((y.size:Int) != 0)
  | .ref p=>(∃ xs,SqL K H p xs ∧ k = !xs.isEmpty) ∨ (∃ xs,SqT K H p xs ∧ k = !xs.isEmpty) ∨ ∃ kvs,H p = some (.dK kvs) ∧ k = !kvs.isEmpty
  | _=>False
theorem S9 {κ:Type} {kvs:List (κ × V)} {vs:List (κ × Value)} (r:KV kvs vs):(!vs.isEmpty) = !kvs.isEmpty:=by
  cases r <;> rfl
theorem Nl {xs:List V} {its:List Value} (r:Vals xs its):(!its.toArray.isEmpty) = !xs.isEmpty:=by
  cases r <;> simp
theorem K9:(sizeLine:Nat) < 2 ^ 63:=by rw [sizeLine_eq]; decide
theorem Ahb:Aj5 X (fun x H Q=>∃ k,Agl X.K x H k ∧ Q k H):=by
  intro pins s σ H x v Q I rx h
  obtain ⟨k,e,q⟩:=h
  have hl:=K9
  have hs:sizeLine = 16777216:=sizeLine_eq
  cases x with
  | non=>
    cases rx
    have e':k = false:=e
    subst e'
    exact truthy_none ⟨H,I,q⟩
  | bl b=>
    cases rx
    have e':k = b:=e
    subst e'
    exact wpAny_truthy_bool ⟨H,I,q⟩
  | int i=>
    obtain ⟨t,rfl⟩:=rx
    have e':k = (i != 0):=e
    subst e'
    exact PySem.P.truthy_int ⟨H,I,q⟩
  | str y=>
    obtain ⟨t,rfl⟩:=rx
    obtain ⟨hy,e'⟩:y.length ≤ sizeLine ∧ k = ((y.length:Int) != 0):=e
    subst e'
    exact PySem.P.truthy_str (by omega) ⟨H,I.tok _,q⟩
  | byt y=>
    obtain ⟨t,rfl⟩:=rx
    obtain ⟨hy,e'⟩:y.size ≤ sizeLine ∧ k = ((y.size:Int) != 0):=e
    subst e'
    exact PySem.W.truthy_bytes (by omega) ⟨H,I.tok _,q⟩
  | ref p=>
    cases rx
    have e':(∃ xs,SqL X.K H p xs ∧ k = !xs.isEmpty) ∨ (∃ xs,SqT X.K H p xs ∧ k = !xs.isEmpty) ∨ ∃ kvs,H p = some (.dK kvs) ∧ k = !kvs.isEmpty:=e
    rcases e' with ⟨xs,hx,e'⟩ | ⟨xs,hx,e'⟩ | ⟨kvs,hx,e'⟩
    · subst e'
      obtain ⟨its,r,pl,hz⟩:=I.list hx
      have hlen:=r.length
      exact wpAny_truthy_list pl.isList (by simp only [List.size_toArray]; omega) ⟨H,I.tok _,by rw [Nl r]; exact q⟩
    · subst e'
      obtain ⟨its,r,pl,hz⟩:=I.tuple hx
      have hlen:=r.length
      exact truthy_tuple pl (by simp only [List.size_toArray]; omega) ⟨H,I.tok _,by rw [Nl r]; exact q⟩
    · subst e'
      obtain ⟨hz,hS,vs,r,m⟩:kvs.length ≤ sizeLine ∧ (p == sysModules) = false ∧ ∃ vs,KV kvs vs ∧ s.heap.DictOf (B0 X.prog X.w) p vs:=I.hok p _ hx
      have hlen:kvs.length = vs.length:=Paired.length r
      exact wpAny_truthy_dict hS m (by omega) ⟨H,I.tok _,by rw [S9 r]; exact q⟩
  | _=>exact (show False from e).elim
theorem Ys (ha:PE X a ta) (he:∀ whole,isTrue a X.env whole = (do let v ← whole; standAt a.pos; holding [v] (truthy v))) :
    PT X a (fun σ H Q=>ta σ H fun x H'=>∃ k,Agl X.K x H' k ∧ Q k H'):=by
  intro pins s σ H Q I h
  exact isTrue_plain (thn (ha pins s σ H _ I h) fun v s1 ⟨x,H1,I1,r1,q1⟩=>Ahb pins s1 σ H1 x v Q I1 r1 q1) (he _)
theorem Tf:OpR X (binaryOp .Add) (fun x y H Q=>∃ i j,x = .str i ∧ y = .str j ∧ i.length + j.length ≤ sizeLine ∧ Q (.str (i ++ j)) H):=by
  intro pins s σ H x y v u Q I rx ry h
  obtain ⟨i,j,rfl,rfl,hz,q⟩:=h
  obtain ⟨t,rfl⟩:=rx
  obtain ⟨t',rfl⟩:=ry
  exact add_str (fun t' tk=>⟨.str (i ++ j),H,I.tok _,⟨_,rfl⟩,q⟩) hz
theorem Ia {x:V} {us:List Value} (r:Vals [x] us):∃ u,us = [u] ∧ RelV x u:=by
  cases r with
  | cons r1 r2=>cases r2; exact ⟨_,rfl,r1⟩
theorem Sn {x y:V} {us:List Value} (r:Vals [x,y] us):∃ u w',us = [u,w'] ∧ RelV x u ∧ RelV y w':=by
  cases r with
  | cons r1 r2=>
    cases r2 with
    | cons r3 r4=>cases r4; exact ⟨_,_,rfl,r1,r3⟩
theorem Sb:CallR X (.builtin "abs") (fun xs H Q=>∃ i,xs = [.int i] ∧ Q (.int (if i < 0 then -i else i)) H):=by
  intro pins s σ H xs us Q I r h
  obtain ⟨i,rfl,q⟩:=h
  obtain ⟨u,rfl,t,rfl⟩:=Ia r
  exact call_abs_int fun u tk=>⟨.int (if i < 0 then -i else i),H,I.tok _,⟨_,rfl⟩,q⟩
theorem Xf (hc:X.calm = true):CallR X (.builtin "max") (fun xs H Q=>∃ i j,xs = [.int i,.int j] ∧ Q (.int (if j > i then j else i)) H):=by
  intro pins s σ H xs us Q I r h
  obtain ⟨i,j,rfl,q⟩:=h
  obtain ⟨u,w',rfl,⟨t,rfl⟩,⟨t',rfl⟩⟩:=Sn r
  refine max_two_ints (I.ok.hd hc) fun h' tk k=>⟨_,H,I.kept k,?_,q⟩
  by_cases hj:j > i
  · rw [if_pos hj,if_pos hj]; exact ⟨_,rfl⟩
  · rw [if_neg hj,if_neg hj]; exact ⟨_,rfl⟩
def Ahy (K:PySem.W.Frag) (x:V) (H:Hp) (n:Nat):Prop:=
  match x with
  | .str y=>y.length ≤ sizeLine ∧ n = y.length
  | .byt y=>y.size ≤ sizeLine ∧ n = y.size
  | .ref p=>(∃ xs,SqL K H p xs ∧ n = xs.length) ∨ ∃ xs,SqT K H p xs ∧ n = xs.length
  | _=>False
theorem Ff:CallR X (.builtin "len") (fun xs H Q=>∃ x n,xs = [x] ∧ Ahy X.K x H n ∧ Q (.int n) H):=by
  intro pins s σ H xs us Q I r h
  obtain ⟨x,n,rfl,e,q⟩:=h
  obtain ⟨u,rfl,rx⟩:=Ia r
  have hl:=K9
  have hs:sizeLine = 16777216:=sizeLine_eq
  cases x with
  | str y=>
    obtain ⟨t,rfl⟩:=rx
    obtain ⟨hy,e'⟩:y.length ≤ sizeLine ∧ n = y.length:=e
    subst e'
    exact len_str (by omega) ⟨.int _,H,I.tok _,⟨_,rfl⟩,q⟩
  | byt y=>
    obtain ⟨t,rfl⟩:=rx
    obtain ⟨hy,e'⟩:y.size ≤ sizeLine ∧ n = y.size:=e
    subst e'
    exact PySem.W.len_bytes (by omega) ⟨.int _,H,I.tok _,⟨_,rfl⟩,q⟩
  | ref p=>
    cases rx
    have e':(∃ xs,SqL X.K H p xs ∧ n = xs.length) ∨ ∃ xs,SqT X.K H p xs ∧ n = xs.length:=e
    rcases e' with ⟨xs,hx,e'⟩ | ⟨xs,hx,e'⟩
    · subst e'
      obtain ⟨its,r',pl,hz⟩:=I.list hx
      have hlen:=r'.length
      exact Calls.call_len_list pl.isList (by simp only [List.size_toArray]; omega) ⟨.int xs.length,H,I.tok _,⟨_,by simp only [List.size_toArray]; rw [hlen]⟩,q⟩
    · subst e'
      obtain ⟨its,r',pl,hz⟩:=I.tuple hx
      have hlen:=r'.length
      exact len_tuple pl (by simp only [List.size_toArray]; omega) ⟨.int xs.length,H,I.tok _,⟨_,by simp only [List.size_toArray]; rw [hlen]⟩,q⟩
  | _=>exact (show False from e).elim
end
end L2
namespace L2
open PySem PySem.Spec PyProof.Rows
structure ObjM (h:Heap) (x dx C:Addr) (mA:Str → Option Value):Prop where
  obj:h.get? x = some (PySem.W.instObj C dx)
  ns:h.Ns1 dx mA
  ne:dx ≠ x
theorem Xc {h:Heap} {dx:Addr} {mA:Str → Option Value} (n:h.Ns1 dx mA):∃ od,h.get? dx = some od ∧ ∀ name,PySem.W.lookIn name od = some (mA name):=by
  obtain ⟨o,es,ep,ho,hd,hk,_,hm⟩:=n
  refine ⟨o,ho,fun name=>?_⟩
  have e:=hm name
  unfold nsFind findBy at e
  rw [← Array.find?_toList] at e
  unfold PySem.W.lookIn
  rw [hd]
  dsimp only
  split
  · rename_i y q
    rw [q] at e
    exact congrArg some e
  · rename_i q
    rw [q] at e
    have a:es.toList.any (·.refKey) = false:=by
      rw [List.any_eq_false]
      intro y hy
      obtain ⟨z,t,hkey⟩:=hk y (Array.mem_toList_iff.mp hy)
      simp [DictEntry.refKey,hkey]
    have a':¬ es.toList.any (·.refKey) = true:=by rw [a]; exact Bool.false_ne_true
    rw [if_neg a']
    exact congrArg some e
theorem ObjM.look {h:Heap} {x dx C:Addr} {mA:Str → Option Value} (I:ObjM h x dx C mA):∃ od,PySem.W.InstAt h x (PySem.W.instObj C dx) C (some od) ∧ ∀ name,PySem.W.lookIn name od = some (mA name):=
  let ⟨od,ho,hl⟩:=Xc I.ns
  ⟨od,⟨I.obj,rfl,rfl,ho⟩,hl⟩
section
variable {prog:Program} {w:World} {A:Around} {E:Value → Shared → Prop} {s:Shared} {K:PySem.W.Frag} {x dx C f:Addr} {mA:Str → Option Value} {name:Str} {v:Value}
end
theorem RelO.none_of {o:Option Value} (r:RelO none o):o = none:=by
  cases o with
  | none=>rfl
  | some u=>exact (show False from r).elim
section
variable {P:Program} {w:World} {H H':Hp} {h h':Heap} {a C dx:Addr} {fs fs':List (Str × V)}
end
structure Cls (K:PySem.W.Frag) (C:Addr):Prop where
  pg:PySem.W.plainGet K C Str.empty = true
  hd:PySem.W.hasDictIn K C = true
  po:PySem.W.plainOver K C = true
  sa:PySem.W.findIn K (.ref C) "__setattr__" = some (some (.builtin "object.__setattr__"))
theorem Cls.get {K:PySem.W.Frag} {C:Addr} (c:Cls K C) (f:Str):PySem.W.plainGet K C f = true:=c.pg
structure Con (K:PySem.W.Frag) (C:Addr) (f:Str) (v:V) (u:Value):Prop where
  at_:PySem.W.findIn K (.ref C) f = some (some u)
  rel:RelV v u
  get:PySem.W.specialIn K u "__get__" = some none
  cp:PySem.W.copiedNames.contains f = false
structure Meth (K:PySem.W.Frag) (C:Addr) (m:Str) (f:Addr):Prop where
  at_:PySem.W.findIn K (.ref C) m = some (some (.ref f))
  fn:PySem.W.isFn K (.ref f) = true
  kp:PySem.W.keepIn K (.ref f) = true
section
variable {X:Cx} {pins:List (Addr × Obj)} {σ:St} {H:Hp} {s:Shared} {a C dx:Addr} {fs:List (Str × V)} {f:Str} {v:V} {A:Around} {E:Value → Shared → Prop}
end
section
variable {X:Cx} {o e value:Expr} {f:Str} {pos pos' tpos:Pos} {ta tv:TE}
end
section
variable {X:Cx} {pins:List (Addr × Obj)} {σ:St} {H:Hp} {s:Shared} {A:Around} {E:Value → Shared → Prop} {Q:Value → Shared → Prop} {c:Value} {b:Bool}
inductive TyOf (K:PySem.W.Frag) (H:Hp):V → Value → Prop where
  | non:TyOf K H .non (.type "NoneType")
  | bl (x:Bool):TyOf K H (.bl x) (.type "bool")
  | int (i:Int):TyOf K H (.int i) (.type "int")
  | str (x:Str):TyOf K H (.str x) (.type "str")
  | flt (x:UInt64):TyOf K H (.flt x) (.type "float")
  | lst {a:Addr} {xs:List V} (e:H a = some (.lst xs)):TyOf K H (.ref a) (.type "list")
  | frz {a:Addr} {o:Obj} {xs:List V} (e:H a = some (.frz o (.lst xs))):TyOf K H (.ref a) (.type "list")
  | tup {a:Addr} {xs:List V} (e:H a = some (.tup xs)):TyOf K H (.ref a) (.type "tuple")
  | dK {a:Addr} {kvs:List (Key × V)} (e:H a = some (.dK kvs)):TyOf K H (.ref a) (.type "dict")
  | dT {a:Addr} {kvs:List (List Key × V)} (e:H a = some (.dT kvs)):TyOf K H (.ref a) (.type "dict")
  | ins {a C dx:Addr} {fs:List (Str × V)} (e:H a = some (.ins C dx fs)) (cl:Cls K C) (ha:PySem.W.findIn K (.ref C) "__class__" = some (some (.builtin "object.__class__")))
      (hn:PySem.W.specialIn K (.builtin "object.__class__") "__get__" = some (some (.builtin "getset_descriptor.__get__"))) (htk:PySem.W.takesIn K (.builtin "object.__class__") = some true)
      (hm:PySem.W.mroIn K C (.type "object") = some true):TyOf K H (.ref a) (.ref C)
end
end L2
namespace L2
open PySem PySem.Spec PyProof.Rows
structure Room (k:Nat) (A:Around):Prop where
  hd:A.handled = none
  dp:A.depth + 3 * k + 5 < recursionLimit
  un:A.units + 16 * k + 200 < cLine
theorem Room.mono {j k:Nat} {A:Around} (r:Room k A) (h:j ≤ k):Room j A:=⟨r.hd,by have:=r.dp; omega,by have:=r.un; omega⟩
theorem Room.deeper {k:Nat} {A:Around} (r:Room (k + 1) A) (env:Env):Room k (A.deeper env):=
  ⟨r.hd,by have:=r.dp; show A.depth + 1 + 3 * k + 5 < _; omega,by have:=r.un; show A.units + 3 + 16 * k + 200 < _; omega⟩
theorem Room.in1 {k:Nat} {A:Around} (r:Room (k + 1) A):Room k A.in1:=
  ⟨r.hd,by have:=r.dp; show A.depth + 3 * k + 5 < _; omega,by have:=r.un; show A.units + 1 + 16 * k + 200 < _; omega⟩
theorem Room.depth {k:Nat} {A:Around} (r:Room k A):A.depth < recursionLimit:=by have:=r.dp; omega
theorem Room.units {k:Nat} {A:Around} (r:Room k A):A.units + 64 < cLine:=by have:=r.un; omega
def Ai4:TA:=fun _ H Q=>Q [] H
def Aeg (ta:TE) (tr:TA):TA:=fun σ H Q=>ta σ H fun x H1=>tr σ H1 fun xs H2=>Q (x :: xs) H2
section
variable {X:Cx} {e:Expr} {es:List Expr} {te:TE} {t:TA} {pos:Pos}
theorem Ahg:PA X [] Ai4:=fun _ _ _ _ H Q I h=>Calls.spliced_nil ⟨[],H,I,.nil,h⟩
theorem Ace (ha:PE X e te) (hr:PA X es t) (hs:starEach (e :: es) X.env = (false,eval e X.env) :: starEach es X.env:=by rfl):PA X (e :: es) (Aeg te t):=by
  intro pos pins s σ H Q I h
  rw [hs]
  show wpAny _ _ (spliced ((false,eval e X.env) :: backTo pos (starEach es X.env))) _ _ s
  refine Calls.spliced_cons (thn (ha pins s σ H _ I h) fun u s1 ⟨x,H1,I1,r1,q1⟩=>?_)
  exact thn (hr pos pins s1 σ H1 _ I1 q1) fun us s2 ⟨xs,H2,I2,r2,q2⟩=>⟨x :: xs,H2,I2,.cons r1 r2,q2⟩
def Aj9 (t:TA):TE:=fun σ H Q=>t σ H fun xs H1=>xs.length ≤ sizeLine ∧ ∀ p,H1 p = none → Q (.ref p) (upd H1 p (.tup xs))
def Aju (t:TA):TE:=fun σ H Q=>t σ H fun xs H1=>xs.length ≤ sizeLine ∧ ∀ p,H1 p = none → Q (.ref p) (upd H1 p (.lst xs))
theorem Ahm {x1} (h:PA X es t):PE X (.Tuple es x1 pos) (Aj9 t):=by
  intro pins s σ H Q I hq
  refine wpAny_Tuple_spliced (thn (h pos pins s σ H _ I hq) fun us s1 ⟨xs,H1,I1,r,z,q⟩=>⟨by rw [← r.length]; exact z,?_⟩)
  have hf:H1 s1.heap.objs.size = none:=I1.hok.fresh (Nat.le_refl _)
  refine ⟨.ref s1.heap.objs.size,upd H1 s1.heap.objs.size (.tup xs),I1.laid (t':=s1.toks) (fun b u e=>Heap.get?_push_of_some _ e) (Nat.le_refl _) ?_,rfl,q _ hf⟩
  exact ⟨z,us,r,⟨_,Heap.get?_push_size _ rfl,rfl,_,rfl⟩⟩
theorem Af3 (h:PA X es t):PE X (.List es pos) (Aju t):=by
  intro pins s σ H Q I hq
  refine wpAny_List_spliced (thn (h pos pins s σ H _ I hq) fun us s1 ⟨xs,H1,I1,r,z,q⟩=>⟨by rw [← r.length]; exact z,?_⟩)
  have hf:H1 s1.heap.objs.size = none:=I1.hok.fresh (Nat.le_refl _)
  refine ⟨.ref s1.heap.objs.size,upd H1 s1.heap.objs.size (.lst xs),I1.laid (t':=s1.toks) (fun b u e=>Heap.get?_push_of_some _ e) (Nat.le_refl _) ?_,rfl,q _ hf⟩
  exact ⟨z,us,0,r,Heap.get?_push_size _ rfl⟩
end
abbrev Sp:=List V → Hp → VK → XK → Prop
abbrev CXT:=List Env → Hp → Shared → XK → Value → Shared → Prop
structure Env0 (P:Program) (w:World) (K:PySem.W.Frag) (mg:Str → Option Value) (base:Heap) (A:Around) (outer:List Env) (s:Shared) (H:Hp):Prop where
  frames:A.frames = some outer
  mod:Mod K mg base
  bs:∀ b o,base.get? b = some o → s.heap.get? b = some o ∧ H b = none
  bsz:base.objs.size ≤ s.heap.objs.size
  funs:s.heap.FunFrames base outer
  frf:∀ b ∈ frs outer,H b = none
  hok:HOk P w H s.heap
  bare:AllBare s.gens
def CE (outer:List Env) (P:Program) (w:World) (H:Hp) (s:Shared) (Q:VK) (u:Value) (s':Shared):Prop:=
  ∃ v H',s'.os = s.os ∧ AllBare s'.gens ∧ Un (frs outer) [] H H' s.heap s'.heap ∧ HOk P w H' s'.heap ∧ RelV v u ∧ Q v H'
def CR (CX:CXT) (outer:List Env) (P:Program) (w:World) (H:Hp) (s:Shared) (Q:VK) (E:XK) (r:Result) (s':Shared):Prop:=
  match r with
  | .ok (.ret u)=>CE outer P w H s Q u s'
  | .ok _=>False
  | .error e=>CX outer H s E e s'
structure FnOk (P:Program) (w:World) (K:PySem.W.Frag) (mg:Str → Option Value) (base:Heap) (CX:CXT) (k:Nat) (f:Addr) (fd:FuncData) (ps:List Str) (sp:Sp):Prop where
  len:∀ vs H Q E,sp vs H Q E → vs.length = ps.length
  run:∀ (A:Around) (outer:List Env) (s:Shared) (H:Hp) (args:Args) (us:List Value) (vs:List V) (Q:VK) (E:XK),Room k A → Env0 P w K mg base A outer s H → BindsTo s fd args (ps.zip us) → Vals vs us → sp vs H Q E →
    codeAny (model P w) A (.call (.ref f) args) (CR CX outer P w H s Q E) s
theorem FnOk.mono {P:Program} {w:World} {K:PySem.W.Frag} {mg:Str → Option Value} {base:Heap} {CX:CXT} {j k:Nat} {f:Addr} {fd:FuncData} {ps:List Str} {sp:Sp} (F:FnOk P w K mg base CX j f fd ps sp) (h:j ≤ k) :
    FnOk P w K mg base CX k f fd ps sp:=⟨F.len,fun A outer s H args us vs Q E hr=>F.run A outer s H args us vs Q E (hr.mono h)⟩
theorem FnOk.imp {P:Program} {w:World} {K:PySem.W.Frag} {mg:Str → Option Value} {base:Heap} {CX:CXT} {k:Nat} {f:Addr} {fd:FuncData} {ps:List Str} {sp sp':Sp} (F:FnOk P w K mg base CX k f fd ps sp)
    (h:∀ vs H Q E,sp' vs H Q E → sp vs H Q E):FnOk P w K mg base CX k f fd ps sp':=
  ⟨fun vs H Q E q=>F.len vs H Q E (h _ _ _ _ q),fun A outer s H args us vs Q E hr he hb hv hs=>F.run A outer s H args us vs Q E hr he hb hv (h _ _ _ _ hs)⟩
theorem Env0.in1 {P:Program} {w:World} {K:PySem.W.Frag} {mg:Str → Option Value} {base:Heap} {A:Around} {outer:List Env} {s:Shared} {H:Hp} (e:Env0 P w K mg base A outer s H) :
    Env0 P w K mg base A.in1 outer s H:=⟨e.frames,e.mod,e.bs,e.bsz,e.funs,e.frf,e.hok,e.bare⟩
section
variable {X:Cx} {pins:List (Addr × Obj)} {σ:St} {H:Hp} {s s':Shared}
theorem Inv.env0 (I:Inv X pins σ H s):Env0 X.prog X.w X.K X.mg X.base X.A X.stack s H:=
  ⟨I.ok.frames,I.ok.mod,I.bs,Nat.le_trans I.ok.bsz I.sz,I.stack,I.stkFree,I.hok,I.bare⟩
theorem Inv.after {Q:VK} {u:Value} (I:Inv X pins σ H s) (h:CE X.stack X.prog X.w H s Q u s'):EP X pins σ Q u s':=by
  obtain ⟨v,H',os,bare,un,hok,r,q⟩:=h
  obtain ⟨hh,g,d,t,os'⟩:=s'
  obtain rfl:os' = s.os:=os
  exact ⟨v,H',I.call (h':=hh) (g':=g) (d':=d) (t':=t) (ch:=[]) un hok bare (fun b z=>absurd z (by simp)),r,q⟩
end
def Ai6 (sp:Sp) (dvs:List V) (E:XK) (t:TA):TE:=fun σ H Q=>t σ H fun vs H1=>sp (vs ++ dvs) H1 Q E
def Binds (K:PySem.W.Frag) (fd:FuncData) (ps:List Str) (ds:List Value):Prop:=
  ∀ (s:Shared) (us:List Value),K.In s.heap → (us ++ ds).length = ps.length → BindsTo s fd ⟨us,[]⟩ (ps.zip (us ++ ds))
theorem Binds.all {K:PySem.W.Frag} {fd:FuncData} {ps:List Str} (h:∀ us:List Value,us.length = ps.length → bindArgs fd ⟨us,[]⟩ = pure (ps.zip us)):Binds K fd ps []:=fun s us _ hl=>by
  rw [List.append_nil] at hl ⊢
  exact .of_eq (h us hl)
def Tt (CX:CXT) (X:Cx) (E:XK):Prop:=∀ (pins:List (Addr × Obj)) (σ:St) (H:Hp) (s:Shared) (e:Value) (s':Shared),Inv X pins σ H s → CX X.stack H s E e s' → X.xe e s'
section
variable {X:Cx} {CX:CXT} {k:Nat} {f C:Addr} {fd:FuncData} {ps:List Str} {sp:Sp} {dvs:List V} {ds:List Value} {E:XK} {x m:Str} {p pos apos:Pos} {e o:Expr} {es:List Expr} {ta:TE} {t:TA}
theorem Agw {pins:List (Addr × Obj)} {σ:St} {H:Hp} {s:Shared} {Q:VK} {us:List Value} {vs:List V} (F:FnOk X.prog X.w X.K X.mg X.base CX k f fd ps sp) (hr:Room k X.A) (hb:Binds X.K fd ps ds) (hd:Vals dvs ds) (hx:Tt CX X E)
    (I:Inv X pins σ H s) (r:Vals vs us) (h:sp (vs ++ dvs) H Q E):wpAny (model X.prog X.w) X.A (call (.ref f) us) (EP X pins σ Q) X.xe s:=by
  have r2:Vals (vs ++ dvs) (us ++ ds):=r.append hd
  have hl:(us ++ ds).length = ps.length:=by rw [← r2.length]; exact F.len _ _ _ _ h
  refine wpAny_call (codeAny_mono (F.run X.A X.stack s H ⟨us,[]⟩ (us ++ ds) (vs ++ dvs) Q E hr I.env0 (hb s us I.kIn hl) r2 h) fun r s' hq=>?_)
  cases r with
  | error e=>exact hx pins σ H s e s' I hq
  | ok fl=>
    cases fl with
    | ret u=>exact I.after hq
    | next=>exact False.elim hq
    | brk=>exact False.elim hq
    | cont=>exact False.elim hq
theorem Aed (F:FnOk X.prog X.w X.K X.mg X.base CX k f fd ps sp) (hr:Room k X.A) (hg:Gl X x) (hm:X.mg x = some (.ref f)) (hk:PySem.W.keepIn X.K (.ref f) = true) (hb:Binds X.K fd ps ds) (hd:Vals dvs ds) (hx:Tt CX X E)
    (ha:PA X (e :: es) t) (hdb:(x == ("__debug__" : Str)) = false:=by decide) (he:starEach (e :: es) X.env = (false,eval e X.env) :: starEach es X.env:=by rfl) (hpl:(backTo pos (starEach es X.env)).any (·.1) = false:=by rfl) :
    PE X (.Call (.Name x p) (e :: es) [] pos) (Ai6 sp dvs E t):=by
  intro pins s σ H Q I h
  refine wpAny_Call_Name_kw (Vt I hg hm ?_ hdb)
  refine PySem.W.callWith_K (h₀:=X.base) I.ok.mod.kin hk (thn (ha pos pins s σ H _ I h) fun us s1 ⟨vs,H1,I1,r,q⟩=>⟨I1.kIn,?_⟩) he hpl
  exact Agw F hr hb hd hx I1 r q
structure Mk (K:PySem.W.Frag) (C f:Addr):Prop where
  makes:PySem.W.makesIn K C = true
  init:PySem.W.findIn K (.ref C) "__init__" = some (some (.ref f))
  fn:PySem.W.isFn K (.ref f) = true
  kp:PySem.W.keepIn K (.ref C) = true
end
def PK (X:Cx) (kws:List Keyword) (t:TA):Prop:=
  ∀ (pos:Pos) (pins:List (Addr × Obj)) (s:Shared) (σ:St) (H:Hp) (Q:List V → Hp → Prop),Inv X pins σ H s → t σ H Q → wpAny (model X.prog X.w) X.A (evalAll ((backToKw pos (keywordEach kws X.env)).map (·.2))) (AP X pins σ Q) X.xe s
section
variable {X:Cx} {CX:CXT} {k:Nat} {f C:Addr} {fd:FuncData} {ps ks:List Str} {sp:Sp} {E:XK} {x m:Str} {p pos apos kpos:Pos} {e o:Expr} {es:List Expr} {kws:List Keyword} {te ta:TE} {t tk:TA} {nm:Option Str}
theorem Afv:PK X [] Ai4:=fun _ _ _ _ H Q I h=>wpAny_evalAll_nil ⟨[],H,I,.nil,h⟩
theorem Aco (ha:PE X e te) (hr:PK X kws t):PK X (⟨nm,e,kpos⟩ :: kws) (Aeg te t):=by
  intro pos pins s σ H Q I h
  show wpAny _ _ (evalAll ((do let v ← eval e X.env; standAt pos; pure v) :: (backToKw pos (keywordEach kws X.env)).map (·.2))) _ _ s
  refine wpAny_evalAll_cons (wpAny_bind (thn (ha pins s σ H _ I h) fun u s1 ⟨x,H1,I1,r1,q1⟩=>wpAny_bind (wpAny_standAt (wpAny_pure ?_))))
  exact thn (hr pos pins s1 σ H1 _ I1 q1) fun us s2 ⟨xs,H2,I2,r2,q2⟩=>⟨x :: xs,H2,I2,.cons r1 r2,q2⟩
structure KBinds (K:PySem.W.Frag) (fd:FuncData) (ps ks:List Str) (g:List Value → List Value → List Value) (gV:List V → List V → List V):Prop where
  to:∀ (s:Shared) (us ws:List Value),K.In s.heap → (g us ws).length = ps.length → BindsTo s fd ⟨us,ks.zip ws⟩ (ps.zip (g us ws))
  rel:∀ {vs:List V} {us:List Value} {zs:List V} {ws:List Value},Vals vs us → Vals zs ws → Vals (gV vs zs) (g us ws)
variable {g:List Value → List Value → List Value} {gV:List V → List V → List V}
end
structure FnScope (N P:List Str) (sc:Scope):Prop where
  kind:sc.kind = .function
  co:sc.isCoroutine = false
  gen:sc.isGenerator = false
  nd:N.Nodup
  pre:N.take P.length = P
  par:∀ x ∈ P,sc.names.lookup x = some .local ∨ sc.names.lookup x = some .cell
  nofree:∀ y ∈ sc.names,y.2 ≠ .free
theorem P6 {kindOf:Str → Option NameKind} {x:Str}:∀ {binds:List (Str × Value)} {m:Str → Option Value},(∀ v,(x,v) ∉ binds) → bindL kindOf binds m x = m x
  | [],_,_=>rfl
  | (n,v) :: r,m,h=>by
    unfold bindL
    rw [P6 fun w hw=>h w (List.mem_cons_of_mem _ hw)]
    split
    · have:x ≠ n:=by rintro rfl; exact h v List.mem_cons_self
      simp [this]
    · rfl
theorem Py {kindOf:Str → Option NameKind} {x:Str}:∀ {binds:List (Str × Value)} {m:Str → Option Value},(∀ v,(x,v) ∉ binds) → bindC kindOf binds m x = m x
  | [],_,_=>rfl
  | (n,v) :: r,m,h=>by
    unfold bindC
    rw [Py fun w hw=>h w (List.mem_cons_of_mem _ hw)]
    split
    · rfl
    · have:x ≠ n:=by rintro rfl; exact h v List.mem_cons_self
      simp [this]
theorem P8 {kindOf:Str → Option NameKind} {x:Str} {v:Value}:∀ {P:List Str} {vs:List Value} {i:Nat} {m:Str → Option Value},P.Nodup → P[i]? = some x → vs[i]? = some v → kindOf x = some .local →
    bindL kindOf (P.zip vs) m x = some v
  | [],_,_,_,_,h,_,_=>by simp at h
  | _ :: _,[],_,_,_,_,h,_=>by simp at h
  | p :: P,w :: vs,0,m,nd,h1,h2,hk=>by
    simp at h1 h2; subst h1; subst h2
    show bindL kindOf ((p,w) :: P.zip vs) m p = _
    unfold bindL
    rw [P6 fun v hv=>(List.nodup_cons.mp nd).1 (List.of_mem_zip hv).1,if_pos hk]
    simp
  | p :: P,w :: vs,i + 1,m,nd,h1,h2,hk=>by
    show bindL kindOf ((p,w) :: P.zip vs) m x = _
    unfold bindL
    exact P8 (i:=i) (List.nodup_cons.mp nd).2 (by simpa using h1) (by simpa using h2) hk
theorem Qi {kindOf:Str → Option NameKind} {x:Str} {v:Value}:∀ {P:List Str} {vs:List Value} {i:Nat} {m:Str → Option Value},P.Nodup → P[i]? = some x → vs[i]? = some v → kindOf x ≠ some .local →
    bindC kindOf (P.zip vs) m x = some v
  | [],_,_,_,_,h,_,_=>by simp at h
  | _ :: _,[],_,_,_,_,h,_=>by simp at h
  | p :: P,w :: vs,0,m,nd,h1,h2,hk=>by
    simp at h1 h2; subst h1; subst h2
    show bindC kindOf ((p,w) :: P.zip vs) m p = _
    unfold bindC
    rw [Py fun v hv=>(List.nodup_cons.mp nd).1 (List.of_mem_zip hv).1,if_neg hk]
    simp
  | p :: P,w :: vs,i + 1,m,nd,h1,h2,hk=>by
    show bindC kindOf ((p,w) :: P.zip vs) m x = _
    unfold bindC
    exact Qi (i:=i) (List.nodup_cons.mp nd).2 (by simpa using h1) (by simpa using h2) hk
def start (N:List Str) (vs:List V):St:=vs.map some ++ List.replicate (N.length - vs.length) none
def Um (CX:CXT) (P:Program) (w:World) (K:PySem.W.Frag) (mg:Str → Option Value) (base:Heap) (N:List Str) (qual:Str) (scope:Scope) (f:Addr) (cd:Value) (A:Around) (outer:List Env) (s:Shared) (H:Hp) (E:XK):Cx where
  prog:=P
  w:=w
  K:=K
  mg:=mg
  base:=base
  A:=A.deeper (envOfC qual scope s.heap.objs.size f cd)
  N:=N
  s₀:=s
  H₀:=H
  env:=envOfC qual scope s.heap.objs.size f cd
  outer:=outer
  stack:=envOfC qual scope s.heap.objs.size f cd :: outer
  ex:=[]
  calm:=true
  fn:=fun _=>true
  pn:=[]
  xe:=fun e s'=>wpAny (model P w) (A.deeper (envOfC qual scope s.heap.objs.size f cd)) (leaving (envOfC qual scope s.heap.objs.size f cd) e) (fun _ s''=>CX outer H s E e s'') (fun e' s''=>CX outer H s E e' s'') s'
theorem Sr {sc:Scope} {n:Nat} {x:Str} (h:sc.names.lookup x = some .cell):∃ c,(cellsFrom n sc.names []).lookup x = some c:=by
  have q:=PySem.W.cellsFrom_some sc.names n [] (.inl h)
  exact Option.isSome_iff_exists.mp q
theorem W9 {CX:CXT} {P:Program} {w:World} {K:PySem.W.Frag} {mg:Str → Option Value} {base:Heap} {N ps:List Str} {qual:Str} {scope:Scope} {f:Addr} {cd:Value} {A:Around} {outer:List Env} {s s1:Shared} {H:Hp} {E:XK} {us:List Value} {vs:List V}
    (S:FnScope N ps scope) (hd:A.handled = none) (e0:Env0 P w K mg base A outer s H) (hl:vs.length = ps.length) (r:Vals vs us)
    (x:InCallC s s.heap.objs.size (bindL (envOfC qual scope s.heap.objs.size f cd).kindOf (ps.zip us) fun _=>none) (cellsFrom (s.heap.objs.size + 1) scope.names []) (bindC (envOfC qual scope s.heap.objs.size f cd).kindOf (ps.zip us) fun _=>none) s1) :
    Inv (Um CX P w K mg base N qual scope f cd A outer s H E) [] (start N vs) H s1:=by
  have hpl:ps.length ≤ N.length:=by have:=congrArg List.length S.pre; rw [List.length_take] at this; omega
  obtain ⟨h1,tk,rfl,hk⟩:=x.done
  have noA:∀ b:Addr,b ∉ (Um CX P w K mg base N qual scope f cd A outer s H E).ex:=fun b z=>absurd (show b ∈ ([]:List Addr) from z) (by simp)
  refine ⟨⟨e0.mod,S.kind,rfl,rfl,Nat.le_refl _,fun y z c h1 h2=>?_,fun y hy=>?_,fun y c _ h=>?_,fun _=>hd,Around.frames_deeper e0.frames,.inr ⟨rfl,rfl⟩,fun b z=>absurd z (noA b),e0.bs,e0.bsz,fun b _ _=>noA b,fun b z=>absurd z (noA b),e0.funs,e0.frf⟩,
    rfl,e0.bare,Un.kept hk,⟨_,x.toInCall.ns,fun i y v h1 h2 h3=>?_⟩,fun y c h=>⟨_,x.cell y c h⟩,e0.hok.fresh (Nat.le_refl _),fun y c h=>?_,fun p hp=>absurd (show p ∈ ([]:List (Addr × Obj)) from hp) (by simp),e0.hok.kept hk,?_⟩
  · exact name_of_addr x.apart (PySem.mem_of_lookup h1) (PySem.mem_of_lookup h2)
  · have hy:scope.names.lookup y = some .cell ∨ scope.names.lookup y = some .free:=hy
    rcases hy with hy | hy
    · exact Sr hy
    · exact absurd rfl (S.nofree _ (PySem.mem_of_lookup hy))
  · exact Nat.le_of_lt (x.above y c (PySem.mem_of_lookup h))
  · have hi:i < vs.length:=by
      unfold start at h2
      by_cases hi:i < vs.length
      · exact hi
      · rw [List.getElem?_append_right (by simpa using hi)] at h2
        rw [List.getElem?_replicate] at h2
        split at h2 <;> cases h2
    have ha:vs[i]? = some v:=by
      unfold start at h2
      rw [List.getElem?_append_left (by simpa using hi),List.getElem?_map] at h2
      cases e:vs[i]? with
      | none=>rw [e] at h2; cases h2
      | some a=>rw [e] at h2; cases h2; rfl
    obtain ⟨u,hu,rv⟩:=r.get ha
    have hp:ps[i]? = some y:=by
      rw [← S.pre,List.getElem?_take_of_lt (by omega)]; exact h1
    have ndP:ps.Nodup:=by rw [← S.pre]; exact S.nd.sublist (List.take_sublist _ _)
    refine ⟨u,rv,?_⟩
    rcases S.par y (List.mem_of_getElem? hp) with k | k
    · exact .inl ⟨k,P8 ndP hp hu k⟩
    · obtain ⟨c,e⟩:=Sr (n:=s.heap.objs.size + 1) k
      refine .inr ⟨.inl k,c,e,?_⟩
      have q:=x.cell y c e
      rw [Qi ndP hp hu (by show scope.names.lookup y ≠ _; rw [k]; decide)] at q
      exact q
  · exact e0.hok.fresh (Nat.le_of_lt (x.above y c (PySem.mem_of_lookup h)))
  · unfold start
    show _ = N.length
    rw [List.length_append,List.length_map,List.length_replicate]
    omega
theorem Ait {CX:CXT} {P:Program} {w:World} {K:PySem.W.Frag} {mg:Str → Option Value} {base:Heap} {k:Nat} {f:Addr} {name qual:Str} {params:Arguments} {body:List Stmt} {scope:Scope} {dV kV doc pm cdv ct oc:Value} {an od:Option Addr}
    {osl:Array (Option Value)} {N ps:List Str} {sp:Sp} (lk:K.lookup f = some ⟨oc,od,.func (PySem.W.fnOf name qual params body scope dV kV doc pm an cdv ct),osl⟩) (hcd:PySem.W.codeIn K cdv qual = true) (S:FnScope N ps scope)
    (len:∀ vs H Q E,sp vs H Q E → vs.length = ps.length)
    (hbody:∀ (A:Around) (outer:List Env) (s:Shared) (H:Hp) (vs:List V) (Q:VK) (E:XK),Room k (A.deeper (envOfC qual scope s.heap.objs.size f cdv)) → sp vs H Q E →
      ∃ t,PSs (Um CX P w K mg base N qual scope f cdv A outer s H E) body t ∧ t { nx:=fun _ H'=>Q .non H',rt:=Q } (start N vs) H) :
    FnOk P w K mg base CX (k + 1) f (PySem.W.fnOf name qual params body scope dV kV doc pm an cdv ct) ps sp:=by
  refine ⟨len,fun A outer s H args us vs Q E hr e0 hb r hsp=>?_⟩
  have hl:=len _ _ _ _ hsp
  have KX:K.In s.heap:=e0.mod.kin.keeps fun b o e=>(e0.bs b o e).1
  have lim:s.heap.NoLimit:=e0.mod.nolimit.keeps fun b o e=>(e0.bs b o e).1
  have hkind:∀ y ∈ ps.zip us,scope.names.lookup y.1 = some .local ∨ (scope.names.lookup y.1 = some .cell ∧ ((cellsFrom (s.heap.objs.size + 1) scope.names []).lookup y.1).isSome = true):=fun ⟨n,v⟩ hy=>by
    rcases S.par n (List.of_mem_zip hy).1 with q | q
    · exact .inl q
    · exact .inr ⟨q,PySem.W.cellsFrom_some _ _ _ (.inl q)⟩
  refine codeAny_call_function hr.depth (KX _ _ lk) rfl S.co S.gen rfl (PySem.W.codeRec_of KX hcd) (hb _ _ _ _ ?_)
  refine wpAny_newFunctionEnv_cells S.kind hkind fun env he s1 x=>?_
  subst he
  refine ⟨lim.keeps x.toInCall.keep,codeAny_func ?_⟩
  obtain ⟨t,ht,hq⟩:=hbody A outer s H vs Q E (hr.deeper _) hsp
  have I:Inv (Um CX P w K mg base N qual scope f cdv A outer s H E) [] (start N vs) H s1:=W9 S hr.hd e0 hl r x
  refine wpAny_mono (ht [] s1 (start N vs) H _ I hq) (fun fl s' hs=>?_) fun e s' hs=>hs
  have fin:∀ {σ':St} {H':Hp} {v:V} {u:Value},Inv (Um CX P w K mg base N qual scope f cdv A outer s H E) [] σ' H' s' → RelV v u → Q v H' → CE outer P w H s Q u s':=
    fun {σ' H' v u} J rv q=>⟨v,H',J.os,J.bare,J.base,J.hok,rv,q⟩
  cases fl with
  | ret u=>
    obtain ⟨v,σ',H',J,rv,q⟩:=hs
    exact fin J rv q
  | next=>
    obtain ⟨σ',H',J,q⟩:=hs
    exact fin (v:=V.non) (u:=Value.none) J rfl q
  | brk=>
    obtain ⟨_,_,_,q⟩:=hs
    exact False.elim q
  | cont=>
    obtain ⟨_,_,_,q⟩:=hs
    exact False.elim q
end L2
namespace L2
open PySem PySem.Spec PyProof.Rows
section
variable {X:Cx} {x:Str} {p pos:Pos} {e:Expr} {es:List Expr} {t:TA} {id T:String} {r:List V → Hp → VK → Prop}
def tCB (r:List V → Hp → VK → Prop) (t:TA):TE:=fun σ H Q=>t σ H fun vs H1=>r vs H1 Q
theorem Yi (hc:CallR X (.builtin id) r) (hg:Gl X x) (hm:X.mg x = none) (hv:bootBuiltins x = some (.builtin id)) (ha:PA X (e :: es) t) (hn:x ≠ "__name__" := by decide) (hdb:(x == ("__debug__" : Str)) = false:=by decide)
    (he:starEach (e :: es) X.env = (false,eval e X.env) :: starEach es X.env:=by rfl) (hpl:(backTo pos (starEach es X.env)).any (·.1) = false:=by rfl):PE X (.Call (.Name x p) (e :: es) [] pos) (tCB r t):=by
  intro pins s σ H Q I h
  refine wpAny_Call_Name_kw (Hk I hg hm hv ?_ hn hdb)
  exact PyProof.Rows.callWith_builtin1 (thn (ha pos pins s σ H _ I h) fun us s1 ⟨vs,H1,I1,r1,q1⟩=>hc pins s1 σ H1 vs us Q I1 r1 q1) he hpl
theorem Wk (hc:CallR X (.type T) r) (hg:Gl X x) (hm:X.mg x = none) (hv:bootBuiltins x = some (.type T)) (ha:PA X (e :: es) t) (hn:x ≠ "__name__" := by decide) (hdb:(x == ("__debug__" : Str)) = false:=by decide)
    (he:starEach (e :: es) X.env = (false,eval e X.env) :: starEach es X.env:=by rfl) (hpl:(backTo pos (starEach es X.env)).any (·.1) = false:=by rfl):PE X (.Call (.Name x p) (e :: es) [] pos) (tCB r t):=by
  intro pins s σ H Q I h
  refine wpAny_Call_Name_kw (Hk I hg hm hv ?_ hn hdb)
  exact PyProof.Rows.callWith_type1 (thn (ha pos pins s σ H _ I h) fun us s1 ⟨vs,H1,I1,r1,q1⟩=>hc pins s1 σ H1 vs us Q I1 r1 q1) he hpl
end
end L2
namespace HT
open PySem PyProof.Rows
section
open PySem.SeqAt
open PySem.AutoSeq1 (wpAny_loadPart')
open PySem.MeetsSeq PySem.MeetsSeq2 PySem.MeetsSeq3
end
section
variable {prog:Program} {w:World} {A:Around} {E:Value → Shared → Prop} {s:Shared}
theorem Acd {t b:Addr} {vs ws:List Value} {Q:Value → Shared → Prop} (ht:IsTup s.heap t vs.toArray) (hb:IsTup s.heap b ws.toArray) (hv:vs ≠ [])
    (h1:ws = [] → Q (.ref t) s) (h2:ws ≠ [] → Q (.ref s.heap.objs.size) { s with heap:=s.heap.push { cls:=.type "tuple",data:=.seq (vs ++ ws).toArray } })
    (hsz:vs.length + ws.length ≤ sizeLine):wpAny (model prog w) A (binaryOp .Add (.ref t) (.ref b)) Q E s:=by
  obtain ⟨⟨cls,dd,data,sl⟩,ho,hc,n,hd⟩:=id ht
  obtain ⟨⟨cls2,dd2,data2,sl2⟩,ho2,hc2,n2,hd2⟩:=id hb
  simp only at hc hd hc2 hd2
  subst hc hd hc2 hd2
  have e:vs.toArray ++ ws.toArray = (vs ++ ws).toArray:=by simp
  by_cases hw:ws = []
  · exact concat_meets ⟨_,ho,rfl⟩ ⟨_,ho2,rfl⟩ noFill_tuple_add seq_tuple_add PySem.F.slot_tuple_add PySem.F.entry_tuple_add (PySem.F.args_tuple_add_2 _ _)
      (tuple_addW1 t b vs.toArray ws.toArray n n2 dd dd2 sl sl2 (by simpa using hv) (by simp [hw])) ⟨ho,ho2,h1 hw⟩
  · refine concat_meets ⟨_,ho,rfl⟩ ⟨_,ho2,rfl⟩ noFill_tuple_add seq_tuple_add PySem.F.slot_tuple_add PySem.F.entry_tuple_add (PySem.F.args_tuple_add_2 _ _)
      (tuple_addW2 t b vs.toArray ws.toArray n n2 dd dd2 sl sl2 (by simpa using hv) (by simpa using hw) (by rw [List.size_toArray,List.size_toArray]; exact hsz)) ⟨ho,ho2,?_⟩
    rw [e]
    exact h2 hw
def sIx (n d:Nat):Option Int → Nat
  | none=>d
  | some v=>if v < 0 then (v + (n:Int)).toNat else min v.toNat n
theorem Y1 (n d:Nat):sIx n d none = d:=rfl
theorem Adm (n d k:Nat):sIx n d (some (k:Int)) = min k n:=by
  show (if (k:Int) < 0 then ((k:Int) + (n:Int)).toNat else min (k:Int).toNat n) = min k n
  rw [if_neg (by omega),Int.toNat_natCast]
theorem Agb (n d:Nat) (hd:d ≤ n) (o:Option Int):sIx n d o ≤ n:=by
  cases o with
  | none=>exact hd
  | some v=>
    show (if v < 0 then (v + (n:Int)).toNat else min v.toNat n) ≤ n
    by_cases hv:v < 0
    · rw [if_pos hv]; omega
    · rw [if_neg hv]; exact Nat.min_le_right _ _
theorem U7 (v:Int) (n d:Nat):(if v < 0 then max (v + (n:Int)) 0 else min v (n:Int)) = ((sIx n d (some v):Nat):Int):=by
  show (if v < 0 then max (v + (n:Int)) 0 else min v (n:Int)) = (((if v < 0 then (v + (n:Int)).toNat else min v.toNat n):Nat):Int)
  by_cases hv:v < 0
  · simp only [if_pos hv]; omega
  · simp only [if_neg hv]; omega
theorem Ut (lo hi:Option Int) (n:Nat):Builtin.Slice.sliceAdjust lo hi 1 (n:Int) = (((sIx n 0 lo:Nat):Int),((sIx n n hi:Nat):Int)):=by
  have h1:¬ ((1:Int) < 0):=by omega
  unfold Builtin.Slice.sliceAdjust
  simp only [h1,if_false]
  refine Prod.ext ?_ ?_
  · cases lo with
    | none=>rfl
    | some v=>exact U7 v n 0
  · cases hi with
    | none=>rfl
    | some v=>exact U7 v n n
theorem Ta (i j:Nat):Builtin.Slice.slicePlaces (i:Int) (j:Int) 1 = j - i:=by
  unfold Builtin.Slice.slicePlaces
  have h1:(1:Int) > 0:=by omega
  simp only [h1,if_true,Int.ediv_one]
  split <;> omega
theorem Gj {v:Value} {o:Option Int} {Q:Option Int → Shared → Prop} (p:IsPart v o) (h:Q o s):wpAny (model prog w) A (Builtin.Slice.slicePartIndex v) Q E s:=by
  cases p with
  | none=>exact slicePart_none h
  | int i t=>exact slicePart_int h
theorem Hb {sl:Addr} {vl vu:Value} {lo hi:Option Int} {n:Nat} {Q:Int × Int × Nat → Shared → Prop} (hs:s.heap.IsSliceOf sl vl vu .none) (pl:IsPart vl lo) (pu:IsPart vu hi)
    (h:Q (((sIx n 0 lo:Nat):Int),1,sIx n n hi - sIx n 0 lo) s):wpAny (model prog w) A (Builtin.Slice.sliceApplied (.ref sl) (pure (n:Int))) Q E s:=by
  obtain ⟨os,hos,hcs,hds⟩:=id hs
  unfold Builtin.Slice.sliceApplied Builtin.Slice.sliceFields
  refine wpAny_bind (wpAny_bind (wpAny_field hos hds (x:=vl) rfl (wpAny_bind (wpAny_field hos hds (x:=vu) rfl (wpAny_bind (wpAny_field hos hds (x:=.none) rfl (wpAny_pure ?_)))))))
  refine wpAny_bind (slicePart_none ?_)
  show wpAny _ _ (if ((1:Int) == 0) = true then _ else _) _ _ s
  rw [if_neg (by decide)]
  refine wpAny_bind (Gj pl (wpAny_bind (Gj pu (wpAny_bind (wpAny_pure ?_)))))
  show wpAny _ _ (match Builtin.Slice.sliceAdjust lo hi 1 (n:Int) with | (lo,hi)=>pure (lo,(1:Int),Builtin.Slice.slicePlaces lo hi 1)) _ _ s
  rw [Ut lo hi n]
  show wpAny _ _ (pure (((sIx n 0 lo:Nat):Int),(1:Int),Builtin.Slice.slicePlaces ((sIx n 0 lo:Nat):Int) ((sIx n n hi:Nat):Int) 1)) _ _ s
  rw [Ta]
  exact wpAny_pure h
theorem Yc (xs:Array Value) (i k:Nat):((List.range k).filterMap fun (m:Nat)=>xs[((i:Int) + (m:Int) * 1).toNat]?).toArray = ((xs.toList.drop i).take k).toArray:=by
  have e:(fun (m:Nat)=>xs[((i:Int) + (m:Int) * 1).toNat]?) = fun m=>xs[i + m]?:=by
    funext m
    have:((i:Int) + (m:Int) * 1).toNat = i + m:=by omega
    rw [this]
  rw [e]
  have:=pick_run xs i k
  rw [List.filterMap_map] at this
  have e2:((fun x=>xs[x]?) ∘ fun x=>i + x) = fun m=>xs[i + m]?:=rfl
  rw [e2] at this
  rw [this]
theorem Kt {t sl:Addr} {items:Array Value} {vl vu:Value} {lo hi:Option Int} {Q:Value → Shared → Prop} (ht:IsTup s.heap t items) (hs:s.heap.IsSliceOf sl vl vu .none) (pl:IsPart vl lo) (pu:IsPart vu hi)
    (hw:¬ (sIx items.size 0 lo = 0 ∧ sIx items.size items.size hi = items.size))
    (h:Q (.ref s.heap.objs.size) { s with heap:=s.heap.push { cls:=.type "tuple",data:=.seq ((items.toList.drop (sIx items.size 0 lo)).take (sIx items.size items.size hi - sIx items.size 0 lo)).toArray } })
    (hsz:items.size ≤ sizeLine):wpAny (model prog w) A (getItem (.ref t) (.ref sl)) Q E s:=by
  have htake:sizeOk (.seq ((items.toList.drop (sIx items.size 0 lo)).take (sIx items.size items.size hi - sIx items.size 0 lo)).toArray):=by
    show ((items.toList.drop (sIx items.size 0 lo)).take (sIx items.size items.size hi - sIx items.size 0 lo)).toArray.size ≤ sizeLine
    rw [List.size_toArray,List.length_take,List.length_drop,Array.length_toList]
    omega
  have hj:sIx items.size items.size hi ≤ items.size:=Agb _ _ (Nat.le_refl _) hi
  obtain ⟨os,hos,hcs,hds⟩:=id hs
  have hTs:s.TypeIs (.ref sl) "slice" := ⟨os,hos,hcs⟩
  unfold getItem
  try with_reducible refine wpAny_holding ?_
  first | refine wpAny_bind (wpAny_pure ?_) | skip
  refine wpAny_bind (wpAny_sequenceKey ht.typeIs (by decide) ?_)
  refine wpAny_bind (wpAny_callSpecial?_slot (name:=Str.ofString "__getitem__") ht.typeIs PyProof.Rows.slot_tuple_getitem
    (wpAny_call_entry PyProof.Rows.slot_tuple_getitem ht.typeIs entry_tuple_getitem ?_ (args_tuple_getitem _ _)))
  show wpAny _ _ (Builtin.Tuple.tupleItemsOf (.ref t) >>= _) _ _ s
  refine wpAny_bind (tupleItemsOf_ ht ?_)
  refine wpAny_bind (wpAny_typeOf hTs ?_)
  rw [if_pos (by decide)]
  refine wpAny_bind (Hb hs pl pu ?_)
  have hno:¬ ((((sIx items.size 0 lo:Nat):Int) == 0 && (1:Int) == 1 && (sIx items.size items.size hi - sIx items.size 0 lo) == items.size) = true):=by
    intro q
    rw [Bool.and_eq_true,Bool.and_eq_true] at q
    have q1:((sIx items.size 0 lo:Nat):Int) = 0:=eq_of_beq q.1.1
    have q2:sIx items.size items.size hi - sIx items.size 0 lo = items.size:=eq_of_beq q.2
    exact hw ⟨by omega,by omega⟩
  show wpAny _ _ (if (((sIx items.size 0 lo:Nat):Int) == 0 && (1:Int) == 1 && (sIx items.size items.size hi - sIx items.size 0 lo) == items.size) = true then _ else _) _ _ s
  rw [if_neg hno,Yc]
  first
    | exact wpAny_bind (m:=Builtin.Tuple.tupleExact _) (wpAny_newObj_type (wpAny_pure ⟨_,rfl,wpAny_pure h⟩) htake)
    | exact wpAny_bind (m:=Builtin.Tuple.tupleExact _) (wpAny_newObj_type (wpAny_bind (wpAny_pure (wpAny_pure ⟨_,rfl,wpAny_pure h⟩))) htake)
    | exact wpAny_bind (wpAny_bind (m:=Builtin.Tuple.tupleExact _) (wpAny_newObj_type (wpAny_pure (wpAny_pure ⟨_,rfl,wpAny_pure h⟩)) htake))
    | exact wpAny_bind (wpAny_bind (m:=Builtin.Tuple.tupleExact _) (wpAny_newObj_type (wpAny_pure ⟨_,rfl,wpAny_pure h⟩) htake))
end
end HT
namespace L2
open PySem PySem.Spec PyProof.Rows
abbrev TO:=St → Hp → (Option Int → Hp → Prop) → Prop
def PO (X:Cx) (e:Option Expr) (t:TO):Prop:=
  ∀ (pins:List (Addr × Obj)) (s:Shared) (σ:St) (H:Hp) (Q:Option Int → Hp → Prop),Inv X pins σ H s → t σ H Q →
    wpAny (model X.prog X.w) X.A (evalPart e X.env) (fun u s'=>∃ o H',Inv X pins σ H' s' ∧ IsPart u o ∧ Q o H') X.xe s
def Adp:TO:=fun _ H Q=>Q none H
def Ai9 (t:TE):TO:=fun σ H Q=>t σ H fun x H1=>∃ i,x = .int i ∧ Q (some i) H1
theorem J6 {ns:List Int}:∀ {us:List Value},Vals (ns.map V.int) us → IntsAre us ns:=by
  induction ns with
  | nil=>intro us r; rw [List.map_nil] at r; cases r; exact .nil
  | cons n ns ih=>
    intro us r
    rw [List.map_cons] at r
    cases r with
    | cons r1 r2=>
      obtain ⟨t,e⟩:=r1
      subst e
      exact .cons n t (ih r2)
section
variable {X:Cx} {e:Expr} {te:TE} {lo hi:Option Expr} {tl th:TO} {pos p2:Pos}
theorem Ac2:PO X none Adp:=by
  intro pins s σ H Q I h
  rw [evalPart_none]
  exact wpAny_pure ⟨none,H,I,.none,h⟩
theorem Aee (h:PE X e te):PO X (some e) (Ai9 te):=by
  intro pins s σ H Q I hw
  rw [evalPart_some]
  refine thn (h pins s σ H _ I hw) fun u s1 ⟨x,H1,I1,r1,q1⟩=>?_
  obtain ⟨i,rfl,q⟩:=q1
  obtain ⟨t,rfl⟩:=r1
  exact ⟨some i,H1,I1,.int i t,q⟩
def SlR (X:Cx) (r:V → Option Int → Option Int → Hp → VK → Prop):Prop:=
  ∀ (pins:List (Addr × Obj)) (s:Shared) (σ:St) (H:Hp) (x:V) (v vl vu:Value) (lo hi:Option Int) (sl:Addr) (Q:VK),Inv X pins σ H s → RelV x v → s.heap.IsSliceOf sl vl vu .none → IsPart vl lo → IsPart vu hi → r x lo hi H Q →
    ∃ T id,typeLookup (.type T) "__getitem__" = pure (some (.builtin id)) ∧ s.TypeIs v T ∧ wpAny (model X.prog X.w) X.A (getItem v (.ref sl)) (EP X pins σ Q) X.xe s
theorem SlR.or {r r':V → Option Int → Option Int → Hp → VK → Prop} (h:SlR X r) (h':SlR X r'):SlR X (fun x lo hi H Q=>r x lo hi H Q ∨ r' x lo hi H Q):=by
  intro pins s σ H x v vl vu lo hi sl Q I rx hs pl pu q
  rcases q with q | q
  · exact h pins s σ H x v vl vu lo hi sl Q I rx hs pl pu q
  · exact h' pins s σ H x v vl vu lo hi sl Q I rx hs pl pu q
def tSl (r:V → Option Int → Option Int → Hp → VK → Prop) (te:TE) (tl th:TO):TE:=fun σ H Q=>te σ H fun x H1=>tl σ H1 fun l H2=>th σ H2 fun u H3=>r x l u H3 Q
theorem Aab {r:V → Option Int → Option Int → Hp → VK → Prop} (hr:SlR X r) (he:PE X e te) (hl:PO X lo tl) (hu:PO X hi th):PE X (.Subscript e (.Slice lo hi none p2) pos) (tSl r te tl th):=by
  intro pins s σ H Q I h
  refine Subscript_ (thn (he pins s σ H _ I h) fun v s1 ⟨x,H1,I1,r1,q1⟩=>?_)
  refine wpAny_Slice (thn (hl pins s1 σ H1 _ I1 q1) fun vl s2 ⟨l,H2,I2,pl,q2⟩=>thn (hu pins s2 σ H2 _ I2 q2) fun vu s3 ⟨u,H3,I3,pu,q3⟩=>?_)
  rw [evalPart_none]
  refine wpAny_pure ?_
  have I4:Inv X pins σ H3 { s3 with heap:=s3.heap.push { cls:=.type "slice",data:=.fields #[vl,vu,.none] } }:=I3.kept (t':=s3.toks) fun b ob q=>Heap.get?_push_of_some _ q
  obtain ⟨T,id,hT,ht,hg⟩:=hr pins { s3 with heap:=s3.heap.push { cls:=.type "slice",data:=.fields #[vl,vu,.none] } } σ H3 x v vl vu l u s3.heap.objs.size Q I4 r1 (Heap.IsSliceOf.new ..) pl pu q3
  show wpAny (model X.prog X.w) X.A (subscriptTail e (.Slice lo hi none p2) v (.ref s3.heap.objs.size)) (EP X pins σ Q) X.xe { s3 with heap:=s3.heap.push { cls:=.type "slice",data:=.fields #[vl,vu,.none] } }
  exact tail_any (ops:=[.ref s3.heap.objs.size,v]) ht hT hg (by with_unfolding_all rfl)
def Sc (xs:List V) (lo hi:Option Int):List V:=(xs.drop (HT.sIx xs.length 0 lo)).take (HT.sIx xs.length xs.length hi - HT.sIx xs.length 0 lo)
theorem Mc (xs:List V) (lo hi:Option Int):(Sc xs lo hi).length ≤ xs.length:=by
  unfold Sc
  rw [List.length_take,List.length_drop]
  omega
def Ain (K:PySem.W.Frag):V → Option Int → Option Int → Hp → VK → Prop:=fun x lo hi H Q=>∃ a xs,x = .ref a ∧ SqT K H a xs ∧
  ¬ (HT.sIx xs.length 0 lo = 0 ∧ HT.sIx xs.length xs.length hi = xs.length) ∧ ∀ p,H p = none → Q (.ref p) (upd H p (.tup (Sc xs lo hi)))
theorem Agx:SlR X (Ain X.K):=by
  intro pins s σ H x v vl vu lo hi sl Q I rx hs pl pu h
  obtain ⟨a,xs,rfl,hx,hw,q⟩:=h
  cases rx
  obtain ⟨its,r,ht,hz⟩:=I.tuple hx
  have hlen:its.toArray.size = xs.length:=by rw [List.size_toArray]; exact r.length.symm
  refine ⟨"tuple",_,PyProof.Rows.slot_tuple_getitem.lookup,ht.typeIs,?_⟩
  refine HT.Kt ht hs pl pu (by rw [hlen]; exact hw) ?_ (by rw [hlen]; exact hz)
  rw [hlen]
  refine ⟨.ref s.heap.objs.size,_,I.laid (t':=s.toks) (o:=.tup (Sc xs lo hi)) (fun b ob q=>Heap.get?_push_of_some _ q) (Nat.le_refl _) ?_,rfl,q _ (I.hok.fresh (Nat.le_refl _))⟩
  exact ⟨Nat.le_trans (Mc xs lo hi) hz,_,(r.drop (HT.sIx xs.length 0 lo)).take (HT.sIx xs.length xs.length hi - HT.sIx xs.length 0 lo),IsTup.new _ _⟩
def Aeh (K:PySem.W.Frag):R2:=fun x y H Q=>∃ a b xs ys,x = .ref a ∧ y = .ref b ∧ SqT K H a xs ∧ SqT K H b ys ∧ xs ≠ [] ∧ xs.length + ys.length ≤ sizeLine ∧
  (ys = [] → Q (.ref a) H) ∧ (ys ≠ [] → ∀ p,H p = none → Q (.ref p) (upd H p (.tup (xs ++ ys))))
theorem Vals.nil_iff {xs:List V} {us:List Value} (r:Vals xs us):us = [] ↔ xs = []:=by
  cases r with
  | nil=>simp
  | cons _ _=>simp
theorem Aca:OpR X (binaryOp .Add) (Aeh X.K):=by
  intro pins s σ H x y v u Q I rx ry h
  obtain ⟨a,b,xs,ys,rfl,rfl,ha,hb,hx,hz,q1,q2⟩:=h
  cases rx
  cases ry
  obtain ⟨its,r1,p1,_⟩:=I.tuple ha
  obtain ⟨its2,r2,p2,_⟩:=I.tuple hb
  refine HT.Acd p1 p2 (fun z=>hx (r1.nil_iff.mp z)) (fun z=>⟨.ref a,H,I,rfl,q1 (r2.nil_iff.mp z)⟩) (fun z=>?_) (by rw [← r1.length,← r2.length]; exact hz)
  refine ⟨.ref s.heap.objs.size,_,I.laid (t':=s.toks) (o:=.tup (xs ++ ys)) (fun b ob q=>Heap.get?_push_of_some _ q) (Nat.le_refl _) ?_,rfl,q2 (fun w=>z (r2.nil_iff.mpr w)) _ (I.hok.fresh (Nat.le_refl _))⟩
  exact ⟨by rw [List.length_append]; exact hz,_,r1.append r2,IsTup.new _ _⟩
end
end L2
namespace L2
open PySem PySem.Spec PyProof.Rows
def ixN (n:Nat) (i:Int):Option Nat:=if 0 ≤ i then (if i < n then some i.toNat else none) else if -(n:Int) ≤ i then some (i + n).toNat else none
def atI {α:Type} (xs:List α) (i:Int):Option α:=(ixN xs.length i).bind fun j=>xs[j]?
theorem U0 {n:Nat} {i:Int} {j:Nat} (h:ixN n i = some j):seqIndex? i n = some j ∧ j < n ∧ -(n:Int) ≤ i ∧ i < n:=by
  unfold ixN at h
  by_cases h0:0 ≤ i
  · rw [if_pos h0] at h
    by_cases h1:i < n
    · rw [if_pos h1] at h
      have e:i.toNat = j:=Option.some.inj h
      exact ⟨by rw [seqIndex_of h0 h1,e],by omega,by omega,h1⟩
    · rw [if_neg h1] at h; cases h
  · rw [if_neg h0] at h
    by_cases h1:-(n:Int) ≤ i
    · rw [if_pos h1] at h
      have e:(i + n).toNat = j:=Option.some.inj h
      exact ⟨by rw [seqIndex_neg (by omega) h1,e],by omega,h1,by omega⟩
    · rw [if_neg h1] at h; cases h
theorem Qm {α:Type} {xs:List α} {i:Int} {v:α} (h:atI xs i = some v):∃ j,seqIndex? i xs.length = some j ∧ xs[j]? = some v ∧ j < xs.length ∧ -(xs.length:Int) ≤ i ∧ i < xs.length:=by
  unfold atI at h
  cases e:ixN xs.length i with
  | none=>rw [e] at h; cases h
  | some j=>
    rw [e] at h
    obtain ⟨h1,h2,h3,h4⟩:=U0 e
    exact ⟨j,h1,h,h2,h3,h4⟩
def Vy (b:Expr):Prop:=∀ o i,subscripted b false o i = operate [o,i] (getItem o i)
def IxR (X:Cx) (r:R2):Prop:=
  ∀ (value slice:Expr) (pins:List (Addr × Obj)) (s:Shared) (σ:St) (H:Hp) (x y:V) (v u:Value) (Q:VK),Inv X pins σ H s → RelV x v → RelV y u → r x y H Q →
    subscripted slice false v u = operate [v,u] (getItem v u) → wpAny (model X.prog X.w) X.A (subscriptTail value slice v u) (EP X pins σ Q) X.xe s
def MtR (X:Cx) (id:String) (r:V → List V → Hp → VK → Prop):Prop:=
  ∀ (pins:List (Addr × Obj)) (s:Shared) (σ:St) (H:Hp) (x:V) (xs:List V) (v:Value) (us:List Value) (Q:VK),Inv X pins σ H s → RelV x v → Vals xs us → r x xs H Q →
    wpAny (model X.prog X.w) X.A (call (.builtin id) (v :: us)) (EP X pins σ Q) X.xe s
section
variable {X:Cx} {a b:Expr} {ta tb:TE} {pos:Pos}
theorem IxR.or {r r':R2} (h:IxR X r) (h':IxR X r'):IxR X (fun x y H Q=>r x y H Q ∨ r' x y H Q):=by
  intro value slice pins s σ H x y v u Q I rx ry q hs
  rcases q with q | q
  · exact h value slice pins s σ H x y v u Q I rx ry q hs
  · exact h' value slice pins s σ H x y v u Q I rx ry q hs
theorem MtR.or {id:String} {r r':V → List V → Hp → VK → Prop} (h:MtR X id r) (h':MtR X id r'):MtR X id (fun x xs H Q=>r x xs H Q ∨ r' x xs H Q):=by
  intro pins s σ H x xs v us Q I rx rs q
  rcases q with q | q
  · exact h pins s σ H x xs v us Q I rx rs q
  · exact h' pins s σ H x xs v us Q I rx rs q
theorem Ajj {r:R2} (hr:IxR X r) (ha:PE X a ta) (hb:PE X b tb) (hs:Vy b):PE X (.Subscript a b pos) (tOp r ta tb):=by
  intro pins s σ H Q I h
  exact Subscript_ (Ahf ha hb I h fun v u s2 x y H2 I2 rx ry q=>hr a b pins s2 σ H2 x y v u Q I2 rx ry q (hs _ _))
def Ah6 (K:PySem.W.Frag):R2:=fun x y H Q=>∃ p xs i v,x = .ref p ∧ y = .int i ∧ SqL K H p xs ∧ atI xs i = some v ∧ Q v H
def Aii (K:PySem.W.Frag):R2:=fun x y H Q=>∃ p xs i v,x = .ref p ∧ y = .int i ∧ SqT K H p xs ∧ atI xs i = some v ∧ Q v H
def Ajl:R2:=fun x y H Q=>∃ z i c,x = .str z ∧ y = .int i ∧ z.length ≤ sizeLine ∧ atI z.cps.toList i = some c ∧ Q (.str ⟨#[c]⟩) H
theorem Adh:IxR X (Ah6 X.K):=by
  intro value slice pins s σ H x y v u Q I rx ry h hs
  obtain ⟨p,xs,i,z,rfl,rfl,hq,he,q⟩:=h
  cases rx
  obtain ⟨t,rfl⟩:=ry
  obtain ⟨its,r,pl,hz⟩:=I.list hq
  obtain ⟨j,h1,h2,h3,h4,h5⟩:=Qm he
  obtain ⟨w,ew,rw'⟩:=r.get h2
  have hl:=r.length
  have hn:=K9
  have fin:EP X pins σ Q w s:=⟨z,H,I,rw',q⟩
  by_cases h0:0 ≤ i
  · have hj:i.toNat = j:=by
      rw [seqIndex_of h0 h5] at h1
      exact Option.some.inj h1
    exact item_listR pl.isList h0 (by omega) (by rw [hj]; simpa using ew) fin hs
  · have hj:(i + (its.toArray.size:Int)).toNat = j:=by
      rw [seqIndex_neg (by omega) h4] at h1
      rw [List.size_toArray,← hl]
      exact Option.some.inj h1
    exact subscriptTail_builtinR (x:=w) pl.isList.typeIs slot_list_getitem.lookup
      (wpAny_getItem_list_neg (Q:=fun r s'=>r = w ∧ EP X pins σ Q r s') pl.isList (by omega) (by rw [List.size_toArray] <;> omega) (by omega) (by rw [hj]; simpa using ew) ⟨rfl,fin⟩) hs
theorem Afi:IxR X (Aii X.K):=by
  intro value slice pins s σ H x y v u Q I rx ry h hs
  obtain ⟨p,xs,i,z,rfl,rfl,hq,he,q⟩:=h
  cases rx
  obtain ⟨t,rfl⟩:=ry
  obtain ⟨its,r,pl,hz⟩:=I.tuple hq
  obtain ⟨j,h1,h2,h3,h4,h5⟩:=Qm he
  obtain ⟨w,ew,rw'⟩:=r.get h2
  have hl:=r.length
  have hn:=K9
  have fin:EP X pins σ Q w s:=⟨z,H,I,rw',q⟩
  exact subscriptTail_builtinR (x:=w) pl.typeIs slot_tuple_getitem.lookup
    (getItem_tuple (j:=j) (Q:=fun r s'=>r = w ∧ EP X pins σ Q r s') pl (by omega) (by omega) (by rw [List.size_toArray,← hl]; exact h1) (by simpa using ew) ⟨rfl,fin⟩) hs
theorem Ahn:IxR X Ajl:=by
  intro value slice pins s σ H x y v u Q I rx ry h hs
  obtain ⟨z,i,c,rfl,rfl,hz,he,q⟩:=h
  obtain ⟨t,rfl⟩:=rx
  obtain ⟨t',rfl⟩:=ry
  obtain ⟨j,h1,h2,h3,h4,h5⟩:=Qm he
  have hl:z.cps.toList.length = z.length:=by simp [Str.length]
  rw [hl] at h1 h4 h5
  have hn:=K9
  exact tail_any (typeIs_str s z t) slot_str_getitem.lookup (getItem_str (c:=c) (by
    have e1:decide (i < -(2 ^ 63:Int)) = false:=decide_eq_false (by omega)
    have e2:decide (i ≥ 2 ^ 63) = false:=decide_eq_false (by omega)
    rw [e1,e2,Bool.or_false]) (by rw [h1]; simpa using h2) ⟨.str ⟨#[c]⟩,H,I.tok _,⟨_,rfl⟩,q⟩) hs
def rIx (K:PySem.W.Frag):R2:=fun x y H Q=>Ah6 K x y H Q ∨ Aii K x y H Q ∨ Ajl x y H Q
theorem Bh:IxR X (rIx X.K):=Adh.or (Afi.or Ahn)
theorem Tc (its:List Value) (n j:Nat) (u:Value):Obj.mapSeq (·.setIfInBounds j u) { cls:=.type "list",data:=.seq its.toArray n } = { cls:=.type "list",data:=.seq (its.set j u).toArray n }:=by
  simp [Obj.mapSeq]
theorem Inv.lst {pins:List (Addr × Obj)} {σ:St} {H:Hp} {s:Shared} {p:Addr} {xs:List V} (I:Inv X pins σ H s) (h:H p = some (.lst xs)) :
    ∃ (its:List Value) (n:Nat),Vals xs its ∧ s.heap.get? p = some { cls:=.type "list",data:=.seq its.toArray n } ∧ xs.length ≤ sizeLine:=by
  obtain ⟨z,its,n,r,e⟩:=I.hok p _ h
  exact ⟨its,n,r,e,z⟩
theorem Inv.lstUpd {pins:List (Addr × Obj)} {σ:St} {H:Hp} {s:Shared} {p:Addr} {xs ys:List V} {its its':List Value} {n n':Nat} {f:Obj → Obj} (I:Inv X pins σ H s) (h:H p = some (.lst xs))
    (ho:s.heap.get? p = some { cls:=.type "list",data:=.seq its.toArray n }) (hf:f { cls:=.type "list",data:=.seq its.toArray n } = { cls:=.type "list",data:=.seq its'.toArray n' }) (r:Vals ys its') (hz:ys.length ≤ sizeLine) (t:Nat) :
    Inv X pins σ (upd H p (.lst ys)) { s with heap:=s.heap.update p f,toks:=t }:=by
  have e:(s.heap.update p f).get? p = some { cls:=.type "list",data:=.seq its'.toArray n' }:=by
    rw [Heap.get?_update_self f ho (by rw [hf] <;> rfl),hf]
  refine I.write (x:=p) (e:=p) (by rw [h]; trivial) (.inl rfl) (fun b u hb q=>(Heap.get?_update_other _ _ (Ne.symm hb)).trans q) ⟨_,e⟩ ?_
  exact ⟨hz,its',n',r,e⟩
def Ai8:V → V → V → Hp → (Hp → Prop) → Prop:=fun o i v H Q=>∃ p xs k j,o = .ref p ∧ i = .int k ∧ H p = some (.lst xs) ∧ ixN xs.length k = some j ∧ Q (upd H p (.lst (xs.set j v)))
theorem X8:Ahr X Ai8:=by
  intro pins s σ H o i v ov iv u Q I ro ri rv h
  obtain ⟨p,xs,k,j,rfl,rfl,hp,hj,q⟩:=h
  cases ro
  obtain ⟨t,rfl⟩:=ri
  obtain ⟨its,n,r,ho,hz⟩:=I.lst hp
  obtain ⟨h1,h2,h3,h4⟩:=U0 hj
  have hl:=r.length
  have hn:=K9
  have I':Inv X pins σ (upd H p (.lst (xs.set j v))) { s with heap:=s.heap.update p (Obj.mapSeq (·.setIfInBounds j u)) }:=
    I.lstUpd hp ho (Tc its n j u) (r.set rv j) (by rw [List.length_set]; exact hz) s.toks
  by_cases h0:0 ≤ k
  · have hk:k.toNat = j:=by
      rw [seqIndex_of h0 h4] at h1
      exact Option.some.inj h1
    exact PySem.W.ki_setAt ho h0 (by omega) (by rw [List.size_toArray,← hl]; exact h4) (by rw [hk]; exact ⟨_,I',q⟩)
  · have hk:(k + (its.toArray.size:Int)).toNat = j:=by
      rw [seqIndex_neg (by omega) h3] at h1
      rw [List.size_toArray,← hl]
      exact Option.some.inj h1
    exact PySem.W.ki_setBack ho (by omega) (by rw [List.size_toArray,← hl]; exact h3) (by omega) (by rw [hk]; exact ⟨_,I',q⟩)
theorem Qx (lo hi:Option Int) (n:Nat):(sliceBounds lo hi none n).1 = ((HT.sIx n 0 lo:Nat):Int) ∧ (sliceBounds lo hi none n).2.1 = ((HT.sIx n n hi:Nat):Int) ∧ (sliceBounds lo hi none n).2.2 = 1:=by
  refine ⟨?_,?_,rfl⟩
  · cases lo with
    | none=>simp [sliceBounds,HT.sIx]
    | some i=>
      simp only [sliceBounds,HT.sIx,Option.getD_none,show (1:Int) > 0 by decide,if_true]
      by_cases h:i < 0
      · simp only [h,if_true] <;> omega
      · simp only [h,if_false] <;> omega
  · cases hi with
    | none=>simp [sliceBounds,HT.sIx]
    | some i=>
      simp only [sliceBounds,HT.sIx,Option.getD_none,show (1:Int) > 0 by decide,if_true]
      by_cases h:i < 0
      · simp only [h,if_true] <;> omega
      · simp only [h,if_false] <;> omega
theorem Pa (its:List Value) (lo hi:Option Int):slicePick its.toArray lo hi none = ((its.drop (HT.sIx its.length 0 lo)).take (HT.sIx its.length its.length hi - HT.sIx its.length 0 lo)).toArray:=by
  obtain ⟨h1,h2,h3⟩:=Qx lo hi its.toArray.size
  unfold slicePick
  rw [h1,h2,h3]
  simp only [sliceRange_one,pick_run,List.size_toArray] <;> rfl
def Aih (K:PySem.W.Frag):V → Option Int → Option Int → Hp → VK → Prop:=fun x lo hi H Q=>∃ a xs,x = .ref a ∧ SqL K H a xs ∧ ∀ p,H p = none → Q (.ref p) (upd H p (.lst (Sc xs lo hi)))
theorem Adi:SlR X (Aih X.K):=by
  intro pins s σ H x v vl vu lo hi sl Q I rx hs pl pu h
  obtain ⟨a,xs,rfl,hx,q⟩:=h
  cases rx
  obtain ⟨its,r,ht,hz⟩:=I.list hx
  have hlen:=r.length
  refine ⟨"list",_,slot_list_getitem.lookup,ht.isList.typeIs,?_⟩
  refine wpAny_getItem_list_slice ht.isList hs pl pu .none (by simp) ?_ (by rw [List.size_toArray] <;> omega)
  rw [Pa,← hlen]
  refine ⟨.ref s.heap.objs.size,_,I.laid (t':=s.toks) (o:=.lst (Sc xs lo hi)) (fun b ob q=>Heap.get?_push_of_some _ q) (Nat.le_refl _) ?_,rfl,q _ (I.hok.fresh (Nat.le_refl _))⟩
  exact ⟨Nat.le_trans (Mc xs lo hi) hz,_,0,(r.drop (HT.sIx xs.length 0 lo)).take (HT.sIx xs.length xs.length hi - HT.sIx xs.length 0 lo),Heap.get?_push_size _ rfl⟩
def Js:V → Bool
  | .non=>true
  | .bl _=>true
  | .int _=>true
  | .str _=>true
  | _=>false
def eqV:V → V → Bool
  | .non,.non=>true
  | .bl a,.bl b=>a == b
  | .bl a,.int b=>(if a then 1 else 0) == b
  | .int a,.bl b=>a == (if b then 1 else 0)
  | .int a,.int b=>a == b
  | .str a,.str b=>a == b
  | _,_=>false
theorem Af9 {A:Around} {s:Shared} {y x:V} {u v:Value} (ry:RelV y u) (rx:RelV x v) (fy:Js y = true) (fx:Js x = true):SeqAt.EqAt A s u v (eqV y x):=by
  cases y with
  | non=>
    cases ry
    cases x with
    | non=>cases rx; exact SeqAt.EqAt.same _
    | bl b=>cases rx; exact SeqAt.EqAt.none_bool b
    | int b=>obtain ⟨t,rfl⟩:=rx; exact SeqAt.EqAt.none_int b t
    | str b=>obtain ⟨t,rfl⟩:=rx; exact SeqAt.EqAt.none_str b t
    | _=>exact absurd (show false = true from fx) Bool.false_ne_true
  | bl a=>
    cases ry
    cases x with
    | non=>cases rx; exact SeqAt.EqAt.bool_none a
    | bl b=>cases rx; exact SeqAt.EqAt.bool_bool a b
    | int b=>obtain ⟨t,rfl⟩:=rx; exact SeqAt.EqAt.bool_int a b t
    | str b=>obtain ⟨t,rfl⟩:=rx; exact SeqAt.EqAt.bool_str a b t
    | _=>exact absurd (show false = true from fx) Bool.false_ne_true
  | int a=>
    obtain ⟨t',rfl⟩:=ry
    cases x with
    | non=>cases rx; exact SeqAt.EqAt.int_none a t'
    | bl b=>cases rx; exact SeqAt.EqAt.int_bool a t' b
    | int b=>obtain ⟨t,rfl⟩:=rx; exact SeqAt.EqAt.int_int a t' b t
    | str b=>obtain ⟨t,rfl⟩:=rx; exact SeqAt.EqAt.int_str a t' b t
    | _=>exact absurd (show false = true from fx) Bool.false_ne_true
  | str a=>
    obtain ⟨t',rfl⟩:=ry
    cases x with
    | non=>cases rx; exact SeqAt.EqAt.str_none a t'
    | bl b=>cases rx; exact SeqAt.EqAt.str_bool a t' b
    | int b=>obtain ⟨t,rfl⟩:=rx; exact SeqAt.EqAt.str_int a t' b t
    | str b=>obtain ⟨t,rfl⟩:=rx; exact SeqAt.EqAt.str_str a t' b t
    | _=>exact absurd (show false = true from fx) Bool.false_ne_true
  | _=>exact absurd (show false = true from fy) Bool.false_ne_true
def eqU (x:V) (u:Value):Bool:=match u with
  | .none=>eqV .non x
  | .bool b=>eqV (.bl b) x
  | .int i _=>eqV (.int i) x
  | .str z _=>eqV (.str z) x
  | _=>false
theorem Aa2 {x y:V} {u:Value} (r:RelV y u) (f:Js y = true):eqU x u = eqV y x:=by
  cases y with
  | non=>cases r; rfl
  | bl b=>cases r; rfl
  | int i=>obtain ⟨t,rfl⟩:=r; rfl
  | str z=>obtain ⟨t,rfl⟩:=r; rfl
  | _=>exact absurd (show false = true from f) Bool.false_ne_true
theorem Re {x:V}:∀ {xs:List V} {us:List Value},Vals xs us → xs.all Js = true → us.any (eqU x) = xs.any fun y=>eqV y x
  | _,_,.nil,_=>rfl
  | y :: xs,u :: us,.cons r t,f=>by
    rw [List.all_cons,Bool.and_eq_true] at f
    rw [List.any_cons,List.any_cons,Aa2 r f.1,Re t f.2]
theorem Nb {A:Around} {s:Shared} {x:V} {v:Value} (rx:RelV x v) (fx:Js x = true):∀ {xs:List V} {us:List Value},Vals xs us → xs.all Js = true → ∀ u ∈ us,SeqAt.EqAt A s u v (eqU x u)
  | _,_,.nil,_=>fun u hu=>by cases hu
  | y :: xs,u :: us,.cons r t,f=>fun u' hu=>by
    rw [List.all_cons,Bool.and_eq_true] at f
    rcases List.mem_cons.mp hu with rfl | hu
    · rw [Aa2 r f.1]; exact Af9 r rx f.1 fx
    · exact Nb rx fx t f.2 u' hu
def inV (x:V) (xs:List V):Bool:=xs.any fun y=>eqV y x
def rIn (K:PySem.W.Frag) (neg:Bool):R2:=fun x y H Q=>∃ p xs,y = .ref p ∧ (SqL K H p xs ∨ SqT K H p xs) ∧ Js x = true ∧ xs.all Js = true ∧ Q (.bl (if neg then !inV x xs else inV x xs)) H
theorem W6:OpR X (compareOp .In) (rIn X.K false):=by
  intro pins s σ H x y v u Q I rx ry h
  obtain ⟨p,xs,rfl,hq,fx,fs,q⟩:=h
  cases ry
  rcases hq with hq | hq
  · obtain ⟨its,r,pl,hz⟩:=I.list hq
    refine SeqAt.in_listAt (eqU x) pl.isList (fun w hw=>Nb rx fx r fs w (by simpa using hw)) ⟨.bl _,H,I,rfl,?_⟩
    rw [show its.toArray.any (eqU x) = its.any (eqU x) by simp,Re r fs]
    exact q
  · obtain ⟨its,r,pl,hz⟩:=I.tuple hq
    refine SeqAt.in_tupleAt (eqU x) pl (fun w hw=>Nb rx fx r fs w (by simpa using hw)) ⟨.bl _,H,I,rfl,?_⟩
    rw [show its.toArray.any (eqU x) = its.any (eqU x) by simp,Re r fs]
    exact q
theorem CallR.or {f:Value} {r r':List V → Hp → VK → Prop} (h:CallR X f r) (h':CallR X f r'):CallR X f (fun xs H Q=>r xs H Q ∨ r' xs H Q):=by
  intro pins s σ H xs us Q I rs q
  rcases q with q | q
  · exact h pins s σ H xs us Q I rs q
  · exact h' pins s σ H xs us Q I rs q
theorem Q3:CallR X (.type "list") (fun xs H Q=>∃ p ys,xs = [.ref p] ∧ (SqL X.K H p ys ∨ SqT X.K H p ys) ∧ ∀ l,H l = none → Q (.ref l) (upd H l (.lst ys))):=by
  intro pins s σ H xs us Q I r h
  obtain ⟨p,ys,rfl,hq,q⟩:=h
  obtain ⟨u,rfl,rx⟩:=Ia r
  cases rx
  have fin:∀ (its:List Value),Vals ys its → ys.length ≤ sizeLine → ∀ (h':Heap) (c':Nat),(∀ b o',s.heap.get? b = some o' → h'.get? b = some o') →
      h'.get? s.heap.objs.size = some { cls:=.type "list",dict:=none,data:=.seq its.toArray c',slots:=#[] } → EP X pins σ Q (.ref s.heap.objs.size) { s with heap:=h' }:=fun its r' hz h' c' kp e=>
    ⟨.ref s.heap.objs.size,_,I.laid (t':=s.toks) kp (Nat.le_refl _) (show ObjOk X.prog X.w _ h' _ (.lst ys) from ⟨hz,its,c',r',e⟩),rfl,q _ (I.hok.fresh (Nat.le_refl _))⟩
  rcases hq with hq | hq
  · obtain ⟨its,r',pl,hz⟩:=I.list hq
    have hlen:=r'.length
    obtain ⟨o,ho,hc,n,hd⟩:=pl.isList
    exact call_list_seq p (.inl rfl) ho hc hd (fun h' c' kp e=>fin its r' hz h' c' kp e) (by simp only [List.size_toArray] <;> omega)
  · obtain ⟨its,r',pl,hz⟩:=I.tuple hq
    have hlen:=r'.length
    obtain ⟨o,ho,hc,n,hd⟩:=pl
    exact call_list_seq p (.inr rfl) ho hc hd (fun h' c' kp e=>fin its r' hz h' c' kp e) (by simp only [List.size_toArray] <;> omega)
theorem Bf:CallR X (.type "tuple") (fun xs H Q=>∃ p ys,xs = [.ref p] ∧ ((SqL X.K H p ys ∧ ∀ l,H l = none → Q (.ref l) (upd H l (.tup ys))) ∨ (SqT X.K H p ys ∧ Q (.ref p) H))):=by
  intro pins s σ H xs us Q I r h
  obtain ⟨p,ys,rfl,h⟩:=h
  obtain ⟨u,rfl,rx⟩:=Ia r
  cases rx
  rcases h with ⟨hq,q⟩ | ⟨hq,q⟩
  · obtain ⟨its,r',pl,hz⟩:=I.list hq
    have hlen:=r'.length
    refine call_tuple_list pl.isList (fun h' kp=>?_) (by simp only [List.size_toArray] <;> omega)
    have I1:Inv X pins σ H { s with heap:=h' }:=I.kept (t':=s.toks) kp
    have I2:Inv X pins σ (upd H h'.objs.size (.tup ys)) { s with heap:=h'.push { cls:=.type "tuple",data:=.seq its.toArray } }:=
      I1.laid (t':=s.toks) (fun b o e=>Heap.get?_push_of_some _ e) (Nat.le_refl _) (show ObjOk X.prog X.w _ _ _ (.tup ys) from ⟨hz,its,r',IsTup.new _ _⟩)
    exact ⟨.ref h'.objs.size,_,I2,rfl,q _ (I1.hok.fresh (Nat.le_refl _))⟩
  · obtain ⟨its,r',pl,hz⟩:=I.tuple hq
    exact call_tuple_same pl ⟨.ref p,H,I,rfl,q⟩
def tyV (K:PySem.W.Frag) (T:String) (x:V) (H:Hp):Prop:=match x with
  | .str _=>T = "str"
  | .int _=>T = "int"
  | .ref p=>(T = "list" ∧ ∃ xs,SqL K H p xs) ∨ (T = "tuple" ∧ ∃ o,K.lookup p = some o ∧ o.cls = .type "tuple" ∧ o.dict = none) ∨
      (T = "dict" ∧ ((∃ kvs,H p = some (.dK kvs)) ∨ ∃ kvs,H p = some (.dT kvs))) ∨ (T = "set" ∧ ∃ S n,H p = some (.set S n))
  | _=>False
theorem Ahk {pins:List (Addr × Obj)} {σ:St} {H:Hp} {s:Shared} {T:String} {x:V} {v:Value} (I:Inv X pins σ H s) (r:RelV x v) (ty:tyV X.K T x H) :
    s.TypeIs v T ∧ ∀ a,v = .ref a → ∃ ob,s.heap.get? a = some ob ∧ ob.dict = none:=by
  cases x with
  | str z=>
    obtain ⟨t,rfl⟩:=r
    cases (show T = "str" from ty)
    exact ⟨typeIs_str s z t,fun _ e=>nomatch e⟩
  | int i=>
    obtain ⟨t,rfl⟩:=r
    cases (show T = "int" from ty)
    exact ⟨typeIs_int s i t,fun _ e=>nomatch e⟩
  | ref p=>
    cases r
    rcases ty with ⟨rfl,xs,hq⟩ | ⟨rfl,o,hk,hc,hd⟩ | ⟨rfl,hk⟩ | ⟨rfl,S,n,hk⟩
    · obtain ⟨its,_,pl,_⟩:=I.list hq
      refine ⟨pl.isList.typeIs,fun a e=>?_⟩
      cases e
      obtain ⟨o,n,e,c,hd,_⟩:=pl
      exact ⟨o,e,hd⟩
    · refine ⟨⟨o,I.kIn p o hk,hc⟩,fun a e=>?_⟩
      cases e
      exact ⟨o,I.kIn _ o hk,hd⟩
    · have z:∃ o,s.heap.get? p = some o ∧ o.ExactDict:=by
        rcases hk with ⟨kvs,hk⟩ | ⟨kvs,hk⟩
        · obtain ⟨_,_,_,_,o,_,_,e,ex,_⟩:=I.hok p _ hk
          exact ⟨o,e,ex⟩
        · obtain ⟨_,_,_,_,o,_,_,e,ex,_⟩:=I.hok p _ hk
          exact ⟨o,e,ex⟩
      obtain ⟨o,e,ex⟩:=z
      refine ⟨⟨o,e,ex.1⟩,fun a e2=>?_⟩
      cases e2
      exact ⟨o,e,ex.2.1⟩
    · obtain ⟨o,_,_,_,e,ex,_⟩:=I.hok p _ hk
      refine ⟨⟨o,e,ex.1⟩,fun a e2=>?_⟩
      cases e2
      exact ⟨o,e,ex.2.1⟩
  | _=>exact False.elim ty
def tBM (K:PySem.W.Frag) (T:String) (r:V → List V → Hp → VK → Prop) (to:TE) (t:TA):TE:=fun σ H Q=>to σ H fun x H1=>tyV K T x H1 ∧ t σ H1 fun xs H2=>r x xs H2 Q
variable {o e:Expr} {es:List Expr} {to:TE} {t:TA} {name:Str} {apos cpos:Pos} {T id:String} {r:V → List V → Hp → VK → Prop}
theorem Aip (pa:PlainAttrs T) (slot:Slot T name id) (hty:typeOf (.builtin id) = pure (.type "method_descriptor")) (hm:MtR X id r) (ho:PE X o to) (ha:PA X (e :: es) t)
    (hbase:attributeBase o name X.env (eval o X.env) = eval o X.env:=by rfl)
    (hfew:((backTo cpos (starEach (e :: es) X.env)).all (fun x=>!x.1) && (backToKw cpos (keywordEach [] X.env)).all (fun x=>x.1.isSome)
      && decide ((e :: es).length + ([]:List Keyword).length + (if ([]:List Keyword).isEmpty then 0 else 1) < 30)) = true:=by rfl)
    (hline:(apos.endLine == cpos.line) = true:=by rfl) (hs:starEach (e :: es) X.env = (false,eval e X.env) :: starEach es X.env:=by rfl) (hplain:(backTo cpos (starEach es X.env)).any (·.1) = false:=by rfl) :
    PE X (.Call (.Attribute o name apos) (e :: es) [] cpos) (tBM X.K T r to t):=by
  intro pins s σ H Q I h
  refine wpAny_Call_method_late hbase hfew hline rfl (thn (ho pins s σ H _ I h) fun v s1 ⟨x,H1,I1,r1,ty,q1⟩=>?_)
  obtain ⟨h1,h2⟩:=Ahk I1 r1 ty
  refine ⟨T,id,pa,slot,hty,h1,h2,?_⟩
  have hA:=ha cpos pins s1 σ H1 _ I1 q1
  rw [hs] at hA ⊢
  refine Calls.callWith_builtin (by show (false || (backTo cpos (starEach es X.env)).any (·.1)) = false; rw [hplain] <;> rfl) (Calls.evalArgs_plain ?_)
  exact thn hA fun us s2 ⟨vs,H2,I2,r2,q2⟩=>hm pins s2 σ H2 x vs v us Q I2 r1 r2 q2
end
end L2
namespace L2
open PySem PySem.Spec PyProof.Rows
def MtM (X:Cx) (id:String) (r:V → List V → Hp → VK → Prop):Prop:=
  ∀ (pins:List (Addr × Obj)) (s:Shared) (σ:St) (H:Hp) (x:V) (xs:List V) (v:Value) (us:List Value) (Q:VK),Inv X pins σ H s → RelV x v → Vals xs us → r x xs H Q →
    wpAny (model X.prog X.w) X.A (call (.builtin id) (v :: us)) (EP X pins σ Q) X.xe s
theorem Vals.one:∀ {x:V} {us:List Value},Vals [x] us → ∃ u,us = [u] ∧ RelV x u
  | _,_,.cons r .nil=>⟨_,rfl,r⟩
theorem Vals.two:∀ {x y:V} {us:List Value},Vals [x,y] us → ∃ u v,us = [u,v] ∧ RelV x u ∧ RelV y v
  | _,_,_,.cons r (.cons q .nil)=>⟨_,_,rfl,r,q⟩
theorem Vals.zero:∀ {us:List Value},Vals [] us → us = []
  | _,.nil=>rfl
theorem Vals.dropLast {xs:List V} {us:List Value} (h:Vals xs us):Vals xs.dropLast us.dropLast:=by
  induction h with
  | nil=>exact .nil
  | cons r t ih=>
    cases t with
    | nil=>exact .nil
    | cons q t'=>exact .cons r ih
theorem Vals.eraseIdx:∀ {xs:List V} {us:List Value} (i:Nat),Vals xs us → Vals (xs.eraseIdx i) (us.eraseIdx i)
  | _,_,_,.nil=>.nil
  | _,_,0,.cons _ t=>t
  | _,_,i + 1,.cons r t=>.cons r (Vals.eraseIdx i t)
theorem Vals.reverse {xs:List V} {us:List Value} (h:Vals xs us):Vals xs.reverse us.reverse:=by
  induction h with
  | nil=>exact .nil
  | cons r t ih=>rw [List.reverse_cons,List.reverse_cons]; exact Vals.append ih (.cons r .nil)
theorem Vals.rep {xs:List V} {us:List Value} (h:Vals xs us):∀ k:Nat,Vals (List.replicate k xs).flatten (List.replicate k us).flatten
  | 0=>.nil
  | k + 1=>by
    rw [List.replicate_succ,List.replicate_succ,List.flatten_cons,List.flatten_cons]
    exact Vals.append h (Vals.rep h k)
theorem Pk {α:Type}:∀ (l:List α) (i:Nat),(l.eraseIdx i).length ≤ l.length
  | [],_=>Nat.le_refl _
  | _ :: _,0=>Nat.le_succ _
  | _ :: r,i + 1=>Nat.succ_le_succ (Pk r i)
theorem Qf (its:List Value):∀ (k:Nat) (acc:List Value),
    List.foldl (fun x1 x2=>x1 ++ x2) acc.toArray (List.replicate k its.toArray) = (acc ++ (List.replicate k its).flatten).toArray
  | 0,acc=>by simp
  | k + 1,acc=>by
    have e:acc.toArray ++ its.toArray = (acc ++ its).toArray:=by simp
    have e2:(acc ++ its) ++ (List.replicate k its).flatten = acc ++ (List.replicate (k + 1) its).flatten:=by
      rw [List.replicate_succ,List.flatten_cons,List.append_assoc]
    rw [← e2,← Qf its k (acc ++ its),← e,List.replicate_succ,List.foldl_cons]
section
variable {X:Cx} {pins:List (Addr × Obj)} {σ:St} {H:Hp} {s:Shared} {l b:Addr} {xs ys zs:List V}
theorem Inv.lset {its its':List Value} {n:Nat} {f:Array Value → Array Value} {t':Nat} (I:Inv X pins σ H s) (hH:H l = some (.lst xs))
    (e:s.heap.get? l = some { cls:=.type "list",data:=.seq its.toArray n }) (hf:f its.toArray = its'.toArray) (hv:Vals ys its') (hz:ys.length ≤ sizeLine) :
    Inv X pins σ (upd H l (.lst ys)) { s with heap:=s.heap.update l (Obj.mapSeq f),toks:=t' }:=by
  have q:=PySem.IsL.update e f
  rw [hf] at q
  refine I.write (x:=l) (e:=l) (by rw [hH]; exact trivial) (.inl rfl) (fun b' u hb hu=>(Heap.get?_update_other s.heap (Obj.mapSeq f) (Ne.symm hb)).trans hu) ⟨_,q⟩ ?_
  exact ⟨hz,its',_,hv,q⟩
theorem Inv.lnew {its:List Value} {t':Nat} (I:Inv X pins σ H s) (hv:Vals ys its) (hz:ys.length ≤ sizeLine) :
    Inv X pins σ (upd H s.heap.objs.size (.lst ys)) { s with heap:=s.heap.push { cls:=.type "list",data:=.seq its.toArray },toks:=t' }:=
  I.laid (fun _ _ q=>Heap.get?_push_of_some _ q) (Nat.le_refl _) ⟨hz,its,0,hv,Heap.get?_push_size _ rfl⟩
theorem Inv.fresh (I:Inv X pins σ H s):H s.heap.objs.size = none:=I.hok.fresh (Nat.le_refl _)
theorem Inv.lstM (I:Inv X pins σ H s) (hH:H l = some (.lst xs)):xs.length ≤ sizeLine ∧ ∃ (its:List Value) (n:Nat),Vals xs its ∧ xs.length = its.length ∧ s.heap.get? l = some { cls:=.type "list",data:=.seq its.toArray n }:=by
  obtain ⟨z,its,n,r,e⟩:=I.hok l _ hH
  exact ⟨z,its,n,r,r.length,e⟩
theorem Abi {n:Nat} (h:n ≤ sizeLine):Builtin.List.listTooLong n = false:=by
  unfold Builtin.List.listTooLong
  exact decide_eq_false (by omega)
end
section
variable {X:Cx}
def V6:V → List V → Hp → VK → Prop:=fun x vs H Q=>∃ l xs y,x = .ref l ∧ vs = [y] ∧ H l = some (.lst xs) ∧ xs.length < sizeLine ∧ Q .non (upd H l (.lst (xs ++ [y])))
theorem Hj:MtM X "list.append" V6:=by
  intro pins s σ H x vs v us Q I rx rv h
  obtain ⟨l,xs,y,rfl,rfl,hH,hz,q⟩:=h
  cases rx
  obtain ⟨u,rfl,ru⟩:=rv.one
  obtain ⟨z,its,n,r,hl,e⟩:=I.lstM hH
  refine call_meets F.slot_list_append ⟨_,e,rfl⟩ F.entry_list_append (F.args_list_append_2 _ _) (PySem.list_append l its.toArray n u (by rw [List.size_toArray]; omega)) ⟨e,?_⟩
  refine ⟨.non,_,I.lset (its':=its ++ [u]) hH e (by simp) (r.append (.cons ru .nil)) ?_,rfl,q⟩
  rw [List.length_append,List.length_singleton]
  omega
def Aaw:V → List V → Hp → VK → Prop:=fun x vs H Q=>∃ l xs i k y,x = .ref l ∧ vs = [.int i] ∧ H l = some (.lst xs) ∧ -(2 ^ 63) ≤ i ∧ i < 2 ^ 63 ∧ seqIndex? i xs.length = some k ∧ xs[k]? = some y ∧ Q y (upd H l (.lst (xs.eraseIdx k)))
theorem Yu:MtM X "list.pop" Aaw:=by
  intro pins s σ H x vs v us Q I rx rv h
  obtain ⟨l,xs,i,k,y,rfl,rfl,hH,h1,h2,hk,hy,q⟩:=h
  cases rx
  obtain ⟨u,rfl,ru⟩:=rv.one
  obtain ⟨t,rfl⟩:=ru
  obtain ⟨z,its,n,r,hl,e⟩:=I.lstM hH
  obtain ⟨w,hw,rw'⟩:=r.get hy
  refine call_meets F.slot_list_pop ⟨_,e,rfl⟩ F.entry_list_pop (F.args_list_pop_2 _ _)
    (MeetsSeq.list_pop_at l its.toArray n i t k w (fitsIndex_both h1 h2) (by rw [List.size_toArray,← hl]; exact hk) (by rw [← Array.getElem?_toList]; exact hw) (by rw [List.size_toArray]; omega)) ⟨e,?_⟩
  refine ⟨y,_,I.lset (its':=its.eraseIdx k) hH e ?_ (r.eraseIdx k) ?_,rw',q⟩
  · show its.toArray.eraseIdxIfInBounds k = (its.eraseIdx k).toArray
    rw [List.eraseIdxIfInBounds_toArray]
  · have:=Pk xs k
    omega
def Aig:R2:=fun x y H Q=>∃ l b xs zs,x = .ref l ∧ y = .ref b ∧ H l = some (.lst xs) ∧ H b = some (.lst zs) ∧ xs.length + zs.length ≤ sizeLine ∧ ∀ p,H p = none → Q (.ref p) (upd H p (.lst (xs ++ zs)))
theorem Afm:OpR X (binaryOp .Add) Aig:=by
  intro pins s σ H x y v u Q I rx ry h
  obtain ⟨l,b,xs,zs,rfl,rfl,hH,hB,hz,q⟩:=h
  cases rx
  cases ry
  obtain ⟨z,its,n,r,hl,e⟩:=I.lstM hH
  obtain ⟨z2,its2,n2,r2,hl2,e2⟩:=I.lstM hB
  refine PySem.P.add_list e e2 ?_ (by rw [List.size_toArray,List.size_toArray]; omega)
  have ea:its.toArray ++ its2.toArray = (its ++ its2).toArray:=by simp
  rw [ea]
  exact ⟨.ref _,_,I.lnew (t':=s.toks) (r.append r2) (by rw [List.length_append]; omega),rfl,q _ I.fresh⟩
def Ahs:R2:=fun x y H Q=>∃ l k xs,x = .ref l ∧ y = .int k ∧ H l = some (.lst xs) ∧ -(2 ^ 63) ≤ k ∧ k < 2 ^ 63 ∧ xs.length * k.toNat ≤ sizeLine ∧
  ∀ p,H p = none → Q (.ref p) (upd H p (.lst (List.replicate k.toNat xs).flatten))
theorem Adx {α:Type} (xs:List α) (k:Nat):(List.replicate k xs).flatten.length = k * xs.length:=by
  induction k with
  | zero=>simp
  | succ k ih=>rw [List.replicate_succ,List.flatten_cons,List.length_append,ih,Nat.succ_mul,Nat.add_comm]
theorem Afl:OpR X (binaryOp .Mult) Ahs:=by
  intro pins s σ H x y v u Q I rx ry h
  obtain ⟨l,k,xs,rfl,rfl,hH,h1,h2,hz,q⟩:=h
  cases rx
  obtain ⟨t,rfl⟩:=ry
  obtain ⟨z,its,n,r,hl,e⟩:=I.lstM hH
  have hlen:its.toArray.size * k.toNat ≤ sizeLine:=by rw [List.size_toArray,← hl]; exact hz
  have hcap:¬ its.toArray.size * k.toNat > (2 ^ 63 - 1) / 8:=by
    have:(sizeLine:Nat) ≤ (2 ^ 63 - 1) / 8:=by decide
    omega
  have hfit:¬ (!Builtin.List.listFitsIndex k) = true:=by
    rw [fitsIndex_both h1 h2]
    exact Bool.false_ne_true
  have hlong:¬ Builtin.List.listTooLong (its.toArray.size * k.toNat) = true:=by
    rw [Abi hlen]
    exact Bool.false_ne_true
  have hnew:List.foldl (fun x1 x2=>x1 ++ x2) #[] (List.replicate (if its.toArray.isEmpty = true then 0 else k.toNat) its.toArray) = (List.replicate k.toNat its).flatten.toArray:=by
    have f0:∀ m:Nat,List.foldl (fun x1 x2=>x1 ++ x2) #[] (List.replicate m its.toArray) = (List.replicate m its).flatten.toArray:=fun m=>by
      have:=Qf its m []
      rw [List.nil_append] at this
      exact this
    rw [f0]
    cases its with
    | nil=>simp
    | cons a r'=>rw [if_neg (by simp)]
  refine wpAny_binaryOp_repeat_ref (T := "list") (U := "int") (by decide) ⟨_,e,rfl⟩ (fun s'=>typeIs_int s' k t) noFill_list_mul F.fills_int_mul F.slot_int_rmul repeat_list F.slot_int_index.lookup
    (call_meets F.slot_int_rmul (typeIs_int s k t) F.entry_int_rmul (F.args_int_rmul_2 _ _) (int___rmul___int_list k t l its.toArray n)
      ⟨e,rfl,⟨_,e,rfl⟩,call_meets F.slot_list_mul ⟨_,e,rfl⟩ F.entry_list_mul (F.args_list_mul_2 _ _) (AutoListH.list___mul___list_int_3 l its.toArray n k t hfit hcap hlong) ⟨e,?_⟩⟩)
  rw [hnew]
  exact ⟨.ref _,_,I.lnew (t':=s.toks) (r.rep k.toNat) (by rw [Adx,Nat.mul_comm]; exact hz),rfl,q _ I.fresh⟩
end
section
variable {prog:Program} {w:World} {A:Around} {E:Value → Shared → Prop} {s:Shared}
end
section
variable {X:Cx}
end
end L2
namespace Att
open PySem PySem.W PySem.Calls PyProof.Rows
theorem Mf {P:Params} {h:Heap}:∀ (ns:List Int) (vs:List Value),WellAll P h vs (ns.map WData.int) → IntsAre vs ns:=by
  intro ns
  induction ns with
  | nil=>
    intro vs w
    rw [List.map_nil] at w
    cases w
    exact .nil
  | cons n ns ih=>
    intro vs w
    rw [List.map_cons] at w
    cases w with
    | cons a b=>
      cases a
      exact .cons _ _ (ih _ b)
theorem Wr {l:OpenLaw} {n:Nat} (hn:l.most = some n) {P:Params} {h:Heap} {args:List WData} {vals:List Value}
    (hpre:l.row.toRowW.claim.pre args = true) (hwl:WellAll P h vals args) :
    ∃ a vs ns,vals = [Value.ref a] ∧ args = [WData.list (ns.map WData.int)] ∧ h.get? a = some { cls:=.type "list",data:=.seq vs.toArray } ∧ IntsAre vs ns ∧ ns.length ≤ n:=by
  have hsh:WShape.hasAll [] args [.list .int] = true:=(pre_splitW hpre).1
  have hc:l.pre.holds [] { args:=args } = true:=(pre_splitW hpre).2
  obtain ⟨d,r,rfl,h1,h2⟩:=hasAllW_cons hsh
  obtain rfl:=hasAllW_nil h2
  obtain ⟨xs,rfl,h3⟩:=hasW_list h1
  obtain ⟨ns,rfl⟩:=items_int h3
  have hlen:ns.length ≤ n:=by
    unfold OpenLaw.pre at hc
    have h4:(WTm.not (.lt (.lit (.int (n:Int))) (.len (.arg 0)))).holds [] { args:=[.list (ns.map .int)] } = true:=by
      have h4:=(holds_andW hc).1
      rw [hn] at h4
      exact h4
    have h5:=condW_of h4 (w_not (w_lt w_lit (w_len_list (w_arg rfl))))
    rw [List.length_map] at h5
    refine Nat.le_of_not_lt fun q=>?_
    have q':(n:Int) < ((ns.length:Nat):Int):=by omega
    first
      | (rw [decide_eq_true q'] at h5; exact absurd h5 (by decide))
      | (simp at h5; omega)
  cases hwl with
  | cons w1 w2=>
    cases w2
    cases w1 with
    | list ho hall=>exact ⟨_,_,ns,rfl,rfl,ho,Mf ns _ hall,hlen⟩
theorem Xt (l:OpenLaw) (args:List WData):l.row.toRowW.claim.post args (.bool true) args = true:=
  postW_of (r:=l.row.toRowW) (X:=(true == true))
    (show WShape.has [] (.bool true) .bool = true by first | rfl | decide | simp [WShape.has,WShape.arms,WShape.armsAll])
    (show (WTm.eq .res (.lit (.bool true))).value [] { args:=args,res:=some (.bool true),after:=args } = some (.bool (true == true)) from w_eq_bool (w_res rfl) w_lit) rfl
section
variable {prog:Program} {w:World} {A:Around} {E:Value → Shared → Prop} {s:Shared} {K:Frag}
end
end Att
namespace L2
open PySem PySem.Spec PyProof.Rows
theorem Pt:∀ {vs:List Value} {ns:List Int},IntsAre vs ns → Vals (ns.map V.int) vs
  | _,_,.nil=>.nil
  | _,_,.cons n t h=>.cons ⟨t,rfl⟩ (Pt h)
def Ae5 (H:Hp):Prop:=∀ b,H b = none ∨ ∃ o xs,H b = some (.frz o (.lst xs))
theorem Y6 {P:Program} {w:World} {K:PySem.W.Frag} {mg mb:Str → Option Value} {CX:CXT} {k:Nat} {fa a:Addr} {fd:FuncData} {x:Str} {sp:Sp} {s₁:Shared} {vs:List Value} {ns:List Int}
    (KX:K.In s₁.heap) (hns:s₁.heap.Ns mainGlobals mg) (hb:s₁.heap.Ns builtinsNs mb) (hbb:∀ x:Str,x ≠ "__name__" → mb x = bootBuiltins x) (hlim:s₁.heap.NoLimit) (hg:s₁.gens = #[])
    (ha:s₁.heap.get? a = some { cls:=.type "list",data:=.seq vs.toArray }) (hi:IntsAre vs ns) (hl:ns.length ≤ sizeLine) (hr:Room k callerA)
    (F:∀ base:Heap,K.In base → base.Ns mainGlobals mg → FnOk P w K mg base CX k fa fd [x] sp) (hbind:∀ (s:Shared) (u:Value),BindsTo s fd ⟨[u],[]⟩ [(x,u)])
    (hsp:∀ H:Hp,Ae5 H → SqL K H a (ns.map V.int) → sp [.ref a] H (fun v _=>v = .bl true) fun _ _ _=>False)
    (hCX:∀ H e s',CX [] H s₁ (fun _ _ _=>False) e s' → False) :
    codeAny (model P w) callerA (.call (.ref fa) ⟨[.ref a],[]⟩) (fun r s'=>r = .ok (.ret (.bool true)) ∧ OldK s₁.heap s'.heap ∧ s'.os = s₁.os ∧ AllBare s'.gens) s₁:=by
  have rv:=Pt hi
  have lenV:=hi.length
  have core:∀ H:Hp,Ae5 H → SqL K H a (ns.map V.int) → HOk P w H s₁.heap → (∀ b,H b ≠ none → b = a) → (H a ≠ none → K.lookup a = none) →
      codeAny (model P w) callerA (.call (.ref fa) ⟨[.ref a],[]⟩) (fun r s'=>r = .ok (.ret (.bool true)) ∧ OldK s₁.heap s'.heap ∧ s'.os = s₁.os ∧ AllBare s'.gens) s₁:=by
    intro H hO hS hok hA hK
    have base_of:∀ {b:Addr} {o:Obj},s₁.heap.get? b = some o → H b = none → (Qt s₁.heap H).get? b = some o:=fun e n=>Yy e n
    have noA:∀ {b:Addr} {o:Obj} {es:Array DictEntry} {ep:Nat},s₁.heap.get? b = some o → o.data = .dict es ep → H b = none:=fun {b o es ep} e d=>by
      cases q:H b with
      | none=>rfl
      | some u=>
        have e':b = a:=hA b (by rw [q]; simp)
        subst e'
        rw [ha] at e; cases e
        have d':Data.seq vs.toArray _ = Data.dict es ep:=d
        cases d'
    have nsK:∀ {b:Addr} {m:Str → Option Value},s₁.heap.Ns b m → (Qt s₁.heap H).Ns b m:=fun {b m} ⟨o,es,ep,e,d,r⟩=>⟨o,es,ep,base_of e (noA e d),d,r⟩
    have hKb:K.In (Qt s₁.heap H):=fun b o e=>base_of (KX b o e) (by
      cases q:H b with
      | none=>rfl
      | some u=>
        have e':b = a:=hA b (by rw [q]; simp)
        subst e'
        rw [hK (by rw [q]; simp)] at e; cases e)
    have hM:Mod K mg (Qt s₁.heap H):=⟨hKb,nsK hns,⟨mb,nsK hb,hbb⟩,let ⟨mc,h1,h2⟩:=hlim; ⟨mc,nsK h1,h2⟩⟩
    have e0:Env0 P w K mg (Qt s₁.heap H) callerA [] s₁ H:=⟨rfl,hM,fun b o e=>Acf e,Nat.le_of_eq (Wn _ _),trivial,fun b hb=>absurd (show b ∈ ([]:List Addr) from hb) (by simp),hok,.of_eq hg⟩
    refine codeAny_mono ((F _ hKb (nsK hns)).run callerA [] s₁ H ⟨[.ref a],[]⟩ [.ref a] [.ref a] _ _ hr e0 (hbind s₁ (.ref a)) (.cons rfl .nil) (hsp H hO hS)) fun r s' h=>?_
    cases r with
    | error e=>exact (hCX H e s' h).elim
    | ok fl=>
      cases fl with
      | next=>exact False.elim h
      | brk=>exact False.elim h
      | cont=>exact False.elim h
      | ret u=>
        obtain ⟨v,H',os,bare,un,hok',r',q⟩:=h
        have q':v = .bl true:=q
        subst q'
        obtain rfl:u = Value.bool true:=r'
        refine ⟨rfl,OldK.of_keep fun b o e=>?_,os,bare⟩
        cases q:H b with
        | none=>exact un.keep b o e q (by intro z; exact absurd (show b ∈ ([]:List Addr) from z) (by simp)) (by simp)
        | some u=>
          rcases hO b with z | ⟨ob,xs,z⟩
          · rw [q] at z; cases z
          · have z2:=un.frzs b ob _ z
            obtain ⟨e1,_⟩:=hok b _ z
            obtain ⟨e2,_⟩:=hok' b _ z2
            rw [e] at e1; cases e1
            exact e2
  cases hk:K.lookup a with
  | some o=>
    have e:=KX a o hk
    rw [ha] at e
    cases e
    refine core (fun _=>none) (fun _=>.inl rfl) (.inr ⟨_,vs.toArray,_,hk,rfl,rfl,rfl,by rw [List.size_toArray,lenV]; exact hl,by simpa using rv⟩) (fun b u z=>by have z':(none:Option HO) = some u:=z; cases z') (fun b z=>absurd rfl z) fun z=>absurd rfl z
  | none=>
    refine core (fun b=>if b = a then some (.frz { cls:=.type "list",data:=.seq vs.toArray } (.lst (ns.map V.int))) else none) (fun b=>?_) (.inl (.inr ⟨{ cls:=.type "list",data:=.seq vs.toArray },if_pos rfl⟩)) (fun b u z=>?_) (fun b z=>?_) fun _=>hk
    · by_cases hb:b = a
      · exact .inr ⟨_,_,if_pos hb⟩
      · exact .inl (if_neg hb)
    · by_cases hb:b = a
      · have z':=(if_pos hb).symm.trans z
        cases z'
        subst hb
        exact ⟨ha,by rw [List.length_map]; exact hl,vs,_,rv,ha⟩
      · have z':=(if_neg hb).symm.trans z
        cases z'
    · by_cases hb:b = a
      · exact hb
      · exact absurd (if_neg hb) z
end L2
namespace L2
open PySem PySem.Spec PyProof.Rows
end L2
namespace L2
open PySem PySem.Spec PyProof.Rows
def Bc (s:Stmt):Arguments:=match s with
  | .FunctionDef _ a _ _ _ _ _ _ _ _=>a
  | _=>{ posonlyargs:=[],args:=[],vararg:=none,kwonlyargs:=[],kw_defaults:=[],kwarg:=none,defaults:=[] }
def A9 (s:Stmt):List Stmt:=match s with
  | .FunctionDef _ _ b _ _ _ _ _ _ _=>b
  | _=>[]
def Aj (s:Stmt):Scope:=match s with
  | .FunctionDef _ _ _ _ _ _ sc _ _ _=>sc
  | _=>{ kind:=.function,names:=[],isGenerator:=false,isCoroutine:=false }
abbrev CX0:CXT:=fun _ _ _ _ _ _=>False
abbrev E0:XK:=fun _ _ _=>False
theorem Aia {X:Cx}:Tt CX0 X E0:=fun _ _ _ _ _ _ _ h=>h.elim
structure Fun (K:PySem.W.Frag) (x qual:Str) (st:Stmt) (f:Addr) (fd:FuncData):Prop where
  ex:∃ (oc:Value) (od:Option Addr) (kV doc pm:Value) (an:Option Addr) (cdv ct:Value) (osl:Array (Option Value)),
    fd = PySem.W.fnOf x qual (Bc st) (A9 st) (Aj st) .none kV doc pm an cdv ct ∧ K.lookup f = some ⟨oc,od,.func fd,osl⟩ ∧ PySem.W.codeIn K cdv qual = true
  kp:PySem.W.keepIn K (.ref f) = true
section
variable {P:Program} {w:World} {K:PySem.W.Frag} {mg:Str → Option Value} {base:Heap}
theorem Fun.ok {x qual:Str} {st:Stmt} {f:Addr} {fd:FuncData} {N ps:List Str} {k:Nat} {sp:Sp} (F:Fun K x qual st f fd) (S:FnScope N ps (Aj st)) (len:∀ vs H Q E,sp vs H Q E → vs.length = ps.length)
    (hbody:∀ (cdv:Value) (A:Around) (outer:List Env) (s:Shared) (H:Hp) (vs:List V) (Q:VK) (E:XK),Room k (A.deeper (envOfC qual (Aj st) s.heap.objs.size f cdv)) → sp vs H Q E →
      ∃ t,PSs (Um CX0 P w K mg base N qual (Aj st) f cdv A outer s H E).nox (A9 st) t ∧ t { nx:=fun _ H'=>Q .non H',rt:=Q } (start N vs) H):FnOk P w K mg base CX0 (k + 1) f fd ps sp:=by
  obtain ⟨oc,od,kV,doc,pm,an,cdv,ct,osl,rfl,lk,hcd⟩:=F.ex
  refine Ait lk hcd S len fun A outer s H vs Q E hr hsp=>?_
  obtain ⟨t,h,q⟩:=hbody cdv A outer s H vs Q E hr hsp
  exact ⟨t,h.nox,q⟩
theorem Fun.binds {x qual:Str} {st:Stmt} {f:Addr} {fd:FuncData} {ps:List Str} (F:Fun K x qual st f fd)
    (h:∀ (kV doc pm:Value) (an:Option Addr) (cdv ct:Value) (us:List Value),us.length = ps.length → bindArgs (PySem.W.fnOf x qual (Bc st) (A9 st) (Aj st) .none kV doc pm an cdv ct) ⟨us,[]⟩ = pure (ps.zip us)):Binds K fd ps []:=by
  obtain ⟨oc,od,kV,doc,pm,an,cdv,ct,osl,rfl,lk,hcd⟩:=F.ex
  exact .all (h kV doc pm an cdv ct)
theorem B6 {x qual:Str} {st:Stmt} {f:Addr} {oc:Value} {od an:Option Addr} {osl:Array (Option Value)} {kV doc pm cdv ct:Value} (l:K.lookup f = some ⟨oc,od,.func (PySem.W.fnOf x qual (Bc st) (A9 st) (Aj st) .none kV doc pm an cdv ct),osl⟩)
    (c:PySem.W.codeIn K cdv qual = true) (k:PySem.W.keepIn K (.ref f) = true):Fun K x qual st f (PySem.W.fnOf x qual (Bc st) (A9 st) (Aj st) .none kV doc pm an cdv ct):=⟨⟨oc,od,kV,doc,pm,an,cdv,ct,osl,rfl,l,c⟩,k⟩
end
section
variable {X:Cx}
end
theorem Ts {A B:Prop} (h:B):if false = true then A else B:=by
  rw [if_neg Bool.false_ne_true]
  exact h
theorem To {A B:Prop} (h:A):if true = true then A else B:=by
  rw [if_pos rfl]
  exact h
def Same (H H':Hp):Prop:=∀ b o,H b = some o → H' b = some o
theorem Same.refl (H:Hp):Same H H:=fun _ _ h=>h
theorem Same.trans {H H1 H2:Hp} (a:Same H H1) (b:Same H1 H2):Same H H2:=fun c o h=>b c o (a c o h)
theorem Same.free {H H':Hp} (e:Same H H') {l:Addr} (h:H' l = Option.none):H l = Option.none:=by
  cases q:H l with
  | none=>rfl
  | some o=>
    rw [e l o q] at h
    cases h
theorem Same.seq {K:PySem.W.Frag} {H H':Hp} {a:Addr} {xs:List V} (e:Same H H') (h:SqL K H a xs):SqL K H' a xs:=by
  rcases h with (h | ⟨o,h⟩) | h
  · exact .inl (.inl (e _ _ h))
  · exact .inl (.inr ⟨o,e _ _ h⟩)
  · exact .inr h
end L2
set_option Elab.async false
set_option linter.all false
set_option maxRecDepth 100000
set_option maxHeartbeats 4000000
namespace L2
open PySem PySem.Spec PyProof.Rows
section
variable {κ:Type} [DecidableEq κ]
def Jk (kvs:List (κ × V)) (k:κ):Option V:=(kvs.find? fun kv=>decide (kv.1 = k)).map (·.2)
def Ik (kvs:List (κ × V)) (k:κ) (v:V):List (κ × V):=
  if (kvs.any fun kv=>decide (kv.1 = k)) = true then kvs.map (fun kv=>if kv.1 = k then (kv.1,v) else kv) else kvs ++ [(k,v)]
def Aep (kvs:List (κ × V)) (k:κ):List (κ × V):=kvs.filter fun kv=>decide (kv.1 ≠ k)
theorem Nw {p:κ × V} {r:List (κ × V)} {k:κ} (e:p.1 = k):Jk (p :: r) k = some p.2:=by simp [Jk,List.find?_cons,e]
theorem Nz {p:κ × V} {r:List (κ × V)} {k:κ} (e:¬ p.1 = k):Jk (p :: r) k = Jk r k:=by simp [Jk,List.find?_cons,e]
theorem Rt (k:κ):∀ kvs:List (κ × V),(kvs.any fun kv=>decide (kv.1 = k)) = (Jk kvs k).isSome
  | []=>rfl
  | p :: r=>by
    rw [List.any_cons]
    by_cases e:p.1 = k
    · simp only [Nw e,decide_eq_true e,Bool.true_or,Option.isSome_some]
    · rw [Nz e,decide_eq_false e,Bool.false_or]; exact Rt k r
theorem Rn (kvs:List (κ × V)) (k:κ) (v:V):(Ik kvs k v).length ≤ kvs.length + 1:=by
  unfold Ik
  split
  · rw [List.length_map]; omega
  · rw [List.length_append,List.length_cons,List.length_nil]; omega
theorem RelO.isSome_eq {o:Option V} {u:Option Value} (r:RelO o u):o.isSome = u.isSome:=by
  cases o with
  | none=>cases u with
    | none=>rfl
    | some _=>exact (show False from r).elim
  | some _=>cases u with
    | none=>exact (show False from r).elim
    | some _=>rfl
theorem RelO.getD {o:Option V} {u:Option Value} {d:V} {d':Value} (r:RelO o u) (rd:RelV d d'):RelV (o.getD d) (u.getD d'):=by
  cases o with
  | none=>cases u with
    | none=>exact rd
    | some _=>exact (show False from r).elim
  | some _=>cases u with
    | none=>exact (show False from r).elim
    | some _=>exact r
theorem KV.val {kvs:List (κ × V)} {vs:List (κ × Value)} (r:KV kvs vs) (k:κ):RelO (Jk kvs k) (valueAt vs k):=by
  unfold KV at r
  induction r with
  | nil=>exact True.intro
  | @cons p q ps qs h t ih=>
    obtain ⟨h1,h2⟩:=h
    by_cases e:p.1 = k
    · have e':q.1 = k:=h1.symm.trans e
      have b:valueAt (q :: qs) k = some q.2:=by simp [valueAt,List.find?_cons,e']
      rw [Nw e,b]; exact h2
    · have e':¬ q.1 = k:=fun z=>e (h1.trans z)
      have b:valueAt (q :: qs) k = valueAt qs k:=by simp [valueAt,List.find?_cons,e']
      rw [Nz e,b]; exact ih
theorem KV.any {kvs:List (κ × V)} {vs:List (κ × Value)} (r:KV kvs vs) (k:κ):(kvs.any fun kv=>decide (kv.1 = k)) = vs.any fun kv=>decide (kv.1 = k):=by
  unfold KV at r
  induction r with
  | nil=>rfl
  | cons h t ih=>rw [List.any_cons,List.any_cons,ih,h.1]
theorem KV.repl {kvs:List (κ × V)} {vs:List (κ × Value)} (r:KV kvs vs) (k:κ) {y:V} {u:Value} (ry:RelV y u) :
    KV (kvs.map fun kv=>if kv.1 = k then (kv.1,y) else kv) (vs.map fun kv=>if kv.1 = k then (kv.1,u) else kv):=by
  unfold KV at r ⊢
  induction r with
  | nil=>exact .nil
  | @cons p q ps qs h t ih=>
    rw [List.map_cons,List.map_cons]
    refine .cons ?_ ih
    obtain ⟨h1,h2⟩:=h
    by_cases e:p.1 = k
    · rw [if_pos e,if_pos (h1.symm.trans e)]; exact ⟨h1,ry⟩
    · rw [if_neg e,if_neg (fun z=>e (h1.trans z))]; exact ⟨h1,h2⟩
theorem KV.put {kvs:List (κ × V)} {vs:List (κ × Value)} (r:KV kvs vs) (k:κ) {y:V} {u:Value} (ry:RelV y u):KV (Ik kvs k y) (stored vs k u):=by
  unfold Ik stored
  rw [r.any k]
  by_cases e:(vs.any fun kv=>decide (kv.1 = k)) = true
  · rw [if_pos e,if_pos e]; exact r.repl k ry
  · rw [if_neg e,if_neg e]; exact Paired.snoc r ⟨rfl,ry⟩
theorem KV.drop {kvs:List (κ × V)} {vs:List (κ × Value)} (r:KV kvs vs) (k:κ):KV (Aep kvs k) (without vs k):=by
  unfold KV at r ⊢
  unfold Aep without
  induction r with
  | nil=>exact .nil
  | @cons p q ps qs h t ih=>
    obtain ⟨h1,h2⟩:=h
    rw [List.filter_cons,List.filter_cons]
    by_cases e:p.1 = k
    · have a:¬ decide (p.1 ≠ k) = true:=by simp [e]
      have b:¬ decide (q.1 ≠ k) = true:=by simp [h1.symm.trans e]
      rw [if_neg a,if_neg b]; exact ih
    · have e':¬ q.1 = k:=fun z=>e (h1.trans z)
      have a:decide (p.1 ≠ k) = true:=by simp [e]
      have b:decide (q.1 ≠ k) = true:=by simp [e']
      rw [if_pos a,if_pos b]; exact .cons ⟨h1,h2⟩ ih
theorem KV.keys {kvs:List (κ × V)} {vs:List (κ × Value)} (r:KV kvs vs):kvs.map (·.1) = vs.map (·.1):=by
  unfold KV at r
  induction r with
  | nil=>rfl
  | cons h t ih=>rw [List.map_cons,List.map_cons,ih,h.1]
theorem KV.length {kvs:List (κ × V)} {vs:List (κ × Value)} (r:KV kvs vs):kvs.length = vs.length:=Paired.length r
end
theorem Ai5 {P:Program} {w:World} {k:Key} {u:Value} (r:RelV (kV k) u):(B0 P w).is k u = true:=by
  cases k with
  | inl i=>obtain ⟨t,e⟩:=(show ∃ t,u = Value.int i t from r); subst e; exact Rv P w i t
  | inr x=>obtain ⟨t,e⟩:=(show ∃ t,u = Value.str x t from r); subst e; exact Rk P w x t
abbrev KT (H:Hp):List (List Key × V) → List (List Key × Addr × Value) → Prop:=Paired fun p q=>p.1 = q.1 ∧ H q.2.1 = some (.tup (p.1.map kV)) ∧ RelV p.2 q.2.2
theorem KT.val {H:Hp} {kvs:List (List Key × V)} {xs:List (List Key × Addr × Value)} (r:KT H kvs xs) (k:List Key):RelO (Jk kvs k) ((atKey xs k).map (·.2)):=by
  induction r with
  | nil=>exact True.intro
  | @cons p q ps qs h t ih=>
    obtain ⟨h1,_,h2⟩:=h
    by_cases e:p.1 = k
    · have e':q.1 = k:=h1.symm.trans e
      have b:atKey (q :: qs) k = some q.2:=by simp [atKey,List.find?_cons,e']
      rw [Nw e,b]; exact h2
    · have e':¬ q.1 = k:=fun z=>e (h1.trans z)
      have b:atKey (q :: qs) k = atKey qs k:=by simp [atKey,List.find?_cons,e']
      rw [Nz e,b]; exact ih
theorem KT.repl {H:Hp} {kvs:List (List Key × V)} {xs:List (List Key × Addr × Value)} (r:KT H kvs xs) (k:List Key) {y:V} {u:Value} (ry:RelV y u) :
    KT H (kvs.map fun kv=>if kv.1 = k then (kv.1,y) else kv) (xs.map (putAt k u)):=by
  induction r with
  | nil=>exact .nil
  | @cons p q ps qs h t ih=>
    rw [List.map_cons,List.map_cons]
    refine .cons ?_ ih
    obtain ⟨h1,h2,h3⟩:=h
    unfold putAt
    by_cases e:p.1 = k
    · rw [if_pos e,if_pos (h1.symm.trans e)]; exact ⟨h1,h2,ry⟩
    · rw [if_neg e,if_neg (fun z=>e (h1.trans z))]; exact ⟨h1,h2,h3⟩
theorem KT.put {H:Hp} {kvs:List (List Key × V)} {xs:List (List Key × Addr × Value)} (r:KT H kvs xs) (k:List Key) {b:Addr} {y:V} {u:Value} (hb:H b = some (.tup (k.map kV))) (ry:RelV y u) :
    KT H (Ik kvs k y) (storedH xs k b u):=by
  have e:(kvs.any fun kv=>decide (kv.1 = k)) = (atKey xs k).isSome:=by
    rw [Rt,(r.val k).isSome_eq,Option.isSome_map]
  unfold Ik storedH
  rw [e]
  by_cases q:(atKey xs k).isSome = true
  · rw [if_pos q,if_pos q]; exact r.repl k ry
  · rw [if_neg q,if_neg q]; exact Paired.snoc r ⟨rfl,hb,ry⟩
theorem KT.keeps {H H':Hp} {kvs:List (List Key × V)} {xs:List (List Key × Addr × Value)} (r:KT H kvs xs) (ht:∀ b ys,H b = some (.tup ys) → H' b = some (.tup ys)):KT H' kvs xs:=
  Paired.mapP r fun _ _ z=>⟨z.1,ht _ _ z.2.1,z.2.2⟩
section
variable {P:Program} {w:World} {H:Hp} {h:Heap} {a:Addr}
theorem Ai7 {u:HO} (ok:HOk P w H h) (e:Rd H a u):ObjOk P w H h a u:=e.ok ok
theorem Aic {kvs:List (Key × V)} (ok:HOk P w H h) (e:Rd H a (.dK kvs)):kvs.length ≤ sizeLine ∧ (a == sysModules) = false ∧ ∃ vs,KV kvs vs ∧ h.DictOf (B0 P w) a vs:=
  show ObjOk P w H h a (.dK kvs) from Ai7 ok e
theorem Aex {kvs:List (Key × V)} (ok:HOk P w H h) (e:H a = some (.dK kvs)):kvs.length ≤ sizeLine ∧ (a == sysModules) = false ∧ ∃ vs,KV kvs vs ∧ h.DictOf (B0 P w) a vs:=Aic ok (.inl e)
end
def DGet (H:Hp) (a:Addr) (y:V) (r:Option V):Prop:=
  (∃ kvs k,Rd H a (.dK kvs) ∧ y = kV k ∧ r = Jk kvs k) ∨ ∃ kvs k b,Rd H a (.dT kvs) ∧ y = .ref b ∧ H b = some (.tup (k.map kV)) ∧ r = Jk kvs k
def DPut (H:Hp) (a:Addr) (y v:V) (H':Hp):Prop:=
  (∃ kvs k,H a = some (.dK kvs) ∧ y = kV k ∧ kvs.length < sizeLine ∧ H' = upd H a (.dK (Ik kvs k v))) ∨
  ∃ kvs k b,H a = some (.dT kvs) ∧ y = .ref b ∧ H b = some (.tup (k.map kV)) ∧ kvs.length < sizeLine ∧ H' = upd H a (.dT (Ik kvs k v))
theorem DGet.k {H:Hp} {a:Addr} {kvs:List (Key × V)} {k:Key} (e:H a = some (.dK kvs)):DGet H a (kV k) (Jk kvs k):=.inl ⟨kvs,k,.inl e,rfl,rfl⟩
theorem DGet.t {H:Hp} {a b:Addr} {kvs:List (List Key × V)} {k:List Key} (e:H a = some (.dT kvs)) (eb:H b = some (.tup (k.map kV))):DGet H a (.ref b) (Jk kvs k):=.inr ⟨kvs,k,b,.inl e,rfl,eb,rfl⟩
theorem DPut.k {H:Hp} {a:Addr} {kvs:List (Key × V)} {k:Key} {v:V} (e:H a = some (.dK kvs)) (hl:kvs.length < sizeLine):DPut H a (kV k) v (upd H a (.dK (Ik kvs k v))):=.inl ⟨kvs,k,e,rfl,hl,rfl⟩
theorem DPut.t {H:Hp} {a b:Addr} {kvs:List (List Key × V)} {k:List Key} {v:V} (e:H a = some (.dT kvs)) (eb:H b = some (.tup (k.map kV))) (hl:kvs.length < sizeLine) :
    DPut H a (.ref b) v (upd H a (.dT (Ik kvs k v))):=.inr ⟨kvs,k,b,e,rfl,eb,hl,rfl⟩
section
variable {X:Cx} {pins:List (Addr × Obj)} {σ:St} {H:Hp} {s:Shared} {a:Addr} {y v:V} {u r:Value} {o:Option V} {A:Around} {E:Value → Shared → Prop}
theorem Inv.big (I:Inv X pins σ H s):sysModules < s.heap.objs.size:=by
  have h:mainGlobals < s.heap.objs.size:=(I.mod.glob.keeps I.bk).lt
  exact Nat.lt_trans (by decide) h
theorem Ag7 {P:Program} {w:World} {H':Hp} {h':Heap} {kvs:List (Key × V)} {vs:List (Key × Value)} (z:kvs.length ≤ sizeLine) (hd:(a == sysModules) = false) (rel:KV kvs vs) (dd:h'.DictOf (B0 P w) a vs) :
    ObjOk P w H' h' a (.dK kvs):=⟨z,hd,vs,rel,dd⟩
end
section
variable {X:Cx} {pins:List (Addr × Obj)} {σ:St} {H:Hp} {s:Shared} {a:Addr} {kvs:List (Key × V)} {k:Key} {u:Value} {A:Around} {E:Value → Shared → Prop}
end
section
variable {X:Cx} {o i e value:Expr} {pos pos' tpos:Pos} {td ty tv:TE}
end
section
variable {X:Cx} {pos:Pos}
end
def Iy (kvs more:List (Key × V)):List (Key × V):=more.foldl (fun acc kv=>Ik acc kv.1 kv.2) kvs
theorem KV.merge:∀ {more:List (Key × V)} {rs:List (Key × Value)} {kvs:List (Key × V)} {vs:List (Key × Value)},KV more rs → KV kvs vs → KV (Iy kvs more) (merged vs rs):=by
  intro more rs kvs vs r
  unfold KV at r
  induction r generalizing kvs vs with
  | nil=>intro q; exact q
  | @cons p q ps qs h t ih=>
    intro r0
    have e:KV (Ik kvs p.1 p.2) (stored vs q.1 q.2):=by
      have:=r0.put p.1 h.2
      rw [← h.1]; exact this
    exact ih e
theorem Ju:∀ (more kvs:List (Key × V)),(Iy kvs more).length ≤ kvs.length + more.length
  | [],kvs=>by show kvs.length ≤ kvs.length + 0; omega
  | p :: r,kvs=>by
    have h1:=Ju r (Ik kvs p.1 p.2)
    have h2:=Rn kvs p.1 p.2
    show (Iy (Ik kvs p.1 p.2) r).length ≤ _
    rw [List.length_cons]; omega
structure M1 (X:Cx) (o:Expr) (m:Str) (apos:Pos) (e:Expr) (cpos:Pos):Prop where
  base:attributeBase o m X.env (eval o X.env) = eval o X.env
  few:((backTo cpos (starEach [e] X.env)).all (fun x=>!x.1) && (backToKw cpos (keywordEach [] X.env)).all (fun x=>x.1.isSome)
    && decide (([e]:List Expr).length + ([]:List Keyword).length + (if ([]:List Keyword).isEmpty then 0 else 1) < 30)) = true
  line:(apos.endLine == cpos.line) = true
  trees:backTo cpos (starEach [e] X.env) = [(false,eval e X.env)]
structure M2 (X:Cx) (o:Expr) (m:Str) (apos:Pos) (e f:Expr) (cpos:Pos):Prop where
  base:attributeBase o m X.env (eval o X.env) = eval o X.env
  few:((backTo cpos (starEach [e,f] X.env)).all (fun x=>!x.1) && (backToKw cpos (keywordEach [] X.env)).all (fun x=>x.1.isSome)
    && decide (([e,f]:List Expr).length + ([]:List Keyword).length + (if ([]:List Keyword).isEmpty then 0 else 1) < 30)) = true
  line:(apos.endLine == cpos.line) = true
  trees:backTo cpos (starEach [e,f] X.env) = [(false,eval e X.env),(false,eval f X.env)]
section
variable {X:Cx} {pins:List (Addr × Obj)} {σ:St} {H:Hp} {s:Shared} {a:Addr} {y d:V} {u r:Value} {o:Option V} {A:Around} {E:Value → Shared → Prop}
end
section
variable {X:Cx} {o e f:Expr} {apos cpos:Pos} {td ty tx:TE}
end
section
variable {X:Cx} {pins:List (Addr × Obj)} {σ:St} {H:Hp} {s:Shared} {a:Addr} {kvs:List (Key × V)} {A:Around} {E:Value → Shared → Prop}
end
section
variable {X:Cx} {pins:List (Addr × Obj)} {σ:St} {H:Hp} {s:Shared} {a:Addr} {y:V} {u:Value} {A:Around} {E:Value → Shared → Prop}
end
end L2
set_option Elab.async false
set_option linter.all false
set_option maxRecDepth 100000
set_option maxHeartbeats 1000000
namespace MR
open PySem PySem.Spec PyProof.Rows L2
inductive U where
  | non | bl (b:Bool) | int (i:Int) | str (x:Str) | tup (l:List U) | ref (n:Nat)
inductive HU where
  | lst (xs:List U) | ro (xs:List U) | dic (kvs:List (Key × U)) | rod (kvs:List (Key × U)) | ins (C:Str) (fs:List (Str × U)) | exc (C:Str) (fr:Bool) (fs:List (Str × U))
abbrev UH:=List HU
abbrev UE:=List (Option U)
section
variable (K:PySem.W.Frag) (H:Hp) (α:List Addr)
mutual
def RepU:U → V → Prop
  | .non,v=>v = .non
  | .bl b,v=>v = .bl b
  | .int i,v=>v = .int i
  | .str x,v=>v = .str x
  | .tup l,v=>∃ a xs,v = .ref a ∧ SqT K H a xs ∧ RepL l xs
  | .ref n,v=>∃ a,α[n]? = some a ∧ v = .ref a
def RepL:List U → List V → Prop
  | [],xs=>xs = []
  | u :: l,xs=>∃ x r,xs = x :: r ∧ RepU u x ∧ RepL l r
end
end
def Stay (H H':Hp):Prop:=(∀ b xs,H b = some (.tup xs) → H' b = some (.tup xs)) ∧ ∀ b o u,H b = some (.frz o u) → H' b = some (.frz o u)
theorem Stay.refl (H:Hp):Stay H H:=⟨fun _ _ q=>q,fun _ _ _ q=>q⟩
theorem Stay.trans {H H1 H2:Hp} (a:Stay H H1) (b:Stay H1 H2):Stay H H2:=⟨fun c xs q=>b.1 c xs (a.1 c xs q),fun c o u q=>b.2 c o u (a.2 c o u q)⟩
theorem Stay.sqT {K:PySem.W.Frag} {H H':Hp} {a:Addr} {xs:List V} (e:Stay H H') (h:SqT K H a xs):SqT K H' a xs:=by
  rcases h with (h | ⟨o,h⟩) | h
  · exact .inl (.inl (e.1 _ _ h))
  · exact .inl (.inr ⟨o,e.2 _ _ _ h⟩)
  · exact .inr h
theorem Stay.new {H:Hp} {p:Addr} (h:H p = none) (o:HO):Stay H (upd H p o):=⟨fun b u q=>by rw [Az (Be q h)]; exact q,fun b o u q=>by rw [Az (Be q h)]; exact q⟩
theorem Stay.write {H:Hp} {p:Addr} {o:HO} (h:H p = some o) (m:Mut (some o)) (o':HO):Stay H (upd H p o'):=
  ⟨fun b u q=>by rw [Az (Aev q h (fun z=>by subst z; exact m))]; exact q,fun b w u q=>by rw [Az (Aev q h (fun z=>by subst z; exact m))]; exact q⟩
structure Gr (H:Hp) (α:List Addr) (H':Hp) (α':List Addr):Prop where
  pre:∃ β,α' = α ++ β
  st:Stay H H'
theorem Gr.refl (H:Hp) (α:List Addr):Gr H α H α:=⟨⟨[],by simp⟩,.refl H⟩
theorem Gr.trans {H H1 H2:Hp} {α α1 α2:List Addr} (a:Gr H α H1 α1) (b:Gr H1 α1 H2 α2):Gr H α H2 α2:=by
  obtain ⟨⟨β,e⟩,s⟩:=a
  obtain ⟨⟨γ,e'⟩,s'⟩:=b
  exact ⟨⟨β ++ γ,by rw [e',e,List.append_assoc]⟩,s.trans s'⟩
theorem Gr.at {H H':Hp} {α α':List Addr} (g:Gr H α H' α') {n:Nat} {a:Addr} (h:α[n]? = some a):α'[n]? = some a:=by
  obtain ⟨β,e⟩:=g.pre
  have hn:n < α.length:=(List.getElem?_eq_some_iff.mp h).1
  rw [e,List.getElem?_append_left hn]; exact h
section
variable {K:PySem.W.Frag} {H H':Hp} {α α':List Addr}
mutual
theorem RepU.mono (g:Gr H α H' α'):∀ (u:U) (v:V),RepU K H α u v → RepU K H' α' u v
  | .non,_,h=>h
  | .bl _,_,h=>h
  | .int _,_,h=>h
  | .str _,_,h=>h
  | .tup l,v,h=>by
    unfold RepU at h ⊢
    obtain ⟨a,xs,e,s,r⟩:=h
    exact ⟨a,xs,e,g.st.sqT s,RepL.mono g l xs r⟩
  | .ref n,v,h=>by
    unfold RepU at h ⊢
    obtain ⟨a,e,q⟩:=h
    exact ⟨a,g.at e,q⟩
theorem RepL.mono (g:Gr H α H' α'):∀ (l:List U) (xs:List V),RepL K H α l xs → RepL K H' α' l xs
  | [],xs,h=>h
  | u :: l,xs,h=>by
    unfold RepL at h ⊢
    obtain ⟨x,r,e,h1,h2⟩:=h
    exact ⟨x,r,e,RepU.mono g u x h1,RepL.mono g l r h2⟩
end
theorem RepL.length:∀ {l:List U} {xs:List V},RepL K H α l xs → l.length = xs.length
  | [],xs,h=>by unfold RepL at h; subst h; rfl
  | u :: l,xs,h=>by
    unfold RepL at h
    obtain ⟨x,r,e,_,h2⟩:=h
    subst e
    simp [RepL.length h2]
theorem RepL.get:∀ {l:List U} {xs:List V} {i:Nat} {u:U},RepL K H α l xs → l[i]? = some u → ∃ x,xs[i]? = some x ∧ RepU K H α u x
  | [],xs,i,u,h,e=>by simp at e
  | w :: l,xs,i,u,h,e=>by
    unfold RepL at h
    obtain ⟨x,r,e',h1,h2⟩:=h
    subst e'
    cases i with
    | zero=>simp at e; subst e; exact ⟨x,rfl,h1⟩
    | succ i=>simpa using RepL.get (i:=i) h2 (by simpa using e)
theorem RepL.get' {l:List U} {xs:List V} {i:Nat} {x:V} (h:RepL K H α l xs) (e:xs[i]? = some x):∃ u,l[i]? = some u ∧ RepU K H α u x:=by
  have hi:i < l.length:=by rw [h.length]; exact (List.getElem?_eq_some_iff.mp e).1
  obtain ⟨y,e2,r⟩:=h.get (List.getElem?_eq_getElem hi)
  rw [e] at e2; cases e2
  exact ⟨_,List.getElem?_eq_getElem hi,r⟩
theorem RepL.nil:RepL K H α [] []:=by unfold RepL; rfl
theorem RepL.cons {u:U} {l:List U} {x:V} {xs:List V} (h:RepU K H α u x) (t:RepL K H α l xs):RepL K H α (u :: l) (x :: xs):=by
  unfold RepL; exact ⟨x,xs,rfl,h,t⟩
theorem RepL.append:∀ {l l':List U} {xs ys:List V},RepL K H α l xs → RepL K H α l' ys → RepL K H α (l ++ l') (xs ++ ys)
  | [],l',xs,ys,h,t=>by unfold RepL at h; subst h; exact t
  | u :: l,l',xs,ys,h,t=>by
    unfold RepL at h
    obtain ⟨x,r,e,h1,h2⟩:=h
    subst e
    exact .cons h1 (RepL.append h2 t)
theorem RepL.take:∀ {l:List U} {xs:List V} (n:Nat),RepL K H α l xs → RepL K H α (l.take n) (xs.take n)
  | [],xs,n,h=>by unfold RepL at h; subst h; simp [RepL.nil]
  | u :: l,xs,0,h=>by simp [RepL.nil]
  | u :: l,xs,n + 1,h=>by
    unfold RepL at h
    obtain ⟨x,r,e,h1,h2⟩:=h
    subst e
    exact .cons h1 (RepL.take n h2)
theorem RepL.drop:∀ {l:List U} {xs:List V} (n:Nat),RepL K H α l xs → RepL K H α (l.drop n) (xs.drop n)
  | [],xs,n,h=>by unfold RepL at h; subst h; simp [RepL.nil]
  | u :: l,xs,0,h=>h
  | u :: l,xs,n + 1,h=>by
    unfold RepL at h
    obtain ⟨x,r,e,h1,h2⟩:=h
    subst e
    exact RepL.drop n h2
theorem RepL.set {u:U} {x:V} (q:RepU K H α u x):∀ {l:List U} {xs:List V} (n:Nat),RepL K H α l xs → RepL K H α (l.set n u) (xs.set n x)
  | [],xs,n,h=>by unfold RepL at h; subst h; exact .nil
  | w :: l,xs,0,h=>by
    unfold RepL at h
    obtain ⟨y,r,e,h1,h2⟩:=h
    subst e
    exact .cons q h2
  | w :: l,xs,n + 1,h=>by
    unfold RepL at h
    obtain ⟨y,r,e,h1,h2⟩:=h
    subst e
    exact .cons h1 (RepL.set q n h2)
theorem RepL.erase:∀ {l:List U} {xs:List V} (n:Nat),RepL K H α l xs → RepL K H α (l.eraseIdx n) (xs.eraseIdx n)
  | [],xs,n,h=>by unfold RepL at h; subst h; exact .nil
  | w :: l,xs,0,h=>by
    unfold RepL at h
    obtain ⟨y,r,e,h1,h2⟩:=h
    subst e
    exact h2
  | w :: l,xs,n + 1,h=>by
    unfold RepL at h
    obtain ⟨y,r,e,h1,h2⟩:=h
    subst e
    exact .cons h1 (RepL.erase n h2)
theorem RepL.reverse:∀ {l:List U} {xs:List V},RepL K H α l xs → RepL K H α l.reverse xs.reverse
  | [],xs,h=>by unfold RepL at h; subst h; exact .nil
  | w :: l,xs,h=>by
    unfold RepL at h
    obtain ⟨y,r,e,h1,h2⟩:=h
    subst e
    rw [List.reverse_cons,List.reverse_cons]
    exact (RepL.reverse h2).append (.cons h1 .nil)
theorem RepL.ints:∀ (ns:List Int),RepL K H α (ns.map U.int) (ns.map V.int)
  | []=>.nil
  | n :: r=>.cons rfl (RepL.ints r)
end
def RO (K:PySem.W.Frag) (H:Hp) (a:Addr) (xs:List V):Prop:=
  (∃ o,H a = some (.frz o (.lst xs))) ∨ ∃ (o:Obj) (its:Array Value) (n:Nat),K.lookup a = some o ∧ o.cls = .type "list" ∧ o.dict = none ∧ o.data = .seq its n ∧ its.size ≤ sizeLine ∧ Vals xs its.toList
theorem RO.sq {K:PySem.W.Frag} {H:Hp} {a:Addr} {xs:List V} (h:RO K H a xs):SqL K H a xs:=by
  rcases h with ⟨o,h⟩ | h
  · exact .inl (.inr ⟨o,h⟩)
  · exact .inr h
theorem RO.stay {K:PySem.W.Frag} {H H':Hp} {a:Addr} {xs:List V} (st:Stay H H') (h:RO K H a xs):RO K H' a xs:=by
  rcases h with ⟨o,h⟩ | h
  · exact .inl ⟨o,st.2 _ _ _ h⟩
  · exact .inr h
def Ajh (a Ca:Addr) (dd:Option Addr) (fr:Bool) (h:Heap):Prop:=∃ (o:Obj) (vs:Array Value),h.get? a = some o ∧ o.cls = .ref Ca ∧ o.dict = dd ∧ o.data = .fields vs ∧ 1 < vs.size ∧ o.slots = #[] ∧ (fr = true → vs[1]? = some .none)
def DictIs (H:Hp) (dd:Option Addr) (vs:List (Str × V)):Prop:=match dd with
  | none=>vs = []
  | some dx=>vs ≠ [] ∧ ∃ od,H dx = some (.frz od (.xd vs))
theorem DictIs.stay {H H':Hp} {dd:Option Addr} {vs:List (Str × V)} (st:∀ b o ws,H b = some (.frz o (.xd ws)) → H' b = some (.frz o (.xd ws))) (h:DictIs H dd vs):DictIs H' dd vs:=by
  cases dd with
  | none=>exact h
  | some dx=>obtain ⟨ne,od,q⟩:=h; exact ⟨ne,od,st _ _ _ q⟩
def HRep (K:PySem.W.Frag) (H:Hp) (α:List Addr) (a:Addr):HU → Prop
  | .lst us=>∃ xs,H a = some (.lst xs) ∧ RepL K H α us xs
  | .ro us=>∃ xs,RO K H a xs ∧ RepL K H α us xs
  | .dic kvs=>∃ vs,H a = some (.dK vs) ∧ kvs.map (·.1) = vs.map (·.1) ∧ RepL K H α (kvs.map (·.2)) (vs.map (·.2))
  | .rod kvs=>∃ o vs,H a = some (.frz o (.dK vs)) ∧ kvs.map (·.1) = vs.map (·.1) ∧ RepL K H α (kvs.map (·.2)) (vs.map (·.2))
  | .ins C fs=>∃ Ca dx vs,PySem.W.nsIn K mainGlobals C = some (some (.ref Ca)) ∧ H a = some (.ins Ca dx vs) ∧ fs.map (·.1) = vs.map (·.1) ∧ RepL K H α (fs.map (·.2)) (vs.map (·.2))
  | .exc C fr fs=>∃ Ca dd vs,PySem.W.nsIn K mainGlobals C = some (some (.ref Ca)) ∧ H a = some (.ext (Ajh a Ca dd fr)) ∧ DictIs H dd vs ∧ fs.map (·.1) = vs.map (·.1) ∧ RepL K H α (fs.map (·.2)) (vs.map (·.2))
def HU.isRo:HU → Bool
  | .ro _=>true
  | _=>false
structure Abs (K:PySem.W.Frag) (H:Hp) (α:List Addr) (L:UH):Prop where
  len:α.length = L.length
  inj:∀ (i j:Nat) (a:Addr) (o o':HU),α[i]? = some a → α[j]? = some a → L[i]? = some o → L[j]? = some o' → i = j ∨ o.isRo = true ∨ o'.isRo = true
  rep:∀ (i:Nat) (a:Addr) (o:HU),α[i]? = some a → L[i]? = some o → HRep K H α a o
theorem Abs.addr {K:PySem.W.Frag} {H:Hp} {α:List Addr} {L:UH} (A:Abs K H α L) {n:Nat} {o:HU} (h:L[n]? = some o):∃ a,α[n]? = some a ∧ HRep K H α a o:=by
  have hn:n < α.length:=by rw [A.len]; exact (List.getElem?_eq_some_iff.mp h).1
  exact ⟨α[n],List.getElem?_eq_getElem hn,A.rep n _ o (List.getElem?_eq_getElem hn) h⟩
theorem HRep.other {K:PySem.W.Frag} {H H':Hp} {α α':List Addr} {a:Addr} {o:HU} (g:Gr H α H' α') (hs:o.isRo = true ∨ ∀ u,H a = some u → H' a = some u) (h:HRep K H α a o):HRep K H' α' a o:=by
  cases o with
  | lst us=>obtain ⟨xs,e,r⟩:=h; exact ⟨xs,(hs.resolve_left (by simp [HU.isRo])) _ e,r.mono g⟩
  | ro us=>obtain ⟨xs,e,r⟩:=h; exact ⟨xs,e.stay g.st,r.mono g⟩
  | dic kvs=>obtain ⟨vs,e,k,r⟩:=h; exact ⟨vs,(hs.resolve_left (by simp [HU.isRo])) _ e,k,r.mono g⟩
  | rod kvs=>obtain ⟨o,vs,e,k,r⟩:=h; exact ⟨o,vs,(hs.resolve_left (by simp [HU.isRo])) _ e,k,r.mono g⟩
  | ins C fs=>obtain ⟨Ca,dx,vs,n,e,k,r⟩:=h; exact ⟨Ca,dx,vs,n,(hs.resolve_left (by simp [HU.isRo])) _ e,k,r.mono g⟩
  | exc C fr fs=>obtain ⟨Ca,dd,vs,n,e,d,k,r⟩:=h; exact ⟨Ca,dd,vs,n,(hs.resolve_left (by simp [HU.isRo])) _ e,d.stay fun b o ws q=>g.st.2 b o _ q,k,r.mono g⟩
theorem HRep.some {K:PySem.W.Frag} {H:Hp} {α:List Addr} {a:Addr} {o:HU} (h:HRep K H α a o) (n:o.isRo = false):∃ u,H a = some u:=by
  cases o with
  | lst us=>obtain ⟨xs,e,r⟩:=h; exact ⟨_,e⟩
  | ro us=>simp [HU.isRo] at n
  | dic kvs=>obtain ⟨vs,e,k,r⟩:=h; exact ⟨_,e⟩
  | rod kvs=>obtain ⟨o,vs,e,k,r⟩:=h; exact ⟨_,e⟩
  | ins C fs=>obtain ⟨Ca,dx,vs,n',e,k,r⟩:=h; exact ⟨_,e⟩
  | exc C fr fs=>obtain ⟨Ca,dd,vs,n',e,k,r⟩:=h; exact ⟨_,e⟩
theorem Abs.new {K:PySem.W.Frag} {H:Hp} {α:List Addr} {L:UH} {p:Addr} {o:HO} {u:HU} (A:Abs K H α L) (hp:H p = none) (hr:HRep K (upd H p o) (α ++ [p]) p u) :
    Abs K (upd H p o) (α ++ [p]) (L ++ [u]) ∧ Gr H α (upd H p o) (α ++ [p]):=by
  have g:Gr H α (upd H p o) (α ++ [p]):=⟨⟨[p],rfl⟩,.new hp o⟩
  have hl:=A.len
  refine ⟨⟨by simp [hl],fun i j a o1 o2 e1 e2 e3 e4=>?_,fun i a o1 e1 e2=>?_⟩,g⟩
  · have fresh:∀ (k:Nat) (o3:HU),α[k]? = some p → L[k]? = some o3 → o3.isRo = true:=fun k o3 q1 q2=>by
      cases hh:o3.isRo with
      | true=>rfl
      | false=>
        obtain ⟨u3,q⟩:=(A.rep k p o3 q1 q2).some hh
        rw [hp] at q; cases q
    by_cases hi:i < α.length
    · rw [List.getElem?_append_left hi] at e1
      rw [List.getElem?_append_left (by omega)] at e3
      by_cases hj:j < α.length
      · rw [List.getElem?_append_left hj] at e2
        rw [List.getElem?_append_left (by omega)] at e4
        exact A.inj i j a o1 o2 e1 e2 e3 e4
      · rw [List.getElem?_append_right (by omega)] at e2
        have:a = p:=by
          cases hk:j - α.length with
          | zero=>rw [hk] at e2; simp at e2; exact e2.symm
          | succ k=>rw [hk] at e2; simp at e2
        subst this
        exact .inr (.inl (fresh i o1 e1 e3))
    · rw [List.getElem?_append_right (by omega)] at e1
      have hia:a = p ∧ i = α.length:=by
        cases hk:i - α.length with
        | zero=>rw [hk] at e1; simp at e1; exact ⟨e1.symm,by omega⟩
        | succ k=>rw [hk] at e1; simp at e1
      obtain ⟨rfl,hi'⟩:=hia
      by_cases hj:j < α.length
      · rw [List.getElem?_append_left hj] at e2
        rw [List.getElem?_append_left (by omega)] at e4
        exact .inr (.inr (fresh j o2 e2 e4))
      · rw [List.getElem?_append_right (by omega)] at e2
        have:j = α.length:=by
          cases hk:j - α.length with
          | zero=>omega
          | succ k=>rw [hk] at e2; simp at e2
        exact .inl (by omega)
  · by_cases hi:i < α.length
    · rw [List.getElem?_append_left hi] at e1
      rw [List.getElem?_append_left (by omega)] at e2
      refine (A.rep i a o1 e1 e2).other g ?_
      exact .inr fun u3 q=>by rw [Az (Be q hp)]; exact q
    · rw [List.getElem?_append_right (by omega)] at e1
      rw [List.getElem?_append_right (by omega)] at e2
      have h1:i - α.length = 0:=by
        cases hk:i - α.length with
        | zero=>rfl
        | succ k=>rw [hk] at e1; simp at e1
      rw [h1] at e1
      rw [show i - L.length = 0 by omega] at e2
      simp at e1 e2
      subst e1; subst e2
      exact hr
theorem Abs.put {K:PySem.W.Frag} {H:Hp} {α:List Addr} {L:UH} {p:Addr} {n:Nat} {o0 o:HO} {u0 u:HU} (A:Abs K H α L) (hn:α[n]? = some p) (hL:L[n]? = some u0) (hro:u0.isRo = false) (hro':u.isRo = false) (hp:H p = some o0) (hm:Mut (some o0)) (hr:HRep K (upd H p o) α p u) :
    Abs K (upd H p o) α (L.set n u) ∧ Gr H α (upd H p o) α:=by
  have g:Gr H α (upd H p o) α:=⟨⟨[],by simp⟩,.write hp hm o⟩
  have hl:=A.len
  have hlt:n < L.length:=(List.getElem?_eq_some_iff.mp hL).1
  have look:∀ (i:Nat) (o1:HU),(L.set n u)[i]? = some o1 → ∃ o2,L[i]? = some o2 ∧ o2.isRo = o1.isRo ∧ (i ≠ n → o2 = o1):=fun i o1 e=>by
    by_cases hi:n = i
    · subst hi
      rw [List.getElem?_set_self hlt] at e
      cases e
      exact ⟨u0,hL,by rw [hro,hro'],fun z=>absurd rfl z⟩
    · rw [List.getElem?_set_ne hi] at e
      exact ⟨o1,e,rfl,fun _=>rfl⟩
  refine ⟨⟨by simp [hl],fun i j a o1 o2 e1 e2 e3 e4=>?_,fun i a o1 e1 e2=>?_⟩,g⟩
  · obtain ⟨x1,q1,r1,_⟩:=look i o1 e3
    obtain ⟨x2,q2,r2,_⟩:=look j o2 e4
    rw [← r1,← r2]
    exact A.inj i j a x1 x2 e1 e2 q1 q2
  · by_cases hi:n = i
    · subst hi
      rw [List.getElem?_set_self hlt] at e2
      cases e2
      rw [hn] at e1; cases e1
      exact hr
    · rw [List.getElem?_set_ne hi] at e2
      refine (A.rep i a o1 e1 e2).other g ?_
      by_cases hap:a = p
      · subst hap
        rcases A.inj i n a o1 u0 e1 hn e2 hL with z | z | z
        · exact absurd z.symm hi
        · exact .inl z
        · rw [hro] at z; cases z
      · exact .inr fun u3 q=>by rw [Az hap]; exact q
structure RepS (K:PySem.W.Frag) (H:Hp) (α:List Addr) (δ:UE) (σ:L2.St):Prop where
  len:δ.length = σ.length
  at_:∀ (i:Nat) (u:U),δ[i]? = some (some u) → ∃ v,σ[i]? = some (some v) ∧ RepU K H α u v
theorem RepS.mono {K:PySem.W.Frag} {H H':Hp} {α α':List Addr} {δ:UE} {σ:L2.St} (g:Gr H α H' α') (h:RepS K H α δ σ):RepS K H' α' δ σ:=
  ⟨h.len,fun i u e=>let ⟨v,q,r⟩:=h.at_ i u e; ⟨v,q,r.mono g⟩⟩
theorem RepS.set {K:PySem.W.Frag} {H:Hp} {α:List Addr} {δ:UE} {σ:L2.St} (h:RepS K H α δ σ) (i:Nat) {u:U} {v:V} (r:RepU K H α u v):RepS K H α (δ.set i (some u)) (σ.set i (some v)):=
  ⟨by simp [h.len],fun j w e=>by
    by_cases hj:i = j
    · subst hj
      by_cases hi:i < δ.length
      · rw [List.getElem?_set_self hi] at e
        cases e
        exact ⟨v,List.getElem?_set_self (by rw [← h.len]; exact hi),r⟩
      · rw [List.getElem?_eq_none (by simpa using hi)] at e; cases e
    · rw [List.getElem?_set_ne hj] at e
      obtain ⟨v',q,r'⟩:=h.at_ j w e
      exact ⟨v',by rw [List.getElem?_set_ne hj]; exact q,r'⟩⟩
theorem RepS.start {K:PySem.W.Frag} {H:Hp} {α:List Addr} (N:List Str) {us:List U} {vs:List V} (h:RepL K H α us vs):RepS K H α (us.map some ++ List.replicate (N.length - us.length) none) (start N vs):=by
  have hl:=h.length
  refine ⟨by simp [L2.start,hl],fun i u e=>?_⟩
  by_cases hi:i < us.length
  · rw [List.getElem?_append_left (by simpa using hi),List.getElem?_map] at e
    cases q:us[i]? with
    | none=>rw [q] at e; simp at e
    | some w=>
      rw [q] at e
      simp at e
      subst e
      obtain ⟨x,e2,r⟩:=h.get q
      refine ⟨x,?_,r⟩
      unfold L2.start
      rw [List.getElem?_append_left (by simp; omega),List.getElem?_map,e2]; rfl
  · rw [List.getElem?_append_right (by simpa using hi)] at e
    have:=List.mem_of_getElem? e
    simp at this
abbrev FE:=UE → UH → Option (U × UH)
abbrev FT:=UE → UH → Option (Bool × UH)
abbrev FA:=UE → UH → Option (List U × UH)
def lE (K:PySem.W.Frag) (f:FE):TE:=fun σ H Q=>∃ α δ L,Abs K H α L ∧ RepS K H α δ σ ∧ ∃ u L',f δ L = some (u,L') ∧ ∀ v H' α',Gr H α H' α' → Abs K H' α' L' → RepU K H' α' u v → Q v H'
def lT (K:PySem.W.Frag) (f:FT):TT:=fun σ H Q=>∃ α δ L,Abs K H α L ∧ RepS K H α δ σ ∧ ∃ b L',f δ L = some (b,L') ∧ ∀ H' α',Gr H α H' α' → Abs K H' α' L' → Q b H'
def lA (K:PySem.W.Frag) (f:FA):TA:=fun σ H Q=>∃ α δ L,Abs K H α L ∧ RepS K H α δ σ ∧ ∃ us L',f δ L = some (us,L') ∧ ∀ vs H' α',Gr H α H' α' → Abs K H' α' L' → RepL K H' α' us vs → Q vs H'
def PEF (X:Cx) (e:Expr) (f:FE):Prop:=PE X e (lE X.K f)
def PTF (X:Cx) (e:Expr) (f:FT):Prop:=PT X e (lT X.K f)
def PWF (X:Cx) (e:Expr) (f:FT):Prop:=PW X e (lT X.K f)
def PAF (X:Cx) (es:List Expr) (f:FA):Prop:=PA X es (lA X.K f)
section
variable {X:Cx} {e:Expr} {es:List Expr}
theorem PE.imp {t t':TE} (h:PE X e t) (hi:∀ σ H Q,t' σ H Q → t σ H Q):PE X e t':=fun pins s σ H Q I q=>h pins s σ H Q I (hi σ H Q q)
theorem PT.imp {t t':TT} (h:PT X e t) (hi:∀ σ H Q,t' σ H Q → t σ H Q):PT X e t':=fun pins s σ H Q I q=>h pins s σ H Q I (hi σ H Q q)
theorem PW.imp {t t':TT} (h:PW X e t) (hi:∀ σ H Q,t' σ H Q → t σ H Q):PW X e t':=fun wh pins s σ H Q I q=>h wh pins s σ H Q I (hi σ H Q q)
theorem PA.imp {t t':TA} (h:PA X es t) (hi:∀ σ H Q,t' σ H Q → t σ H Q):PA X es t':=fun pos pins s σ H Q I q=>h pos pins s σ H Q I (hi σ H Q q)
end
def Ad (i:Nat):FE:=fun δ L=>(δ[i]?).join.map fun u=>(u,L)
def fC (u:U):FE:=fun _ L=>some (u,L)
section
variable {X:Cx} {a b c e:Expr} {pos:Pos}
theorem Ag (i:Nat) {x:Str} {pos:Pos} (hN:X.N[i]? = some x:=by rfl) (hv:Vis X.env.scope x:=by first | exact Or.inl rfl | exact Or.inr (Or.inl rfl) | exact Or.inr (Or.inr rfl))
    (hd:(x == ("__debug__" : Str)) = false:=by decide) (hcd:(x == ("__classdict__" : Str)) = false:=by decide):PEF X (.Name x pos) (Ad i):=by
  refine PE.imp (Afs hN hv hd hcd) ?_
  rintro σ H Q ⟨α,δ,L,A,S,u,L',e,q⟩
  unfold Ad at e
  cases h:δ[i]? with
  | none=>rw [h] at e; simp at e
  | some o=>
    cases o with
    | none=>rw [h] at e; simp at e
    | some w=>
      rw [h] at e
      simp at e
      obtain ⟨rfl,rfl⟩:=e
      obtain ⟨v,hv,r⟩:=S.at_ i w h
      exact ⟨v,hv,q v H α (.refl _ _) A r⟩
theorem Ag6 {v:V} {u:U} (h:PE X e (tC v)) (r:∀ H α,RepU X.K H α u v):PEF X e (fC u):=by
  refine PE.imp h ?_
  rintro σ H Q ⟨α,δ,L,A,S,w,L',e,q⟩
  unfold fC at e
  cases e
  exact q v H α (.refl _ _) A (r H α)
theorem Ah {i:Int} {j pos}:PEF X (.Constant (.int i) j pos) (fC (.int i)):=Ag6 Ae4 fun _ _=>rfl
theorem Hz {b:Bool} {j pos}:PEF X (.Constant (.bool b) j pos) (fC (.bl b)):=Ag6 Ahx fun _ _=>rfl
theorem Db {x:Str} {j pos}:PEF X (.Constant (.str x) j pos) (fC (.str x)):=Ag6 Ahl fun _ _=>rfl
abbrev S2:=U → U → UH → Option (U × UH)
def C4 (K:PySem.W.Frag) (r:R2) (sem:S2):Prop:=∀ (H:Hp) (α:List Addr) (L:UH) (u w:U) (x y:V) (z:U) (L':UH) (Q:VK),Abs K H α L → RepU K H α u x → RepU K H α w y → sem u w L = some (z,L') →
  (∀ v H' α',Gr H α H' α' → Abs K H' α' L' → RepU K H' α' z v → Q v H') → r x y H Q
def f2 (sem:S2) (fa fb:FE):FE:=fun δ L=>(fa δ L).bind fun p=>(fb δ p.2).bind fun q=>sem p.1 q.1 q.2
theorem Vi {K:PySem.W.Frag} {r:R2} {sem:S2} {fa fb:FE} (h:C4 K r sem):∀ σ H Q,lE K (f2 sem fa fb) σ H Q → tOp r (lE K fa) (lE K fb) σ H Q:=by
  rintro σ H Q ⟨α,δ,L,A,S,z,L3,e,q⟩
  obtain ⟨⟨u,L1⟩,e1,e⟩:=Option.bind_eq_some_iff.mp e
  obtain ⟨⟨w,L2⟩,e2,e3⟩:=Option.bind_eq_some_iff.mp e
  refine ⟨α,δ,L,A,S,u,L1,e1,fun x H1 α1 g1 A1 r1=>⟨α1,δ,L1,A1,S.mono g1,w,L2,e2,fun y H2 α2 g2 A2 r2=>?_⟩⟩
  exact h H2 α2 L2 u w x y z L3 Q A2 (r1.mono g2) r2 e3 fun v H3 α3 g3 A3 r3=>q v H3 α3 (g1.trans (g2.trans g3)) A3 r3
theorem Au {op:Operator} {r:R2} {sem:S2} {fa fb:FE} (ho:OpR X (binaryOp op) r) (h:C4 X.K r sem) (ha:PEF X a fa) (hb:PEF X b fb):PEF X (.BinOp a op b pos) (f2 sem fa fb):=PE.imp (Aiy ho ha hb) (Vi h)
theorem Il {op:CmpOp} {r:R2} {sem:S2} {fa fb:FE} (ho:OpR X (compareOp op) r) (h:C4 X.K r sem) (ha:PEF X a fa) (hb:PEF X b fb) (hm:behindInMarks op b = false):PEF X (.Compare a [op] [b] pos) (f2 sem fa fb):=PE.imp (Ab0 ho ha hb hm) (Vi h)
def Bk (f:FE):FT:=fun δ L=>(f δ L).bind fun p=>match p.1 with | .bl k=>some (k,p.2) | _=>none
theorem Acz {K:PySem.W.Frag} {t:TE} {f:FE} (ht:∀ σ H Q,lE K f σ H Q → t σ H Q):∀ σ H Q,lT K (Bk f) σ H Q → Aej t σ H Q:=by
  rintro σ H Q ⟨α,δ,L,A,S,b,L1,e,q⟩
  obtain ⟨⟨u,L2⟩,e1,e⟩:=Option.bind_eq_some_iff.mp e
  refine ht σ H _ ⟨α,δ,L,A,S,u,L2,e1,fun x H1 α1 g1 A1 r1=>?_⟩
  cases u with
  | bl k=>simp at e; obtain ⟨rfl,rfl⟩:=e; exact ⟨k,r1,q H1 α1 g1 A1⟩
  | _=>simp at e
theorem Bo {op:CmpOp} {r:R2} {sem:S2} {fa fb:FE} (ho:OpR X (compareOp op) r) (h:C4 X.K r sem) (ha:PEF X a fa) (hb:PEF X b fb) (hm:behindInMarks op b = false):PTF X (.Compare a [op] [b] pos) (Bk (f2 sem fa fb)):=PT.imp (Ab8 ho ha hb hm) (Acz (Vi h))
end
end MR
set_option Elab.async false
set_option linter.all false
set_option maxRecDepth 100000
set_option maxHeartbeats 1000000
namespace MR
open PySem PySem.Spec PyProof.Rows L2
section
variable {X:Cx} {a b c e:Expr} {pos:Pos} {rest:List Expr}
def Om (f g:FT):FT:=fun δ L=>(f δ L).bind fun p=>if p.1 = true then g δ p.2 else some (false,p.2)
def fOr (f g:FT):FT:=fun δ L=>(f δ L).bind fun p=>if p.1 = true then some (true,p.2) else g δ p.2
def Xs (f:FT):FT:=fun δ L=>(f δ L).map fun p=>(!p.1,p.2)
def U1 (f g:FE):FE:=fun δ L=>(f δ L).bind fun p=>match p.1 with | .bl k=>if k = true then g δ p.2 else some (.bl false,p.2) | _=>none
def Afx (f g:FE):FE:=fun δ L=>(f δ L).bind fun p=>match p.1 with | .bl k=>if k = true then some (.bl true,p.2) else g δ p.2 | _=>none
def Ajd (f:FE):FE:=fun δ L=>(f δ L).bind fun p=>match p.1 with | .bl k=>some (.bl (!k),p.2) | _=>none
def fIf (c:FT) (f g:FE):FE:=fun δ L=>(c δ L).bind fun p=>if p.1 = true then f δ p.2 else g δ p.2
theorem Nh {f:FT} (ha:PTF X a f):PWF X (.BoolOp .And [a] pos) f:=Acc ha
theorem Mr {f:FT} (ha:PTF X a f):PWF X (.BoolOp .Or [a] pos) f:=Ae7 ha
theorem Qn {f g:FT} (ha:PTF X a f) (hb:PWF X (.BoolOp .And (b :: rest) pos) g):PWF X (.BoolOp .And (a :: b :: rest) pos) (Om f g):=by
  refine PW.imp (Agn ha hb) ?_
  rintro σ H Q ⟨α,δ,L,A,S,z,L3,e,q⟩
  obtain ⟨⟨u,L1⟩,e1,e⟩:=Option.bind_eq_some_iff.mp e
  refine ⟨α,δ,L,A,S,u,L1,e1,fun H1 α1 g1 A1=>?_⟩
  cases u with
  | true=>exact To ⟨α1,δ,L1,A1,S.mono g1,z,L3,e,fun H2 α2 g2 A2=>q H2 α2 (g1.trans g2) A2⟩
  | false=>cases e; exact Ts (q H1 α1 g1 A1)
theorem Qw {f g:FT} (ha:PTF X a f) (hb:PWF X (.BoolOp .Or (b :: rest) pos) g):PWF X (.BoolOp .Or (a :: b :: rest) pos) (fOr f g):=by
  refine PW.imp (Ai1 ha hb) ?_
  rintro σ H Q ⟨α,δ,L,A,S,z,L3,e,q⟩
  obtain ⟨⟨u,L1⟩,e1,e⟩:=Option.bind_eq_some_iff.mp e
  refine ⟨α,δ,L,A,S,u,L1,e1,fun H1 α1 g1 A1=>?_⟩
  cases u with
  | false=>exact Ts ⟨α1,δ,L1,A1,S.mono g1,z,L3,e,fun H2 α2 g2 A2=>q H2 α2 (g1.trans g2) A2⟩
  | true=>cases e; exact To (q H1 α1 g1 A1)
theorem PWF.pt {f:FT} (h:PWF X e f):PTF X e f:=PW.pt h
theorem Rf {f:FT} (ha:PTF X a f):PTF X (.UnaryOp .Not a pos) (Xs f):=by
  refine PT.imp (Aey ha) ?_
  rintro σ H Q ⟨α,δ,L,A,S,z,L3,e,q⟩
  obtain ⟨⟨u,L1⟩,e1,e⟩:=Option.map_eq_some_iff.mp e
  cases e
  exact ⟨α,δ,L,A,S,u,L1,e1,fun H1 α1 g1 A1=>q H1 α1 g1 A1⟩
theorem Tg {op} {f:FE} (h:PEF X a f):PEF X (.BoolOp op [a] pos) f:=Agt h
theorem Aaq {f g:FE} (ha:PEF X a f) (hb:PEF X (.BoolOp .And (b :: rest) pos) g):PEF X (.BoolOp .And (a :: b :: rest) pos) (U1 f g):=by
  refine PE.imp (Afz ha hb) ?_
  rintro σ H Q ⟨α,δ,L,A,S,z,L3,e,q⟩
  obtain ⟨⟨u,L1⟩,e1,e⟩:=Option.bind_eq_some_iff.mp e
  refine ⟨α,δ,L,A,S,u,L1,e1,fun v H1 α1 g1 A1 r1=>?_⟩
  cases u with
  | bl k=>
    cases k with
    | true=>exact ⟨true,r1,To ⟨α1,δ,L1,A1,S.mono g1,z,L3,e,fun v H2 α2 g2 A2 r=>q v H2 α2 (g1.trans g2) A2 r⟩⟩
    | false=>cases e; exact ⟨false,r1,Ts (q _ H1 α1 g1 A1 rfl)⟩
  | _=>simp at e
theorem Aik {f g:FE} (ha:PEF X a f) (hb:PEF X (.BoolOp .Or (b :: rest) pos) g):PEF X (.BoolOp .Or (a :: b :: rest) pos) (Afx f g):=by
  refine PE.imp (Ahz ha hb) ?_
  rintro σ H Q ⟨α,δ,L,A,S,z,L3,e,q⟩
  obtain ⟨⟨u,L1⟩,e1,e⟩:=Option.bind_eq_some_iff.mp e
  refine ⟨α,δ,L,A,S,u,L1,e1,fun v H1 α1 g1 A1 r1=>?_⟩
  cases u with
  | bl k=>
    cases k with
    | false=>exact ⟨false,r1,Ts ⟨α1,δ,L1,A1,S.mono g1,z,L3,e,fun v H2 α2 g2 A2 r=>q v H2 α2 (g1.trans g2) A2 r⟩⟩
    | true=>cases e; exact ⟨true,r1,To (q _ H1 α1 g1 A1 rfl)⟩
  | _=>simp at e
def Af:FA:=fun _ L=>some ([],L)
def Ac (f:FE) (g:FA):FA:=fun δ L=>(f δ L).bind fun p=>(g δ p.2).map fun q=>(p.1 :: q.1,q.2)
theorem Ae:PAF X [] Af:=by
  refine PA.imp Ahg ?_
  rintro σ H Q ⟨α,δ,L,A,S,z,L3,e,q⟩
  cases e
  exact q [] H α (.refl _ _) A .nil
theorem Aa {es:List Expr} {f:FE} {g:FA} (ha:PEF X e f) (hr:PAF X es g) (hs:starEach (e :: es) X.env = (false,eval e X.env) :: starEach es X.env:=by rfl):PAF X (e :: es) (Ac f g):=by
  refine PA.imp (Ace ha hr hs) ?_
  rintro σ H Q ⟨α,δ,L,A,S,z,L3,e,q⟩
  obtain ⟨⟨u,L1⟩,e1,e⟩:=Option.bind_eq_some_iff.mp e
  obtain ⟨⟨us,L2⟩,e2,e⟩:=Option.map_eq_some_iff.mp e
  cases e
  exact ⟨α,δ,L,A,S,u,L1,e1,fun x H1 α1 g1 A1 r1=>⟨α1,δ,L1,A1,S.mono g1,us,L2,e2,fun xs H2 α2 g2 A2 r2=>q (x :: xs) H2 α2 (g1.trans g2) A2 (.cons (r1.mono g2) r2)⟩⟩
def B9 (n:Nat):Bool:=decide (n ≤ sizeLine)
def Em (g:FA):FE:=fun δ L=>(g δ L).bind fun p=>if B9 p.1.length = true then some (.tup p.1,p.2) else none
def C5 (g:FA):FE:=fun δ L=>(g δ L).bind fun p=>if B9 p.1.length = true then some (.ref p.2.length,p.2 ++ [.lst p.1]) else none
theorem Dy {n:Nat} (h:B9 n = true):n ≤ sizeLine:=of_decide_eq_true h
theorem Abs.tup {K:PySem.W.Frag} {H:Hp} {α:List Addr} {L:UH} {p:Addr} {us:List U} {xs:List V} (A:Abs K H α L) (r:RepL K H α us xs) (hp:H p = none) :
    Gr H α (upd H p (.tup xs)) α ∧ Abs K (upd H p (.tup xs)) α L ∧ RepU K (upd H p (.tup xs)) α (.tup us) (.ref p):=by
  have g:Gr H α (upd H p (.tup xs)) α:=⟨⟨[],by simp⟩,.new hp _⟩
  refine ⟨g,⟨A.len,A.inj,fun i a o e1 e2=>(A.rep i a o e1 e2).other g (.inr fun u q=>by rw [Az (Be q hp)]; exact q)⟩,?_⟩
  unfold RepU
  exact ⟨p,xs,rfl,.of Es,r.mono g⟩
theorem Abs.lst {K:PySem.W.Frag} {H:Hp} {α:List Addr} {L:UH} {p:Addr} {us:List U} {xs:List V} (A:Abs K H α L) (r:RepL K H α us xs) (hp:H p = none) :
    Gr H α (upd H p (.lst xs)) (α ++ [p]) ∧ Abs K (upd H p (.lst xs)) (α ++ [p]) (L ++ [.lst us]) ∧ RepU K (upd H p (.lst xs)) (α ++ [p]) (.ref L.length) (.ref p):=by
  have g:Gr H α (upd H p (.lst xs)) (α ++ [p]):=⟨⟨[p],rfl⟩,.new hp _⟩
  obtain ⟨A',_⟩:=A.new (o:=.lst xs) (u:=.lst us) hp ⟨xs,Es,r.mono g⟩
  refine ⟨g,A',?_⟩
  unfold RepU
  exact ⟨p,by rw [← A.len]; simp,rfl⟩
theorem D8 {es:List Expr} {g:FA} {x1} (h:PAF X es g):PEF X (.Tuple es x1 pos) (Em g):=by
  refine PE.imp (Ahm h) ?_
  rintro σ H Q ⟨α,δ,L,A,S,z,L3,e,q⟩
  obtain ⟨⟨us,L1⟩,e1,e⟩:=Option.bind_eq_some_iff.mp e
  refine ⟨α,δ,L,A,S,us,L1,e1,fun xs H1 α1 g1 A1 r1=>?_⟩
  simp only at e
  split at e
  · rename_i hs
    cases e
    refine ⟨by rw [← r1.length]; exact Dy hs,fun p hp=>?_⟩
    obtain ⟨g2,A2,r2⟩:=A1.tup r1 hp
    exact q _ _ α1 (g1.trans g2) A2 r2
  · cases e
theorem Dx {es:List Expr} {g:FA} (h:PAF X es g):PEF X (.List es pos) (C5 g):=by
  refine PE.imp (Af3 h) ?_
  rintro σ H Q ⟨α,δ,L,A,S,z,L3,e,q⟩
  obtain ⟨⟨us,L1⟩,e1,e⟩:=Option.bind_eq_some_iff.mp e
  refine ⟨α,δ,L,A,S,us,L1,e1,fun xs H1 α1 g1 A1 r1=>?_⟩
  simp only at e
  split at e
  · rename_i hs
    cases e
    refine ⟨by rw [← r1.length]; exact Dy hs,fun p hp=>?_⟩
    obtain ⟨g2,A2,r2⟩:=A1.lst r1 hp
    exact q _ _ _ (g1.trans g2) A2 r2
  · cases e
abbrev SC:=List U → UH → Option (U × UH)
def Ld (K:PySem.W.Frag) (r:List V → Hp → VK → Prop) (sem:SC):Prop:=∀ (H:Hp) (α:List Addr) (L:UH) (us:List U) (xs:List V) (z:U) (L':UH) (Q:VK),Abs K H α L → RepL K H α us xs → sem us L = some (z,L') →
  (∀ v H' α',Gr H α H' α' → Abs K H' α' L' → RepU K H' α' z v → Q v H') → r xs H Q
def A8 (sem:SC) (g:FA):FE:=fun δ L=>(g δ L).bind fun p=>sem p.1 p.2
theorem Aes {K:PySem.W.Frag} {r:List V → Hp → VK → Prop} {sem:SC} {g:FA} (h:Ld K r sem):∀ σ H Q,lE K (A8 sem g) σ H Q → tCB r (lA K g) σ H Q:=by
  rintro σ H Q ⟨α,δ,L,A,S,z,L3,e,q⟩
  obtain ⟨⟨us,L1⟩,e1,e⟩:=Option.bind_eq_some_iff.mp e
  exact ⟨α,δ,L,A,S,us,L1,e1,fun xs H1 α1 g1 A1 r1=>h H1 α1 L1 us xs z L3 Q A1 r1 e fun v H2 α2 g2 A2 r2=>q v H2 α2 (g1.trans g2) A2 r2⟩
variable {x:Str} {p:Pos} {es:List Expr} {id T:String} {r:List V → Hp → VK → Prop} {sem:SC} {g:FA}
theorem Bu (hc:CallR X (.builtin id) r) (h:Ld X.K r sem) (hg:Gl X x) (hm:X.mg x = none) (hv:bootBuiltins x = some (.builtin id)) (ha:PAF X (e :: es) g) (hn:x ≠ "__name__" := by decide) (hdb:(x == ("__debug__" : Str)) = false:=by decide)
    (he:starEach (e :: es) X.env = (false,eval e X.env) :: starEach es X.env:=by rfl) (hpl:(backTo pos (starEach es X.env)).any (·.1) = false:=by rfl) :
    PEF X (.Call (.Name x p) (e :: es) [] pos) (A8 sem g):=PE.imp (Yi hc hg hm hv ha hn hdb he hpl) (Aes h)
theorem B4 (hc:CallR X (.type T) r) (h:Ld X.K r sem) (hg:Gl X x) (hm:X.mg x = none) (hv:bootBuiltins x = some (.type T)) (ha:PAF X (e :: es) g) (hn:x ≠ "__name__" := by decide) (hdb:(x == ("__debug__" : Str)) = false:=by decide)
    (he:starEach (e :: es) X.env = (false,eval e X.env) :: starEach es X.env:=by rfl) (hpl:(backTo pos (starEach es X.env)).any (·.1) = false:=by rfl) :
    PEF X (.Call (.Name x p) (e :: es) [] pos) (A8 sem g):=PE.imp (Wk hc hg hm hv ha hn hdb he hpl) (Aes h)
abbrev SM:=U → List U → UH → Option (U × UH)
def Aaj (K:PySem.W.Frag) (r:V → List V → Hp → VK → Prop) (sem:SM):Prop:=∀ (H:Hp) (α:List Addr) (L:UH) (u:U) (us:List U) (x:V) (xs:List V) (z:U) (L':UH) (Q:VK),Abs K H α L → RepU K H α u x → RepL K H α us xs → sem u us L = some (z,L') →
  (∀ v H' α',Gr H α H' α' → Abs K H' α' L' → RepU K H' α' z v → Q v H') → r x xs H Q
def tyU (T:String) (u:U) (L:UH):Bool:=match u with
  | .str _=>T == "str"
  | .int _=>T == "int"
  | .ref n=>match L[n]? with
    | some (.lst _)=>T == "list"
    | some (.ro _)=>T == "list"
    | some (.dic _)=>T == "dict"
    | _=>false
  | _=>false
theorem Afk {K:PySem.W.Frag} {H:Hp} {α:List Addr} {L:UH} {u:U} {x:V} (A:Abs K H α L) (r:RepU K H α u x) (h:tyU T u L = true):tyV K T x H:=by
  cases u with
  | str y=>unfold RepU at r; subst r; simpa [tyU,tyV] using h
  | int i=>unfold RepU at r; subst r; simpa [tyU,tyV] using h
  | ref n=>
    unfold RepU at r
    obtain ⟨a,ea,rfl⟩:=r
    unfold tyU at h
    simp only at h
    cases q:L[n]? with
    | none=>rw [q] at h; simp at h
    | some o=>
      have hr:=A.rep n a o ea q
      rw [q] at h
      cases o with
      | lst us=>simp at h; obtain ⟨xs,e,_⟩:=hr; exact .inl ⟨h,xs,.of e⟩
      | ro us=>simp at h; obtain ⟨xs,e,_⟩:=hr; exact .inl ⟨h,xs,e.sq⟩
      | dic kvs=>simp at h; obtain ⟨vs,e,_⟩:=hr; exact .inr (.inr (.inl ⟨h,.inl ⟨vs,e⟩⟩))
      | rod kvs=>simp at h
      | ins C fs=>simp at h
      | exc C fr fs=>simp at h
  | non=>simp [tyU] at h
  | bl b=>simp [tyU] at h
  | tup l=>simp [tyU] at h
def Fn (T:String) (sem:SM) (f:FE) (g:FA):FE:=fun δ L=>(f δ L).bind fun p=>if tyU T p.1 p.2 = true then (g δ p.2).bind fun q=>sem p.1 q.1 q.2 else none
theorem Ajk {K:PySem.W.Frag} {r:V → List V → Hp → VK → Prop} {sem:SM} {f:FE} {g:FA} (h:Aaj K r sem):∀ σ H Q,lE K (Fn T sem f g) σ H Q → tBM K T r (lE K f) (lA K g) σ H Q:=by
  rintro σ H Q ⟨α,δ,L,A,S,z,L3,e,q⟩
  obtain ⟨⟨u,L1⟩,e1,e⟩:=Option.bind_eq_some_iff.mp e
  simp only at e
  split at e
  · rename_i ht
    obtain ⟨⟨us,L2⟩,e2,e⟩:=Option.bind_eq_some_iff.mp e
    refine ⟨α,δ,L,A,S,u,L1,e1,fun x H1 α1 g1 A1 r1=>⟨Afk A1 r1 ht,α1,δ,L1,A1,S.mono g1,us,L2,e2,fun xs H2 α2 g2 A2 r2=>?_⟩⟩
    exact h H2 α2 L2 u us x xs z L3 Q A2 (r1.mono g2) r2 e fun v H3 α3 g3 A3 r3=>q v H3 α3 (g1.trans (g2.trans g3)) A3 r3
  · cases e
section
variable {o e:Expr} {es:List Expr} {f:FE} {g:FA} {name:Str} {apos cpos:Pos} {T id:String} {r:V → List V → Hp → VK → Prop} {sem:SM}
theorem N6 (pa:PlainAttrs T) (slot:Slot T name id) (hty:typeOf (.builtin id) = pure (.type "method_descriptor")) (hm:MtR X id r) (h:Aaj X.K r sem) (ho:PEF X o f) (ha:PAF X (e :: es) g)
    (hbase:attributeBase o name X.env (eval o X.env) = eval o X.env:=by rfl)
    (hfew:((backTo cpos (starEach (e :: es) X.env)).all (fun x=>!x.1) && (backToKw cpos (keywordEach [] X.env)).all (fun x=>x.1.isSome) && decide ((e :: es).length + ([]:List Keyword).length + (if ([]:List Keyword).isEmpty then 0 else 1) < 30)) = true:=by rfl)
    (hline:(apos.endLine == cpos.line) = true:=by rfl) (hst:starEach (e :: es) X.env = (false,eval e X.env) :: starEach es X.env:=by rfl) (hpl:(backTo cpos (starEach es X.env)).any (·.1) = false:=by rfl) :
    PEF X (.Call (.Attribute o name apos) (e :: es) [] cpos) (Fn T sem f g):=
  PE.imp (Aip pa slot hty hm ho ha hbase hfew hline hst hpl) (Ajk h)
end
end
end MR
set_option Elab.async false
set_option linter.all false
set_option maxRecDepth 100000
set_option maxHeartbeats 1000000
namespace MR
open PySem PySem.Spec PyProof.Rows L2
abbrev FN:=List U → UH → Option (U × UH)
def spF (K:PySem.W.Frag) (n:Nat) (f:FN):Sp:=fun vs H Q _=>∃ α L us,Abs K H α L ∧ RepL K H α us vs ∧ us.length = n ∧ ∃ u L',f us L = some (u,L') ∧ ∀ v H' α',Gr H α H' α' → Abs K H' α' L' → RepU K H' α' u v → Q v H'
section
variable {X:Cx} {a b c e o:Expr} {es:List Expr} {pos p:Pos} {x:Str} {k:Nat} {f:Addr} {fd:FuncData} {ps:List Str} {F:FN} {g:FA} {fa fb fc:FE}
def Av (n:Nat) (F:FN) (g:FA):FE:=fun δ L=>(g δ L).bind fun p=>if p.1.length = n then F p.1 p.2 else none
theorem Ak {n:Nat} (hF:FnOk X.prog X.w X.K X.mg X.base CX0 k f fd ps (spF X.K n F)) (hr:Room k X.A) (hg:Gl X x) (hm:X.mg x = some (.ref f)) (hk:PySem.W.keepIn X.K (.ref f) = true) (hb:Binds X.K fd ps [])
    (ha:PAF X (e :: es) g) (hdb:(x == ("__debug__" : Str)) = false:=by decide) (he:starEach (e :: es) X.env = (false,eval e X.env) :: starEach es X.env:=by rfl) (hpl:(backTo pos (starEach es X.env)).any (·.1) = false:=by rfl) :
    PEF X (.Call (.Name x p) (e :: es) [] pos) (Av n F g):=by
  refine PE.imp (Aed hF hr hg hm hk hb .nil Aia ha hdb he hpl) ?_
  rintro σ H Q ⟨α,δ,L,A,S,z,L3,e,q⟩
  obtain ⟨⟨us,L1⟩,e1,e⟩:=Option.bind_eq_some_iff.mp e
  simp only at e
  split at e
  · rename_i hl
    refine ⟨α,δ,L,A,S,us,L1,e1,fun xs H1 α1 g1 A1 r1=>?_⟩
    exact ⟨α1,L1,us,A1,by rw [List.append_nil]; exact r1,hl,z,L3,e,fun v H2 α2 g2 A2 r2=>q v H2 α2 (g1.trans g2) A2 r2⟩
  · cases e
theorem Bw {r:R2} {sem:S2} (hr:IxR X r) (h:C4 X.K r sem) (ha:PEF X a fa) (hb:PEF X b fb) (hs:Vy b):PEF X (.Subscript a b pos) (f2 sem fa fb):=PE.imp (Ajj hr ha hb hs) (Vi h)
abbrev FO:=UE → UH → Option (Option Int × UH)
def lO (K:PySem.W.Frag) (f:FO):TO:=fun σ H Q=>∃ α δ L,Abs K H α L ∧ RepS K H α δ σ ∧ ∃ i L',f δ L = some (i,L') ∧ ∀ H' α',Gr H α H' α' → Abs K H' α' L' → Q i H'
def POF (X:Cx) (e:Option Expr) (f:FO):Prop:=PO X e (lO X.K f)
def Bl:FO:=fun _ L=>some (none,L)
def B7 (f:FE):FO:=fun δ L=>(f δ L).bind fun p=>match p.1 with | .int i=>some (some i,p.2) | _=>none
theorem PO.imp {e:Option Expr} {t t':TO} (h:PO X e t) (hi:∀ σ H Q,t' σ H Q → t σ H Q):PO X e t':=fun pins s σ H Q I q=>h pins s σ H Q I (hi σ H Q q)
theorem Dz:POF X none Bl:=by
  refine PO.imp Ac2 ?_
  rintro σ H Q ⟨α,δ,L,A,S,z,L3,e,q⟩
  cases e
  exact q H α (.refl _ _) A
theorem Ci (h:PEF X e fa):POF X (some e) (B7 fa):=by
  refine PO.imp (Aee h) ?_
  rintro σ H Q ⟨α,δ,L,A,S,z,L3,e,q⟩
  obtain ⟨⟨u,L1⟩,e1,e⟩:=Option.bind_eq_some_iff.mp e
  refine ⟨α,δ,L,A,S,u,L1,e1,fun x H1 α1 g1 A1 r1=>?_⟩
  cases u with
  | int i=>cases e; exact ⟨i,r1,q H1 α1 g1 A1⟩
  | _=>simp at e
abbrev SS:=U → Option Int → Option Int → UH → Option (U × UH)
def Vw (K:PySem.W.Frag) (r:V → Option Int → Option Int → Hp → VK → Prop) (sem:SS):Prop:=∀ (H:Hp) (α:List Addr) (L:UH) (u:U) (x:V) (lo hi:Option Int) (z:U) (L':UH) (Q:VK),Abs K H α L → RepU K H α u x → sem u lo hi L = some (z,L') →
  (∀ v H' α',Gr H α H' α' → Abs K H' α' L' → RepU K H' α' z v → Q v H') → r x lo hi H Q
def fSl (sem:SS) (f:FE) (l h:FO):FE:=fun δ L=>(f δ L).bind fun p=>(l δ p.2).bind fun q=>(h δ q.2).bind fun r=>sem p.1 q.1 r.1 r.2
theorem C9 {r:V → Option Int → Option Int → Hp → VK → Prop} {sem:SS} {lo hi:Option Expr} {fl fh:FO} {p2:Pos} (hr:SlR X r) (h:Vw X.K r sem) (he:PEF X e fa) (hl:POF X lo fl) (hu:POF X hi fh):PEF X (.Subscript e (.Slice lo hi none p2) pos) (fSl sem fa fl fh):=by
  refine PE.imp (Aab hr he hl hu) ?_
  rintro σ H Q ⟨α,δ,L,A,S,z,L3,e,q⟩
  obtain ⟨⟨u,L1⟩,e1,e⟩:=Option.bind_eq_some_iff.mp e
  obtain ⟨⟨i,L2⟩,e2,e⟩:=Option.bind_eq_some_iff.mp e
  obtain ⟨⟨j,L4⟩,e3,e⟩:=Option.bind_eq_some_iff.mp e
  refine ⟨α,δ,L,A,S,u,L1,e1,fun x H1 α1 g1 A1 r1=>⟨α1,δ,L1,A1,S.mono g1,i,L2,e2,fun H2 α2 g2 A2=>⟨α2,δ,L2,A2,(S.mono g1).mono g2,j,L4,e3,fun H3 α3 g3 A3=>?_⟩⟩⟩
  exact h H3 α3 L4 u x i j z L3 Q A3 ((r1.mono g2).mono g3) e fun v H4 α4 g4 A4 r4=>q v H4 α4 (g1.trans (g2.trans (g3.trans g4))) A4 r4
def X6 (f:FE):FE:=fun δ L=>(f δ L).bind fun p=>match p.1 with | .int i=>some (.int (-i),p.2) | _=>none
theorem Th (ha:PEF X a fa):PEF X (.UnaryOp .USub a pos) (X6 fa):=by
  refine PE.imp (Aiz Ag5 ha) ?_
  rintro σ H Q ⟨α,δ,L,A,S,z,L3,e,q⟩
  obtain ⟨⟨u,L1⟩,e1,e⟩:=Option.bind_eq_some_iff.mp e
  refine ⟨α,δ,L,A,S,u,L1,e1,fun x H1 α1 g1 A1 r1=>?_⟩
  cases u with
  | int i=>cases e; exact ⟨i,r1,q _ H1 α1 g1 A1 rfl⟩
  | _=>simp at e
def Op (u:U) (L:UH):Option Bool:=match u with
  | .non=>some false
  | .bl b=>some b
  | .int i=>some (i != 0)
  | .str y=>if B9 y.length = true then some ((y.length:Int) != 0) else none
  | .tup l=>some (!l.isEmpty)
  | .ref n=>match L[n]? with
    | some (.lst xs)=>some (!xs.isEmpty)
    | some (.ro xs)=>some (!xs.isEmpty)
    | some (.dic kvs)=>some (!kvs.isEmpty)
    | _=>none
theorem Gu {α β:Type} {l:List α} {m:List β} (h:l.length = m.length):l.isEmpty = m.isEmpty:=by
  cases l <;> cases m <;> simp_all
theorem Abw {K:PySem.W.Frag} {H:Hp} {α:List Addr} {L:UH} {u:U} {x:V} {k:Bool} (A:Abs K H α L) (r:RepU K H α u x) (h:Op u L = some k):Agl K x H k:=by
  cases u with
  | non=>unfold RepU at r; subst r; exact (Option.some.inj h).symm
  | bl b=>unfold RepU at r; subst r; exact (Option.some.inj h).symm
  | int i=>unfold RepU at r; subst r; exact (Option.some.inj h).symm
  | str y=>
    unfold RepU at r; subst r
    unfold Op at h
    simp only at h
    split at h
    · rename_i hs; cases h; exact ⟨Dy hs,rfl⟩
    · cases h
  | tup l=>
    unfold RepU at r
    obtain ⟨a,xs,rfl,s,r⟩:=r
    exact .inr (.inl ⟨xs,s,by rw [← Gu r.length]; exact (Option.some.inj h).symm⟩)
  | ref n=>
    unfold RepU at r
    obtain ⟨a,ea,rfl⟩:=r
    unfold Op at h
    simp only at h
    cases q:L[n]? with
    | none=>rw [q] at h; simp at h
    | some o=>
      have hr:=A.rep n a o ea q
      rw [q] at h
      cases o with
      | lst us=>obtain ⟨xs,e,r⟩:=hr; exact .inl ⟨xs,.of e,by rw [← Gu r.length]; exact (Option.some.inj h).symm⟩
      | ro us=>obtain ⟨xs,e,r⟩:=hr; exact .inl ⟨xs,e.sq,by rw [← Gu r.length]; exact (Option.some.inj h).symm⟩
      | dic kvs=>obtain ⟨vs,e,ek,_⟩:=hr; exact .inr (.inr ⟨vs,e,by rw [← Gu (show kvs.length = vs.length by simpa using congrArg List.length ek)]; exact (Option.some.inj h).symm⟩)
      | rod kvs=>simp at h
      | ins C fs=>simp at h
      | exc C fr fs=>simp at h
def O0 (f:FE):FT:=fun δ L=>(f δ L).bind fun p=>(Op p.1 p.2).map fun k=>(k,p.2)
theorem Jh (ha:PEF X a fa) (he:∀ whole,isTrue a X.env whole = (do let v ← whole; standAt a.pos; holding [v] (truthy v)):=by intro _; rfl):PTF X a (O0 fa):=by
  refine PT.imp (Ys ha he) ?_
  rintro σ H Q ⟨α,δ,L,A,S,z,L3,e,q⟩
  obtain ⟨⟨u,L1⟩,e1,e⟩:=Option.bind_eq_some_iff.mp e
  obtain ⟨k,e2,e⟩:=Option.map_eq_some_iff.mp e
  cases e
  exact ⟨α,δ,L,A,S,u,_,e1,fun x H1 α1 g1 A1 r1=>⟨_,Abw A1 r1 e2,q H1 α1 g1 A1⟩⟩
end
inductive Fl where
  | nx (δ:UE) | rt (u:U) | bk (δ:UE) | ct (δ:UE)
abbrev FS:=UE → UH → Option (Fl × UH)
def Post (K:PySem.W.Frag) (D:Ends) (H:Hp) (α:List Addr) (fl:Fl) (L':UH):Prop:=match fl with
  | .nx δ'=>∀ σ' H' α',Gr H α H' α' → Abs K H' α' L' → RepS K H' α' δ' σ' → D.nx σ' H'
  | .bk δ'=>∀ σ' H' α',Gr H α H' α' → Abs K H' α' L' → RepS K H' α' δ' σ' → D.bk σ' H'
  | .ct δ'=>∀ σ' H' α',Gr H α H' α' → Abs K H' α' L' → RepS K H' α' δ' σ' → D.ct σ' H'
  | .rt u=>∀ v H' α',Gr H α H' α' → Abs K H' α' L' → RepU K H' α' u v → D.rt v H'
theorem Post.from {K:PySem.W.Frag} {D:Ends} {H H1:Hp} {α α1:List Addr} {fl:Fl} {L':UH} (g:Gr H α H1 α1) (p:Post K D H α fl L'):Post K D H1 α1 fl L':=by
  cases fl with
  | nx δ=>exact fun σ' H' α' g'=>p σ' H' α' (g.trans g')
  | bk δ=>exact fun σ' H' α' g'=>p σ' H' α' (g.trans g')
  | ct δ=>exact fun σ' H' α' g'=>p σ' H' α' (g.trans g')
  | rt u=>exact fun v H' α' g'=>p v H' α' (g.trans g')
def lS (K:PySem.W.Frag) (f:FS):TS:=fun D σ H=>∃ α δ L,Abs K H α L ∧ RepS K H α δ σ ∧ ∃ fl L',f δ L = some (fl,L') ∧ Post K D H α fl L'
def PSF (X:Cx) (st:Stmt) (f:FS):Prop:=PS X st (lS X.K f)
def Rb (X:Cx) (st:List Stmt) (f:FS):Prop:=PSs X st (lS X.K f)
section
variable {X:Cx} {st:Stmt} {rest:List Stmt} {e:Expr} {pos:Pos} {f g:FS} {fe:FE}
theorem PS.imp {t t':TS} (h:PS X st t) (hi:∀ D σ H,t' D σ H → t D σ H):PS X st t':=fun pins s σ H D I q=>h pins s σ H D I (hi D σ H q)
theorem PSs.imp {sts:List Stmt} {t t':TS} (h:PSs X sts t) (hi:∀ D σ H,t' D σ H → t D σ H):PSs X sts t':=fun pins s σ H D I q=>h pins s σ H D I (hi D σ H q)
def Du:FS:=fun δ L=>some (.nx δ,L)
def Ay (f g:FS):FS:=fun δ L=>(f δ L).bind fun p=>match p.1 with | .nx δ'=>g δ' p.2 | fl=>some (fl,p.2)
theorem Cs:Rb X [] Du:=by
  refine PSs.imp Ac9 ?_
  rintro D σ H ⟨α,δ,L,A,S,fl,L',e,q⟩
  cases e
  exact q σ H α (.refl _ _) A S
theorem Ai (h1:PSF X st f) (h2:Rb X rest g):Rb X (st :: rest) (Ay f g):=by
  refine PSs.imp (Abb h1 h2) ?_
  rintro D σ H ⟨α,δ,L,A,S,fl,L',e,q⟩
  obtain ⟨⟨fl1,L1⟩,e1,e⟩:=Option.bind_eq_some_iff.mp e
  refine ⟨α,δ,L,A,S,fl1,L1,e1,?_⟩
  cases fl1 with
  | nx δ1=>exact fun σ1 H1 α1 g1 A1 S1=>⟨α1,δ1,L1,A1,S1,fl,L',e,q.from g1⟩
  | rt u=>cases e; exact q
  | bk δ1=>cases e; exact q
  | ct δ1=>cases e; exact q
theorem Ap (h1:PSF X st f):Rb X [st] f:=Ad0 h1
def Bz (f:FE):FS:=fun δ L=>(f δ L).map fun p=>(.rt p.1,p.2)
def Jm (f:FE):FS:=fun δ L=>(f δ L).map fun p=>(.nx δ,p.2)
def Ahv:FS:=fun _ L=>some (.rt .non,L)
theorem Ax (he:PEF X e fe):PSF X (.Return (some e) pos) (Bz fe):=by
  refine PS.imp (Agu he) ?_
  rintro D σ H ⟨α,δ,L,A,S,fl,L',e,q⟩
  obtain ⟨⟨u,L1⟩,e1,e⟩:=Option.map_eq_some_iff.mp e
  cases e
  exact ⟨α,δ,L,A,S,u,_,e1,fun v H1 α1 g1 A1 r1=>q v H1 α1 g1 A1 r1⟩
theorem Ij (he:PEF X e fe) (hs:swapsWith e none pos.line X.env = pure false:=by rfl):PSF X (.Expr e pos) (Jm fe):=by
  refine PS.imp (Adb he hs) ?_
  rintro D σ H ⟨α,δ,L,A,S,fl,L',e,q⟩
  obtain ⟨⟨u,L1⟩,e1,e⟩:=Option.map_eq_some_iff.mp e
  cases e
  exact ⟨α,δ,L,A,S,u,_,e1,fun v H1 α1 g1 A1 r1=>q σ H1 α1 g1 A1 (S.mono g1)⟩
def Fw (c:FT) (f g:FS):FS:=fun δ L=>(c δ L).bind fun p=>if p.1 = true then f δ p.2 else g δ p.2
theorem Dv {c:Expr} {a b:List Stmt} {tc:FT} (hc:PTF X c tc) (ha:Rb X a f) (hb:Rb X b g):PSF X (.If c a b pos) (Fw tc f g):=by
  refine PS.imp (Aij hc ha hb) ?_
  rintro D σ H ⟨α,δ,L,A,S,fl,L',e,q⟩
  obtain ⟨⟨u,L1⟩,e1,e⟩:=Option.bind_eq_some_iff.mp e
  refine ⟨α,δ,L,A,S,u,L1,e1,fun H1 α1 g1 A1=>?_⟩
  cases u with
  | true=>exact To ⟨α1,δ,L1,A1,S.mono g1,fl,L',e,q.from g1⟩
  | false=>exact Ts ⟨α1,δ,L1,A1,S.mono g1,fl,L',e,q.from g1⟩
end
abbrev FG:=U → UE → UH → Option (UE × UH)
abbrev FGs:=List U → UE → UH → Option (UE × UH)
def lG (K:PySem.W.Frag) (f:FG):TG:=fun v σ H Q=>∃ α δ L u,Abs K H α L ∧ RepS K H α δ σ ∧ RepU K H α u v ∧ ∃ δ' L',f u δ L = some (δ',L') ∧ ∀ σ' H' α',Gr H α H' α' → Abs K H' α' L' → RepS K H' α' δ' σ' → Q σ' H'
def lGs (K:PySem.W.Frag) (f:FGs):TGs:=fun vs σ H Q=>∃ α δ L us,Abs K H α L ∧ RepS K H α δ σ ∧ RepL K H α us vs ∧ ∃ δ' L',f us δ L = some (δ',L') ∧ ∀ σ' H' α',Gr H α H' α' → Abs K H' α' L' → RepS K H' α' δ' σ' → Q σ' H'
def PGF (X:Cx) (e:Expr) (f:FG):Prop:=PG X e (lG X.K f)
def Aak (X:Cx) (es:List Expr) (f:FGs):Prop:=PGs X es (lGs X.K f)
section
variable {X:Cx} {e:Expr} {es:List Expr} {pos:Pos}
theorem PG.imp {t t':TG} (h:PG X e t) (hi:∀ v σ H Q,t' v σ H Q → t v σ H Q):PG X e t':=fun pins s σ H v u Q I r q=>h pins s σ H v u Q I r (hi v σ H Q q)
theorem PGs.imp {t t':TGs} (h:PGs X es t) (hi:∀ v σ H Q,t' v σ H Q → t v σ H Q):PGs X es t':=fun pins s σ H v u Q I r q=>h pins s σ H v u Q I r (hi v σ H Q q)
def gN (i:Nat):FG:=fun u δ L=>some (δ.set i (some u),L)
theorem Am {i:Nat} {x:Str} (hN:X.N.Nodup) (hi:X.N[i]? = some x:=by rfl) (hx:Loc X.env.scope x:=by first | exact Or.inl rfl | exact Or.inr rfl) (hf:X.fn x = true ∨ X.env.scope.names.lookup x = some .local:=by first | exact .inl rfl | exact .inr rfl):PGF X (.Name x pos) (gN i):=by
  refine PG.imp (Q6 (i:=i) hN hi hx hf) ?_
  rintro v σ H Q ⟨α,δ,L,u,A,S,r,δ',L',e,q⟩
  cases e
  exact q _ H α (.refl _ _) A (S.set i r)
def gNil:FGs:=fun us δ L=>match us with | []=>some (δ,L) | _=>none
def gCons (f:FG) (g:FGs):FGs:=fun us δ L=>match us with | []=>none | u :: r=>(f u δ L).bind fun p=>g r p.1 p.2
theorem Fb:Aak X [] MR.gNil:=by
  refine PGs.imp Adv ?_
  rintro vs σ H Q ⟨α,δ,L,us,A,S,r,δ',L',e,q⟩
  cases us with
  | nil=>cases e; exact ⟨by unfold RepL at r; exact r,q σ H α (.refl _ _) A S⟩
  | cons u us=>cases e
theorem Ba {f:FG} {g:FGs} (h1:PGF X e f) (h2:Aak X es g) (hs:(assignEach (e :: es) X.env).map (·.2) = assign e X.env :: (assignEach es X.env).map (·.2):=by rfl):Aak X (e :: es) (MR.gCons f g):=by
  refine PGs.imp (Aax h1 h2 hs) ?_
  rintro vs σ H Q ⟨α,δ,L,us,A,S,r,δ',L',e,q⟩
  cases us with
  | nil=>cases e
  | cons u us=>
    unfold RepL at r
    obtain ⟨x,xs,rfl,r1,r2⟩:=r
    obtain ⟨⟨δ1,L1⟩,e1,e⟩:=Option.bind_eq_some_iff.mp e
    refine ⟨x,xs,rfl,α,δ,L,u,A,S,r1,δ1,L1,e1,fun σ1 H1 α1 g1 A1 S1=>?_⟩
    exact ⟨α1,δ1,L1,us,A1,S1,r2.mono g1,δ',L',e,fun σ2 H2 α2 g2 A2 S2=>q σ2 H2 α2 (g1.trans g2) A2 S2⟩
def gTup (n:Nat) (g:FGs):FG:=fun u δ L=>match u with | .tup us=>if us.length = n then g us δ L else none | _=>none
theorem Gx {k:Nat} {g:FGs} {n:Nat} (hc:X.calm = true) (h:Aak X es g) (hn:(assignEach es X.env).length = n:=by rfl) (hst:(assignEach es X.env).findIdx? (·.1) = none:=by rfl):PGF X (.Tuple es k pos) (MR.gTup n g):=by
  refine PG.imp (Agh hc h hn hst) ?_
  rintro v σ H Q ⟨α,δ,L,u,A,S,r,δ',L',e,q⟩
  cases u with
  | tup us=>
    unfold RepU at r
    obtain ⟨a,xs,rfl,s,r⟩:=r
    unfold MR.gTup at e
    simp only at e
    split at e
    · rename_i hl
      exact ⟨a,xs,rfl,s,by rw [← r.length]; exact hl,α,δ,L,us,A,S,r,δ',L',e,q⟩
    · cases e
  | _=>simp [MR.gTup] at e
def Aw (fe:FE) (g:FG):FS:=fun δ L=>(fe δ L).bind fun p=>(g p.1 δ p.2).map fun q=>(.nx q.1,q.2)
theorem Mo {tg:Expr} {fe:FE} {g:FG} (he:PEF X e fe) (hg:PGF X tg g) (hs:swapsWithSole [tg] e pos.line X.env = pure false:=by rfl) (hw:swappedStores [tg] e X.env = pure none:=by rfl) (h1:(assignEach [tg] X.env).map (·.2) = [assign tg X.env]:=by rfl) :
    PSF X (.Assign [tg] e pos) (Aw fe g):=by
  refine PS.imp (Ahi he hg hs hw h1) ?_
  rintro D σ H ⟨α,δ,L,A,S,fl,L',e,q⟩
  obtain ⟨⟨u,L1⟩,e1,e⟩:=Option.bind_eq_some_iff.mp e
  obtain ⟨⟨δ2,L2⟩,e2,e⟩:=Option.map_eq_some_iff.mp e
  cases e
  exact ⟨α,δ,L,A,S,u,L1,e1,fun v H1 α1 g1 A1 r1=>⟨α1,δ,L1,u,A1,S.mono g1,r1,δ2,_,e2,fun σ2 H2 α2 g2 A2 S2=>q σ2 H2 α2 (g1.trans g2) A2 S2⟩⟩
theorem As {i:Nat} {x:Str} {fe:FE} {pos':Pos} (hN:X.N.Nodup) (he:PEF X e fe) (hi:X.N[i]? = some x:=by rfl) (hx:Loc X.env.scope x:=by first | exact Or.inl rfl | exact Or.inr rfl)
    (hs:swapsWith e (some (.Name x pos')) pos.line X.env = pure false:=by rfl) (hf:X.fn x = true ∨ X.env.scope.names.lookup x = some .local:=by first | exact .inl rfl | exact .inr rfl) :
    PSF X (.Assign [.Name x pos'] e pos) (Aw fe (gN i)):=by
  refine PS.imp (Afj (i:=i) hN hi hx he hs hf) ?_
  rintro D σ H ⟨α,δ,L,A,S,fl,L',e,q⟩
  obtain ⟨⟨u,L1⟩,e1,e⟩:=Option.bind_eq_some_iff.mp e
  obtain ⟨⟨δ2,L2⟩,e2,e⟩:=Option.map_eq_some_iff.mp e
  cases e
  cases e2
  exact ⟨α,δ,L,A,S,u,_,e1,fun v H1 α1 g1 A1 r1=>q _ H1 α1 g1 A1 ((S.mono g1).set i r1)⟩
end
end MR
set_option Elab.async false
set_option linter.all false
set_option maxRecDepth 100000
set_option maxHeartbeats 1000000
namespace MR
open PySem PySem.Spec PyProof.Rows L2
def Fc (L:UH) (n:Nat):Option (List U):=match L[n]? with
  | some (.lst us)=>some us
  | _=>none
def Ao (L:UH) (n:Nat):Option (List U):=match L[n]? with
  | some (.lst us)=>some us
  | some (.ro us)=>some us
  | _=>none
inductive IU where
  | seq (us:List U) | ref (n:Nat) | enm (n:Nat) | zip2 (n m:Nat) | zipT (us:List U) (m:Nat) | zipL (n:Nat) (ws:List U)
def H0:Option U → Option U → Option U
  | some x,some y=>some (.tup [x,y])
  | _,_=>none
def IU.at (i:IU) (k:Nat) (L:UH):Option (Option U):=match i with
  | .seq us=>some us[k]?
  | .ref n=>match L[n]? with
    | some (.lst us)=>some us[k]?
    | some (.ro us)=>some us[k]?
    | _=>none
  | .enm n=>(Ao L n).map fun us=>(us[k]?).map fun u=>.tup [.int k,u]
  | .zip2 n m=>(Ao L n).bind fun us=>(Ao L m).map fun ws=>H0 us[k]? ws[k]?
  | .zipT us m=>(Ao L m).map fun ws=>H0 us[k]? ws[k]?
  | .zipL n ws=>(Ao L n).map fun us=>H0 us[k]? ws[k]?
def IU.size (i:IU) (L:UH):Nat:=match i with
  | .seq us=>us.length
  | .ref n=>match L[n]? with
    | some (.lst us)=>us.length
    | some (.ro us)=>us.length
    | _=>0
  | .enm n=>match Ao L n with
    | some us=>us.length
    | none=>0
  | .zip2 n m=>match Ao L n,Ao L m with
    | some us,some ws=>min us.length ws.length
    | _,_=>0
  | .zipT us m=>match Ao L m with
    | some ws=>min us.length ws.length
    | none=>0
  | .zipL n ws=>match Ao L n with
    | some us=>min us.length ws.length
    | none=>0
abbrev FI:=UE → UH → Option (IU × UH)
def Os (K:PySem.W.Frag) (J:It) (i:IU) (H:Hp) (α:List Addr):Prop:=∀ (H2:Hp) (α2:List Addr) (L2:UH),Gr H α H2 α2 → Abs K H2 α2 L2 → ∀ k:Nat,
  (∀ u,i.at k L2 = some (some u) → J.go k H2 ∧ ∀ x H3,J.yld k H2 x H3 → Gr H2 α2 H3 α2 ∧ Abs K H3 α2 L2 ∧ RepU K H3 α2 u x) ∧ (i.at k L2 = some none → J.stop k H2)
def lI (K:PySem.W.Frag) (f:FI):TI:=fun σ H R=>∃ α δ L,Abs K H α L ∧ RepS K H α δ σ ∧ ∃ i L',f δ L = some (i,L') ∧ ∀ J H' α',Gr H α H' α' → Abs K H' α' L' → Os K J i H' α' → R J H'
def PIF (X:Cx) (tg iter:Expr) (f:FI):Prop:=PI X tg iter (lI X.K f)
section
variable {X:Cx} {tg iter l:Expr} {pos:Pos} {fe:FE}
theorem PI.imp {t t':TI} (h:PI X tg iter t) (hi:∀ σ H R,t' σ H R → t σ H R):PI X tg iter t':=fun pins s σ H R I q=>h pins s σ H R I (hi σ H R q)
theorem PI.or {t t':TI} (h:PI X tg iter t) (h':PI X tg iter t'):PI X tg iter (fun σ H R=>t σ H R ∨ t' σ H R):=fun pins s σ H R I q=>by
  rcases q with q | q
  · exact h pins s σ H R I q
  · exact h' pins s σ H R I q
def Sm (u:U) (L:UH):Option IU:=match u with
  | .tup us=>some (.seq us)
  | .ref n=>match L[n]? with
    | some (.lst _)=>some (.ref n)
    | some (.ro _)=>some (.ref n)
    | _=>none
  | _=>none
theorem U4 {K:PySem.W.Frag} {H:Hp} {α:List Addr} {n:Nat} {a:Addr} (ea:α[n]? = some a):Os K (Itl K a) (.ref n) H α:=by
  intro H2 α2 L2 g A2 k
  have ea2:=g.at ea
  have go:∀ (us:List U) (xs:List V),SqL K H2 a xs → RepL K H2 α2 us xs → (∀ ys,SqL K H2 a ys → True) → (∀ u,us[k]? = some u → (Itl K a).go k H2 ∧ ∀ x H3,(Itl K a).yld k H2 x H3 → Gr H2 α2 H3 α2 ∧ Abs K H3 α2 L2 ∧ RepU K H3 α2 u x) ∧ (us[k]? = none → (Itl K a).stop k H2):=by
    intro us xs sq r _
    refine ⟨fun u eu=>?_,fun eu=>?_⟩
    · obtain ⟨x,ex,rx⟩:=r.get eu
      refine ⟨⟨xs,x,sq,ex⟩,?_⟩
      rintro y H3 ⟨rfl,hy⟩
      have:=hy xs sq
      rw [ex] at this; cases this
      exact ⟨.refl _ _,A2,rx⟩
    · exact ⟨xs,sq,by rw [← r.length]; exact List.getElem?_eq_none_iff.mp eu⟩
  unfold IU.at
  simp only
  cases q:L2[n]? with
  | none=>simp
  | some o=>
    have hr:=A2.rep n a o ea2 q
    cases o with
    | lst us=>
      obtain ⟨xs,e,r⟩:=hr
      obtain ⟨h1,h2⟩:=go us xs (.of e) r fun _ _=>trivial
      exact ⟨fun u eu=>h1 u (Option.some.inj eu),fun eu=>h2 (Option.some.inj eu)⟩
    | ro us=>
      obtain ⟨xs,e,r⟩:=hr
      obtain ⟨h1,h2⟩:=go us xs e.sq r fun _ _=>trivial
      exact ⟨fun u eu=>h1 u (Option.some.inj eu),fun eu=>h2 (Option.some.inj eu)⟩
    | dic kvs=>simp
    | rod kvs=>simp
    | ins C fs=>simp
    | exc C fr fs=>simp
theorem Ac1 {K:PySem.W.Frag} {H:Hp} {α:List Addr} {us:List U} {xs:List V} {a:Addr} (sq:SqT K H a xs) (r:RepL K H α us xs):Os K (Itt K a) (.seq us) H α:=by
  intro H2 α2 L2 g A2 k
  have sq2:=g.st.sqT (K:=K) sq
  have r2:=r.mono g
  refine ⟨fun u eu=>?_,fun eu=>?_⟩
  · obtain ⟨x,ex,rx⟩:=r2.get (Option.some.inj eu)
    refine ⟨⟨xs,x,sq2,ex⟩,?_⟩
    rintro y H3 ⟨rfl,hy⟩
    have:=hy xs sq2
    rw [ex] at this; cases this
    exact ⟨.refl _ _,A2,rx⟩
  · exact ⟨xs,sq2,by rw [← r2.length]; exact List.getElem?_eq_none_iff.mp (Option.some.inj eu)⟩
theorem Ad2 {K:PySem.W.Frag} {H:Hp} {α:List Addr} (lo:Int) (n:Nat):Os K (Itr lo n) (.seq ((List.range n).map fun i=>U.int (lo + (i:Nat)))) H α:=by
  intro H2 α2 L2 g A2 k
  refine ⟨fun u eu=>?_,fun eu=>?_⟩
  · have eu:=Option.some.inj eu
    rw [List.getElem?_map] at eu
    by_cases hk:k < n
    · rw [List.getElem?_range hk] at eu
      simp at eu
      refine ⟨hk,?_⟩
      rintro x H3 ⟨rfl,rfl⟩
      subst eu
      exact ⟨.refl _ _,A2,rfl⟩
    · rw [List.getElem?_eq_none (by simpa using hk)] at eu
      simp at eu
  · have:=List.getElem?_eq_none_iff.mp (Option.some.inj eu)
    show n ≤ k
    simpa using this
def Bm (f:FE):FI:=fun δ L=>(f δ L).bind fun p=>(Sm p.1 p.2).map fun i=>(i,p.2)
theorem By (h:PEF X l fe):PIF X tg l (Bm fe):=by
  refine PI.imp (PI.or (Adq h) (Aff h)) ?_
  rintro σ H R ⟨α,δ,L,A,S,i,L3,e,q⟩
  obtain ⟨⟨u,L1⟩,e1,e⟩:=Option.bind_eq_some_iff.mp e
  obtain ⟨j,e2,e⟩:=Option.map_eq_some_iff.mp e
  cases e
  cases u with
  | tup us=>
    cases e2
    refine .inr ⟨α,δ,L,A,S,_,_,e1,fun x H1 α1 g1 A1 r1=>?_⟩
    unfold RepU at r1
    obtain ⟨a,xs,rfl,sq,r⟩:=r1
    exact ⟨a,rfl,⟨xs,sq⟩,q _ H1 α1 g1 A1 (Ac1 sq r)⟩
  | ref n=>
    refine .inl ⟨α,δ,L,A,S,_,_,e1,fun x H1 α1 g1 A1 r1=>?_⟩
    unfold RepU at r1
    obtain ⟨a,ea,rfl⟩:=r1
    refine ⟨a,rfl,?_⟩
    unfold Sm at e2
    simp only at e2
    cases w:L1[n]? with
    | none=>simp only [w] at e2; cases e2
    | some o=>
      have hr:=A1.rep n a o ea w
      cases o with
      | lst us=>simp only [w] at e2; cases e2; obtain ⟨xs,e,r⟩:=hr; exact ⟨⟨xs,.of e⟩,q _ H1 α1 g1 A1 (U4 ea)⟩
      | ro us=>simp only [w] at e2; cases e2; obtain ⟨xs,e,r⟩:=hr; exact ⟨⟨xs,e.sq⟩,q _ H1 α1 g1 A1 (U4 ea)⟩
      | dic kvs=>simp only [w] at e2; cases e2
      | rod kvs=>simp only [w] at e2; cases e2
      | ins C fs=>simp only [w] at e2; cases e2
      | exc C fr fs=>simp only [w] at e2; cases e2
  | _=>cases e2
def Cc (lo:Int) (n:Nat):List U:=(List.range n).map fun i=>U.int (lo + (i:Nat))
def C6 (g:FA):FI:=fun δ L=>(g δ L).bind fun p=>match p.1 with
  | [.int j]=>if -(2 ^ 62) ≤ j ∧ j < 2 ^ 62 then some (.seq (Cc 0 j.toNat),p.2) else none
  | _=>none
def Aew (g:FA):FI:=fun δ L=>(g δ L).bind fun p=>match p.1 with
  | [.int i,.int j]=>if (-(2 ^ 62) ≤ i ∧ i < 2 ^ 62) ∧ -(2 ^ 62) ≤ j ∧ j < 2 ^ 62 then some (.seq (Cc i (j - i).toNat),p.2) else none
  | _=>none
theorem RepL.one {K:PySem.W.Frag} {H:Hp} {α:List Addr} {u:U} {xs:List V} (h:RepL K H α [u] xs):∃ x,xs = [x] ∧ RepU K H α u x:=by
  unfold RepL at h
  obtain ⟨x,r,e,h1,h2⟩:=h
  unfold RepL at h2
  subst h2
  exact ⟨x,e,h1⟩
theorem RepL.two {K:PySem.W.Frag} {H:Hp} {α:List Addr} {u w:U} {xs:List V} (h:RepL K H α [u,w] xs):∃ x y,xs = [x,y] ∧ RepU K H α u x ∧ RepU K H α w y:=by
  unfold RepL at h
  obtain ⟨x,r,e,h1,h2⟩:=h
  obtain ⟨y,e2,h3⟩:=h2.one
  subst e2
  exact ⟨x,y,e,h1,h3⟩
theorem Gk {a:Expr} {g:FA} {p pos:Pos} (hg:Gl X "range") (hm:X.mg "range" = none) (ha:PAF X [a] g) (hs:starEach [a] X.env = [(false,eval a X.env)]:=by rfl):PIF X tg (.Call (.Name "range" p) [a] [] pos) (C6 g):=by
  refine PI.imp (Wp hg hm ha hs) ?_
  rintro σ H R ⟨α,δ,L,A,S,i,L3,e,q⟩
  obtain ⟨⟨us,L1⟩,e1,e⟩:=Option.bind_eq_some_iff.mp e
  refine ⟨α,δ,L,A,S,us,L1,e1,fun xs H1 α1 g1 A1 r1=>?_⟩
  simp only at e
  split at e
  · rename_i _ j
    split at e
    · rename_i hj
      cases e
      obtain ⟨x,rfl,rx⟩:=r1.one
      unfold RepU at rx
      subst rx
      exact ⟨j,rfl,hj.1,hj.2,q _ H1 α1 g1 A1 (Ad2 0 _)⟩
    · cases e
  · cases e
def K5 (i:IU) (g:FG) (body:FS):Nat → Nat → UE → UH → Option (Fl × UH)
  | 0,_,_,_=>none
  | m + 1,k,δ,L=>match i.at k L with
    | none=>none
    | some none=>some (.nx δ,L)
    | some (some u)=>(g u δ L).bind fun p=>(body p.1 p.2).bind fun q=>match q.1 with
      | .nx δ'=>K5 i g body m (k + 1) δ' q.2
      | .ct δ'=>K5 i g body m (k + 1) δ' q.2
      | .bk δ'=>some (.nx δ',q.2)
      | .rt w=>some (.rt w,q.2)
def Kq (fi:FI) (g:FG) (body:FS):FS:=fun δ L=>(fi δ L).bind fun p=>K5 p.1 g body (p.1.size p.2 + 1) 0 δ p.2
theorem Hl {body:List Stmt} {fi:FI} {g:FG} {fb:FS} (hp:PassesOwn (model X.prog X.w) X.A X.env X.xe) (hc:X.calm = true) (hi:PIF X tg iter fi) (hg:PGF X tg g) (hb:Rb X body fb)
    (hs:∀ x,foldedSetIterable iter X.env x = pure x:=by intro _; rfl):PSF X (.For tg iter body [] pos) (Kq fi g fb):=by
  refine PS.imp (Ae0 hp hc hi hg hb hs) ?_
  rintro D σ H ⟨α,δ,L,A,S,fl,L',e,q⟩
  obtain ⟨⟨it,L1⟩,e1,e⟩:=Option.bind_eq_some_iff.mp e
  refine ⟨α,δ,L,A,S,it,L1,e1,fun J H1 α1 g1 A1 hJ=>?_⟩
  refine ⟨fun k m σ2 H2=>∃ α2 δ2 L2,Gr H1 α1 H2 α2 ∧ Abs X.K H2 α2 L2 ∧ RepS X.K H2 α2 δ2 σ2 ∧ K5 it g fb m k δ2 L2 = some (fl,L') ∧ Post X.K D H2 α2 fl L',⟨_,α1,δ,L1,.refl _ _,A1,S.mono g1,e,q.from g1⟩,?_⟩
  rintro k m σ2 H2 ⟨α2,δ2,L2,g2,A2,S2,e2,q2⟩
  cases m with
  | zero=>cases e2
  | succ m=>
    obtain ⟨hgo,hstop⟩:=hJ H2 α2 L2 g2 A2 k
    unfold K5 at e2
    cases hat:it.at k L2 with
    | none=>rw [hat] at e2; cases e2
    | some o=>
      cases o with
      | none=>
        rw [hat] at e2
        cases e2
        exact .inl ⟨hstop hat,q2 σ2 H2 α2 (.refl _ _) A2 S2⟩
      | some u=>
        rw [hat] at e2
        obtain ⟨go,yld⟩:=hgo u hat
        obtain ⟨⟨δ3,L3⟩,e3,e2⟩:=Option.bind_eq_some_iff.mp e2
        obtain ⟨⟨fl4,L4⟩,e4,e2⟩:=Option.bind_eq_some_iff.mp e2
        refine .inr ⟨go,fun σ5 H5=>∃ α5 δ5 L5,Gr H1 α1 H5 α5 ∧ Abs X.K H5 α5 L5 ∧ RepS X.K H5 α5 δ5 σ5 ∧ K5 it g fb m (k + 1) δ5 L5 = some (fl,L') ∧ Post X.K D H5 α5 fl L',fun σ5 H5 h5=>⟨m,Nat.lt_succ_self _,h5⟩,fun x H3 y3=>?_⟩
        obtain ⟨g3,A3,r3⟩:=yld x H3 y3
        refine ⟨α2,δ2,L2,u,A3,S2.mono g3,r3,δ3,L3,e3,fun σ4 H4 α4 g4 A4 S4=>⟨α4,δ3,L3,A4,S4,fl4,L4,e4,?_⟩⟩
        have gA:=g2.trans (g3.trans g4)
        have gB:=g3.trans g4
        cases fl4 with
        | nx δ5=>exact fun σ5 H5 α5 g5 A5 S5=>⟨α5,δ5,L4,gA.trans g5,A5,S5,e2,q2.from (gB.trans g5)⟩
        | ct δ5=>exact fun σ5 H5 α5 g5 A5 S5=>⟨α5,δ5,L4,gA.trans g5,A5,S5,e2,q2.from (gB.trans g5)⟩
        | bk δ5=>cases e2; exact fun σ5 H5 α5 g5 A5 S5=>q2 σ5 H5 α5 (gB.trans g5) A5 S5
        | rt w=>cases e2; exact fun v H5 α5 g5 A5 r5=>q2 v H5 α5 (gB.trans g5) A5 r5
def Fh (c:FT) (body:FS):Nat → UE → UH → Option (Fl × UH)
  | 0,_,_=>none
  | m + 1,δ,L=>(c δ L).bind fun p=>if p.1 = true then (body δ p.2).bind fun q=>match q.1 with
      | .nx δ'=>Fh c body m δ' q.2
      | .ct δ'=>Fh c body m δ' q.2
      | .bk δ'=>some (.nx δ',q.2)
      | .rt w=>some (.rt w,q.2)
    else some (.nx δ,p.2)
theorem Wg {c:Expr} {body:List Stmt} {tc:FT} {fb:FS} (n:Nat) (hp:PassesOwn (model X.prog X.w) X.A X.env X.xe) (hc:PTF X c tc) (hb:Rb X body fb):PSF X (.While c body [] pos) (Fh tc fb n):=by
  refine PS.imp (Yw hp hc hb) ?_
  rintro D σ H ⟨α,δ,L,A,S,fl,L',e,q⟩
  refine ⟨fun m σ2 H2=>∃ α2 δ2 L2,Abs X.K H2 α2 L2 ∧ RepS X.K H2 α2 δ2 σ2 ∧ Fh tc fb m δ2 L2 = some (fl,L') ∧ Post X.K D H2 α2 fl L',⟨n,α,δ,L,A,S,e,q⟩,?_⟩
  rintro m σ2 H2 ⟨α2,δ2,L2,A2,S2,e2,q2⟩
  cases m with
  | zero=>cases e2
  | succ m=>
    unfold Fh at e2
    obtain ⟨⟨b,L3⟩,e3,e2⟩:=Option.bind_eq_some_iff.mp e2
    refine ⟨α2,δ2,L2,A2,S2,b,L3,e3,fun H3 α3 g3 A3=>?_⟩
    cases b with
    | false=>cases e2; exact Ts (q2 σ2 H3 α3 g3 A3 (S2.mono g3))
    | true=>
      obtain ⟨⟨fl4,L4⟩,e4,e2⟩:=Option.bind_eq_some_iff.mp e2
      refine To ⟨fun σ5 H5=>∃ α5 δ5 L5,Abs X.K H5 α5 L5 ∧ RepS X.K H5 α5 δ5 σ5 ∧ Fh tc fb m δ5 L5 = some (fl,L') ∧ Post X.K D H5 α5 fl L',fun σ5 H5 h5=>⟨m,Nat.lt_succ_self _,h5⟩,?_⟩
      refine ⟨α3,δ2,L3,A3,S2.mono g3,fl4,L4,e4,?_⟩
      cases fl4 with
      | nx δ5=>exact fun σ5 H5 α5 g5 A5 S5=>⟨α5,δ5,L4,A5,S5,e2,q2.from (g3.trans g5)⟩
      | ct δ5=>exact fun σ5 H5 α5 g5 A5 S5=>⟨α5,δ5,L4,A5,S5,e2,q2.from (g3.trans g5)⟩
      | bk δ5=>cases e2; exact fun σ5 H5 α5 g5 A5 S5=>q2 σ5 H5 α5 (g3.trans g5) A5 S5
      | rt w=>cases e2; exact fun v H5 α5 g5 A5 r5=>q2 v H5 α5 (g3.trans g5) A5 r5
end
def fnU (n m:Nat) (body:FS):FN:=fun us L=>if us.length = m then (body (us.map some ++ List.replicate (n - us.length) none) L).bind fun p=>match p.1 with
  | .rt u=>some (u,p.2)
  | .nx _=>some (.non,p.2)
  | _=>none
  else none
section
variable {P:Program} {w:World} {K:PySem.W.Frag} {mg:Str → Option Value} {base:Heap}
theorem Fun.okF {x qual:Str} {st:Stmt} {f:Addr} {fd:FuncData} {N ps:List Str} {k:Nat} {body:FS} (F:Fun K x qual st f fd) (S:FnScope N ps (Aj st))
    (hbody:∀ (cdv:Value) (A:Around) (outer:List PySem.Env) (s:Shared) (H:Hp) (E:XK),Room k (A.deeper (envOfC qual (Aj st) s.heap.objs.size f cdv)) → Rb (Um CX0 P w K mg base N qual (Aj st) f cdv A outer s H E).nox (A9 st) body) :
    FnOk P w K mg base CX0 (k + 1) f fd ps (spF K ps.length (fnU N.length ps.length body)):=by
  refine F.ok S (fun vs H Q E ⟨α,L,us,A,r,hl,_⟩=>by rw [← r.length]; exact hl) (fun cdv A outer s H vs Q E hr h=>?_)
  obtain ⟨α,L,us,Ab,r,hl,u,L',e,q⟩:=h
  refine ⟨_,hbody cdv A outer s H E hr,?_⟩
  unfold fnU at e
  rw [if_pos hl] at e
  obtain ⟨⟨fl,L1⟩,e1,e⟩:=Option.bind_eq_some_iff.mp e
  refine ⟨α,_,L,Ab,RepS.start N r,fl,L1,e1,?_⟩
  cases fl with
  | rt w=>cases e; exact q
  | nx δ=>cases e; exact fun σ' H' α' g' A' S'=>q .non H' α' g' A' rfl
  | bk δ=>cases e
  | ct δ=>cases e
end
end MR
set_option Elab.async false
set_option linter.all false
set_option maxRecDepth 100000
set_option maxHeartbeats 1000000
namespace MR
open PySem PySem.Spec PyProof.Rows L2
section
variable {K:PySem.W.Frag} {H:Hp} {α:List Addr} {L:UH} {u:U} {x:V}
theorem Oa {n:Nat} {us:List U} (h:Fc L n = some us):L[n]? = some (.lst us):=by
  unfold Fc at h
  split at h
  · rename_i e; cases h; exact e
  · cases h
theorem K6 {n:Nat} {us:List U} (A:Abs K H α L) (h:Fc L n = some us):∃ a xs,α[n]? = some a ∧ H a = some (.lst xs) ∧ RepL K H α us xs:=by
  obtain ⟨a,ea,xs,e,r⟩:=A.addr (Oa h)
  exact ⟨a,xs,ea,e,r⟩
theorem Ej {n:Nat} {us:List U} (A:Abs K H α L) (h:Ao L n = some us):∃ a xs,α[n]? = some a ∧ SqL K H a xs ∧ RepL K H α us xs:=by
  unfold Ao at h
  split at h
  · rename_i e; cases h
    obtain ⟨a,ea,xs,e,r⟩:=A.addr e
    exact ⟨a,xs,ea,.of e,r⟩
  · rename_i e; cases h
    obtain ⟨a,ea,xs,e,r⟩:=A.addr e
    exact ⟨a,xs,ea,e.sq,r⟩
  · cases h
theorem Abs.setL {n:Nat} {a:Addr} {xs ys:List V} {us ws:List U} (A:Abs K H α L) (h:Fc L n = some us) (ea:α[n]? = some a) (e:H a = some (.lst xs)) (r:RepL K H α ws ys) :
    Gr H α (upd H a (.lst ys)) α ∧ Abs K (upd H a (.lst ys)) α (L.set n (.lst ws)):=by
  have g:Gr H α (upd H a (.lst ys)) α:=⟨⟨[],by simp⟩,.write e (by exact trivial) _⟩
  obtain ⟨A',_⟩:=A.put (o:=.lst ys) (u:=.lst ws) ea (Oa h) rfl rfl e (by exact trivial) ⟨ys,Es,r.mono g⟩
  exact ⟨g,A'⟩
theorem RepU.ref_of {n:Nat} (A:Abs K H α L) (h:RepU K H α (.ref n) x):∃ a,α[n]? = some a ∧ x = .ref a:=by unfold RepU at h; exact h
end
def At:S2:=fun u w L=>match u,w with
  | .int i,.int j=>some (.int (i + j),L)
  | .str a,.str b=>if B9 (a.length + b.length) = true then some (.str (a ++ b),L) else none
  | .tup a,.tup b=>if a.isEmpty = false ∧ B9 (a.length + b.length) = true then some (.tup (a ++ b),L) else none
  | .ref n,.ref m=>(Fc L n).bind fun a=>(Fc L m).bind fun b=>if B9 (a.length + b.length) = true then some (.ref L.length,L ++ [.lst (a ++ b)]) else none
  | _,_=>none
def Abc (K:PySem.W.Frag):R2:=fun x y H Q=>rI0 (fun i j=>.int (i + j)) x y H Q ∨ (∃ i j,x = .str i ∧ y = .str j ∧ i.length + j.length ≤ sizeLine ∧ Q (.str (i ++ j)) H) ∨ Aeh K x y H Q ∨ Aig x y H Q
theorem B2 {X:Cx}:OpR X (binaryOp .Add) (Abc X.K):=Afy.or (Tf.or (Aca.or Afm))
theorem B1 {K:PySem.W.Frag}:C4 K (Abc K) At:=by
  intro H α L u w x y z L' Q A ru rw e q
  unfold At at e
  split at e
  · cases e
    unfold RepU at ru rw
    exact .inl ⟨_,_,ru,rw,q _ H α (.refl _ _) A rfl⟩
  · split at e
    · rename_i h
      cases e
      unfold RepU at ru rw
      exact .inr (.inl ⟨_,_,ru,rw,Dy h,q _ H α (.refl _ _) A rfl⟩)
    · cases e
  · rename_i a b
    split at e
    · rename_i h
      cases e
      unfold RepU at ru rw
      obtain ⟨p,xs,rfl,s1,r1⟩:=ru
      obtain ⟨p2,ys,rfl,s2,r2⟩:=rw
      have e1:=r1.length
      have e2:=r2.length
      refine .inr (.inr (.inl ⟨p,p2,xs,ys,rfl,rfl,s1,s2,?_,by rw [← e1,← e2]; exact Dy h.2,fun hy=>?_,fun hy l hl=>?_⟩))
      · intro hx; subst hx
        cases a with
        | nil=>simp at h
        | cons _ _=>simp at e1
      · subst hy
        have hb:b = []:=by
          cases b with
          | nil=>rfl
          | cons _ _=>simp at e2
        subst hb
        refine q _ H α (.refl _ _) A ?_
        unfold RepU
        exact ⟨p,xs,rfl,s1,by rw [List.append_nil]; exact r1⟩
      · obtain ⟨g,A',r⟩:=A.tup (r1.append r2) hl
        exact q _ _ α g A' r
    · cases e
  · rename_i n m
    obtain ⟨a,ha,e⟩:=Option.bind_eq_some_iff.mp e
    obtain ⟨b,hb,e⟩:=Option.bind_eq_some_iff.mp e
    split at e
    · rename_i h
      cases e
      obtain ⟨p,xs,e1,h1,r1⟩:=K6 A ha
      obtain ⟨p2,ys,e2,h2,r2⟩:=K6 A hb
      obtain ⟨p',e1',rfl⟩:=ru.ref_of A
      obtain ⟨p2',e2',rfl⟩:=rw.ref_of A
      rw [e1] at e1'; cases e1'
      rw [e2] at e2'; cases e2'
      refine .inr (.inr (.inr ⟨p,p2,xs,ys,rfl,rfl,h1,h2,by rw [← r1.length,← r2.length]; exact Dy h,fun l hl=>?_⟩))
      obtain ⟨g,A',r⟩:=A.lst (r1.append r2) hl
      exact q _ _ _ g A' r
    · cases e
  · cases e
def Xr (C:Int → Int → Bool) (g:Int → Int → U):S2:=fun u w L=>match u,w with
  | .int i,.int j=>if C i j = true then some (g i j,L) else none
  | _,_=>none
theorem Vk {K:PySem.W.Frag} {C:Int → Int → Prop} {Cb:Int → Int → Bool} {g:Int → Int → V} {g':Int → Int → U} (hC:∀ i j,Cb i j = true → C i j) (hg:∀ i j H α,RepU K H α (g' i j) (g i j)):C4 K (rI C g) (Xr Cb g'):=by
  intro H α L u w x y z L' Q A ru rw e q
  unfold Xr at e
  split at e
  · split at e
    · rename_i h
      cases e
      unfold RepU at ru rw
      exact ⟨_,_,ru,rw,hC _ _ h,q _ H α (.refl _ _) A (hg _ _ _ _)⟩
    · cases e
  · cases e
def Of (g:Int → Int → U):S2:=fun u w L=>match u,w with
  | .int i,.int j=>some (g i j,L)
  | _,_=>none
theorem N0 {K:PySem.W.Frag} {g:Int → Int → V} {g':Int → Int → U} (hg:∀ i j H α,RepU K H α (g' i j) (g i j)):C4 K (rI0 g) (Of g'):=by
  intro H α L u w x y z L' Q A ru rw e q
  unfold Of at e
  split at e
  · cases e
    unfold RepU at ru rw
    exact ⟨_,_,ru,rw,q _ H α (.refl _ _) A (hg _ _ _ _)⟩
  · cases e
def Gn:S2:=Of fun i j=>.int (i - j)
theorem Jc {K:PySem.W.Frag}:C4 K (rI0 fun i j=>.int (i - j)) Gn:=N0 fun _ _ _ _=>rfl
def Gs (i j:Int):Bool:=(decide (-(2 ^ 64) < i) && decide (i < 2 ^ 64)) || (decide (-(2 ^ 64) < j) && decide (j < 2 ^ 64))
def Bj:S2:=fun u w L=>match u,w with
  | .int i,.int j=>if Gs i j = true then some (.int (i * j),L) else none
  | .str a,.int j=>if a.length ≤ 1000 ∧ -1000 ≤ j ∧ j ≤ 1000 then some (.str (Txt.mul a j),L) else none
  | .ref n,.int k=>(Fc L n).bind fun a=>if -1000000 ≤ k ∧ k ≤ 1000000 ∧ B9 (a.length * k.toNat) = true then some (.ref L.length,L ++ [.lst (List.replicate k.toNat a).flatten]) else none
  | _,_=>none
def Aer:R2:=fun x y H Q=>rI CMul (fun i j=>.int (i * j)) x y H Q ∨ (∃ a j,x = .str a ∧ y = .int j ∧ MulOk a j ∧ Q (.str (Txt.mul a j)) H) ∨ Ahs x y H Q
theorem Uo {X:Cx}:OpR X (binaryOp .Mult) (fun x y H Q=>∃ a j,x = .str a ∧ y = .int j ∧ MulOk a j ∧ Q (.str (Txt.mul a j)) H):=by
  intro pins s σ H x y v u Q I rx ry h
  obtain ⟨a,j,rfl,rfl,hok,q⟩:=h
  obtain ⟨t,rfl⟩:=rx
  obtain ⟨t',rfl⟩:=ry
  exact SB.mul hok fun t' k=>⟨.str (Txt.mul a j),H,I.tok _,⟨_,rfl⟩,q⟩
theorem Dp {X:Cx}:OpR X (binaryOp .Mult) Aer:=Af5.or (Uo.or Afl)
theorem RepL.flat {K:PySem.W.Frag} {H:Hp} {α:List Addr} {us:List U} {xs:List V} (h:RepL K H α us xs):∀ k:Nat,RepL K H α (List.replicate k us).flatten (List.replicate k xs).flatten
  | 0=>.nil
  | k + 1=>by rw [List.replicate_succ,List.replicate_succ,List.flatten_cons,List.flatten_cons]; exact h.append (RepL.flat h k)
theorem Di {K:PySem.W.Frag}:C4 K Aer Bj:=by
  intro H α L u w x y z L' Q A ru rw e q
  unfold Bj at e
  split at e
  · rename_i i j
    split at e
    · rename_i h
      cases e
      unfold RepU at ru rw
      refine .inl ⟨_,_,ru,rw,?_,q _ H α (.refl _ _) A rfl⟩
      simp only [Gs,Bool.or_eq_true,Bool.and_eq_true,decide_eq_true_eq] at h
      exact h
    · cases e
  · rename_i a j
    split at e
    · rename_i h
      cases e
      unfold RepU at ru rw
      exact .inr (.inl ⟨_,_,ru,rw,mulOk_of 1000 1000 h.1 (by omega) (by omega) (by decide) (by decide),q _ H α (.refl _ _) A rfl⟩)
    · cases e
  · rename_i n k
    obtain ⟨a,ha,e⟩:=Option.bind_eq_some_iff.mp e
    split at e
    · rename_i h
      cases e
      obtain ⟨p,xs,e1,h1,r1⟩:=K6 A ha
      obtain ⟨p',e1',rfl⟩:=ru.ref_of A
      rw [e1] at e1'; cases e1'
      unfold RepU at rw
      refine .inr (.inr ⟨p,k,xs,rfl,rw,h1,by omega,by omega,by rw [← r1.length]; exact Dy h.2.2,fun l hl=>?_⟩)
      obtain ⟨g,A',r⟩:=A.lst (r1.flat k.toNat) hl
      exact q _ _ _ g A' r
    · cases e
  · cases e
def Abm (i j:Int):Prop:=0 < j ∧ j < 1152921504606846976
theorem Kv {X:Cx}:OpR X (binaryOp .FloorDiv) (rI Abm fun i j=>.int (i / j)):=opI fun i j _ _ _ _ _ hc q=>by
  have h1:(0:Int) < j:=hc.1
  have h2:j < 1152921504606846976:=hc.2
  refine floordiv_int (by omega) (by rw [Int.fdiv_eq_ediv_of_nonneg i (by omega)]; exact q) (.inl (PyProof.noPylong_of_log2 ?_))
  have h3:j.natAbs.log2 < 60:=(Nat.log2_lt (by omega)).mpr (by omega)
  omega
def P9 (i j:Int):Bool:=decide (0 < j) && decide (j < 1152921504606846976)
def Gi:S2:=Xr P9 fun i j=>.int (i / j)
theorem Mn {K:PySem.W.Frag}:C4 K (rI Abm fun i j=>.int (i / j)) Gi:=Vk (fun i j h=>by simpa [P9,Abm] using h) fun _ _ _ _=>rfl
def C2:S2:=Xr (fun _ j=>decide (0 < j)) fun i j=>.int (i % j)
theorem Gy {K:PySem.W.Frag}:C4 K (rI (fun _ j=>0 < j) fun i j=>.int (i % j)) C2:=Vk (fun i j h=>by simpa using h) fun _ _ _ _=>rfl
def Pn (i j:Int):Bool:=decide (0 ≤ j) && decide (j ≤ 1000000) && decide (i.natAbs < 2 ^ 64)
def Fm:S2:=Xr Pn fun i j=>.int (i ^ j.toNat)
theorem Kn {K:PySem.W.Frag}:C4 K (rI Ai0 fun i j=>.int (i ^ j.toNat)) Fm:=Vk (fun i j h=>by simp [Pn] at h; exact ⟨h.1.1,h.1.2,h.2⟩) fun _ _ _ _=>rfl
def Abk:S2:=Of fun i j=>.bl (decide (i ≤ j))
def Sf:S2:=Of fun i j=>.bl (decide (j < i))
def Kl:S2:=Of fun i j=>.bl (decide (j ≤ i))
def Abg:S2:=Of fun i j=>.bl (decide (i < j))
theorem Agy {K:PySem.W.Frag}:C4 K (rI0 fun i j=>.bl (decide (i ≤ j))) Abk:=N0 fun _ _ _ _=>rfl
theorem Uk {K:PySem.W.Frag}:C4 K (rI0 fun i j=>.bl (decide (j < i))) Sf:=N0 fun _ _ _ _=>rfl
theorem Abp {K:PySem.W.Frag}:C4 K (rI0 fun i j=>.bl (decide (j ≤ i))) Kl:=N0 fun _ _ _ _=>rfl
theorem Af1 {K:PySem.W.Frag}:C4 K (rI0 fun i j=>.bl (decide (i < j))) Abg:=N0 fun _ _ _ _=>rfl
def mapO {β γ:Type} (f:β → Option γ):List β → Option (List γ)
  | []=>some []
  | u :: r=>(f u).bind fun d=>(mapO f r).map fun ds=>d :: ds
def toP (L:UH):Nat → U → Option PyData
  | 0,_=>none
  | _ + 1,.non=>some .none
  | _ + 1,.bl b=>some (.bool b)
  | _ + 1,.int i=>some (.int i)
  | _ + 1,.str x=>some (.str x)
  | n + 1,.tup l=>(mapO (toP L n) l).map .tuple
  | n + 1,.ref k=>(Ao L k).bind fun l=>(mapO (toP L n) l).map .list
section
variable {X:Cx} {pins:List (Addr × Obj)} {σ:L2.St} {H:Hp} {s:Shared} {α:List Addr} {L:UH}
theorem Q9 {n:Nat} (ih:∀ (u:U) (x:V) (v:Value) (d:PyData),RepU X.K H α u x → RelV x v → toP L n u = some d → ∃ as,Reads s.heap v d as):∀ (l:List U) (xs:List V) (vs:List Value) (ds:List PyData),RepL X.K H α l xs → Vals xs vs → mapO (toP L n) l = some ds → ∃ as,ReadsAll s.heap vs ds as
  | [],xs,vs,ds,r,hv,e=>by
    unfold RepL at r; subst r; cases hv; cases e; exact ⟨_,.nil⟩
  | u :: l,xs,vs,ds,r,hv,e=>by
    unfold RepL at r
    obtain ⟨x,xr,rfl,r1,r2⟩:=r
    cases hv with
    | cons h1 h2=>
      obtain ⟨d,e1,e⟩:=Option.bind_eq_some_iff.mp e
      obtain ⟨dr,e2,e⟩:=Option.map_eq_some_iff.mp e
      subst e
      obtain ⟨as,q1⟩:=ih u x _ d r1 h1 e1
      obtain ⟨bs,q2⟩:=Q9 ih l xr _ dr r2 h2 e2
      exact ⟨_,.cons q1 q2⟩
theorem Lc (I:Inv X pins σ H s) (A:Abs X.K H α L):∀ (n:Nat) (u:U) (x:V) (v:Value) (d:PyData),RepU X.K H α u x → RelV x v → toP L n u = some d → ∃ as,Reads s.heap v d as
  | 0,_,_,_,_,_,_,e=>by cases e
  | n + 1,u,x,v,d,r,hv,e=>by
    cases u with
    | non=>unfold RepU at r; subst r; cases hv; cases e; exact ⟨_,.none⟩
    | bl b=>unfold RepU at r; subst r; cases hv; cases e; exact ⟨_,.bool b⟩
    | int i=>unfold RepU at r; subst r; obtain ⟨t,rfl⟩:=hv; cases e; exact ⟨_,.int i t⟩
    | str y=>unfold RepU at r; subst r; obtain ⟨t,rfl⟩:=hv; cases e; exact ⟨_,.str y t⟩
    | tup l=>
      unfold RepU at r
      obtain ⟨a,xs,rfl,sq,r⟩:=r
      cases hv
      unfold toP at e
      obtain ⟨ds,e1,e⟩:=Option.map_eq_some_iff.mp e
      subst e
      obtain ⟨its,hv,⟨o,h1,h2,m,h3⟩,_⟩:=I.tuple sq
      obtain ⟨as,q⟩:=Q9 (Lc I A n) l xs its ds r hv e1
      exact ⟨_,.tuple h1 h2 h3 (by simpa using q)⟩
    | ref k=>
      unfold RepU at r
      obtain ⟨a,ea,rfl⟩:=r
      cases hv
      unfold toP at e
      obtain ⟨l,hl,e⟩:=Option.bind_eq_some_iff.mp e
      obtain ⟨ds,e1,e⟩:=Option.map_eq_some_iff.mp e
      subst e
      obtain ⟨a',xs,ea',sq,r⟩:=Ej A hl
      rw [ea] at ea'; cases ea'
      obtain ⟨its,hv,⟨o,m,h1,h2,_,h3⟩,_⟩:=I.list sq
      obtain ⟨as,q⟩:=Q9 (Lc I A n) l xs its ds r hv e1
      exact ⟨_,.list h1 h2 h3 (by simpa using q)⟩
end
def eqP (u w:U) (L:UH):Option Bool:=(toP L 8 u).bind fun d=>(toP L 8 w).bind fun e=>if SeqAt.shaped d = true ∧ SeqAt.shaped e = true then some (PyData.eqv d e) else none
def W7 (K:PySem.W.Frag) (neg:Bool):R2:=fun x y H Q=>∃ α L u w b,Abs K H α L ∧ RepU K H α u x ∧ RepU K H α w y ∧ eqP u w L = some b ∧ Q (.bl (if neg then !b else b)) H
theorem G7 {X:Cx} (hu:X.A.units + 64 < cLine):OpR X (compareOp .Eq) (W7 X.K false):=by
  intro pins s σ H x y v u Q I rx ry h
  obtain ⟨α,L,a,b,k,A,ra,rb,e,q⟩:=h
  obtain ⟨d,e1,e⟩:=Option.bind_eq_some_iff.mp e
  obtain ⟨d2,e2,e⟩:=Option.bind_eq_some_iff.mp e
  split at e
  · rename_i hs
    cases e
    obtain ⟨as,q1⟩:=Lc I A 8 a x v d ra rx e1
    obtain ⟨bs,q2⟩:=Lc I A 8 b y u d2 rb ry e2
    exact eq_dataH q1 q2 hs.1 hs.2 hu ⟨.bl _,H,I,rfl,q⟩
  · cases e
theorem Hq {X:Cx} (hu:X.A.units + 64 < cLine):OpR X (compareOp .NotEq) (W7 X.K true):=by
  intro pins s σ H x y v u Q I rx ry h
  obtain ⟨α,L,a,b,k,A,ra,rb,e,q⟩:=h
  obtain ⟨d,e1,e⟩:=Option.bind_eq_some_iff.mp e
  obtain ⟨d2,e2,e⟩:=Option.bind_eq_some_iff.mp e
  split at e
  · rename_i hs
    cases e
    obtain ⟨as,q1⟩:=Lc I A 8 a x v d ra rx e1
    obtain ⟨bs,q2⟩:=Lc I A 8 b y u d2 rb ry e2
    exact ne_dataH q1 q2 hs.1 hs.2 hu ⟨.bl _,H,I,rfl,q⟩
  · cases e
def Co:S2:=fun u w L=>(eqP u w L).map fun b=>(.bl b,L)
def Bx:S2:=fun u w L=>(eqP u w L).map fun b=>(.bl (!b),L)
theorem G1 {K:PySem.W.Frag}:C4 K (W7 K false) Co:=by
  intro H α L u w x y z L' Q A ru rw e q
  obtain ⟨b,e1,e⟩:=Option.map_eq_some_iff.mp e
  cases e
  exact ⟨α,_,u,w,b,A,ru,rw,e1,q _ H α (.refl _ _) A rfl⟩
theorem G6 {K:PySem.W.Frag}:C4 K (W7 K true) Bx:=by
  intro H α L u w x y z L' Q A ru rw e q
  obtain ⟨b,e1,e⟩:=Option.map_eq_some_iff.mp e
  cases e
  exact ⟨α,_,u,w,b,A,ru,rw,e1,q _ H α (.refl _ _) A rfl⟩
def Aix (neg:Bool):S2:=fun u w L=>match u,w with
  | .non,.non=>some (.bl (!neg),L)
  | .bl a,.bl b=>some (.bl (if neg then !(a == b) else a == b),L)
  | .int _,.non=>some (.bl neg,L)
  | .bl _,.non=>some (.bl neg,L)
  | .str _,.non=>some (.bl neg,L)
  | .tup _,.non=>some (.bl neg,L)
  | .ref _,.non=>some (.bl neg,L)
  | _,_=>none
def isSome:U → Bool
  | .non=>false
  | _=>true
end MR
set_option Elab.async false
set_option linter.all false
set_option maxRecDepth 100000
set_option maxHeartbeats 1000000
namespace MR
open PySem PySem.Spec PyProof.Rows L2
theorem RepL.atI {K:PySem.W.Frag} {H:Hp} {α:List Addr} {us:List U} {xs:List V} {i:Int} {u:U} (r:RepL K H α us xs) (h:L2.atI us i = some u):∃ x,L2.atI xs i = some x ∧ RepU K H α u x:=by
  unfold L2.atI at h ⊢
  obtain ⟨j,e1,e2⟩:=Option.bind_eq_some_iff.mp h
  obtain ⟨x,e3,r3⟩:=r.get e2
  exact ⟨x,by rw [← r.length,e1]; exact e3,r3⟩
def Ar:S2:=fun u w L=>match u,w with
  | .tup l,.int i=>(L2.atI l i).map fun z=>(z,L)
  | .ref n,.int i=>(Ao L n).bind fun l=>(L2.atI l i).map fun z=>(z,L)
  | .str x,.int i=>if B9 x.length = true then (L2.atI x.cps.toList i).map fun c=>(.str ⟨#[c]⟩,L) else none
  | _,_=>none
theorem Bg {K:PySem.W.Frag}:C4 K (rIx K) Ar:=by
  intro H α L u w x y z L' Q A ru rw e q
  unfold Ar at e
  split at e
  · obtain ⟨c,e1,e⟩:=Option.map_eq_some_iff.mp e
    cases e
    unfold RepU at ru rw
    obtain ⟨a,xs,rfl,sq,r⟩:=ru
    obtain ⟨v,e2,r2⟩:=r.atI e1
    exact .inr (.inl ⟨a,xs,_,v,rfl,rw,sq,e2,q _ H α (.refl _ _) A r2⟩)
  · obtain ⟨l,hl,e⟩:=Option.bind_eq_some_iff.mp e
    obtain ⟨c,e1,e⟩:=Option.map_eq_some_iff.mp e
    cases e
    obtain ⟨a,xs,ea,sq,r⟩:=Ej A hl
    obtain ⟨a',ea',rfl⟩:=ru.ref_of A
    rw [ea] at ea'; cases ea'
    unfold RepU at rw
    obtain ⟨v,e2,r2⟩:=r.atI e1
    exact .inl ⟨a,xs,_,v,rfl,rw,sq,e2,q _ H α (.refl _ _) A r2⟩
  · split at e
    · rename_i hs
      obtain ⟨c,e1,e⟩:=Option.map_eq_some_iff.mp e
      cases e
      unfold RepU at ru rw
      exact .inr (.inr ⟨_,_,c,ru,rw,Dy hs,e1,q _ H α (.refl _ _) A rfl⟩)
    · cases e
  · cases e
def Qy (l:List U) (lo hi:Option Int):List U:=(l.drop (HT.sIx l.length 0 lo)).take (HT.sIx l.length l.length hi - HT.sIx l.length 0 lo)
theorem RepL.cut {K:PySem.W.Frag} {H:Hp} {α:List Addr} {us:List U} {xs:List V} (r:RepL K H α us xs) (lo hi:Option Int):RepL K H α (Qy us lo hi) (Sc xs lo hi):=by
  unfold Qy Sc
  rw [r.length]
  exact (r.drop _).take _
def Eu:SS:=fun u lo hi L=>match u with
  | .tup l=>if HT.sIx l.length 0 lo = 0 ∧ HT.sIx l.length l.length hi = l.length then none else some (.tup (Qy l lo hi),L)
  | .ref n=>(Ao L n).map fun l=>(.ref L.length,L ++ [.lst (Qy l lo hi)])
  | _=>none
def Wh (K:PySem.W.Frag):V → Option Int → Option Int → Hp → VK → Prop:=fun x lo hi H Q=>Ain K x lo hi H Q ∨ Aih K x lo hi H Q
theorem Lh {X:Cx}:SlR X (Wh X.K):=Agx.or Adi
theorem Ix {K:PySem.W.Frag}:Vw K (Wh K) Eu:=by
  intro H α L u x lo hi z L' Q A ru e q
  unfold Eu at e
  split at e
  · split at e
    · cases e
    · rename_i hn
      cases e
      unfold RepU at ru
      obtain ⟨a,xs,rfl,sq,r⟩:=ru
      refine .inl ⟨a,xs,rfl,sq,by rw [← r.length]; exact hn,fun p hp=>?_⟩
      obtain ⟨g,A',r'⟩:=A.tup (r.cut lo hi) hp
      exact q _ _ α g A' r'
  · obtain ⟨l,hl,e⟩:=Option.map_eq_some_iff.mp e
    cases e
    obtain ⟨a,xs,ea,sq,r⟩:=Ej A hl
    obtain ⟨a',ea',rfl⟩:=ru.ref_of A
    rw [ea] at ea'; cases ea'
    refine .inr ⟨a,xs,rfl,sq,fun p hp=>?_⟩
    obtain ⟨g,A',r'⟩:=A.lst (r.cut lo hi) hp
    exact q _ _ _ g A' r'
  · cases e
def toV:U → Option V
  | .non=>some .non
  | .bl b=>some (.bl b)
  | .int i=>some (.int i)
  | .str x=>some (.str x)
  | _=>none
theorem Tb {K:PySem.W.Frag} {H:Hp} {α:List Addr} {u:U} {x y:V} (r:RepU K H α u x) (h:toV u = some y):x = y ∧ Js y = true:=by
  cases u <;> simp only [toV] at h <;> first
    | (cases h; unfold RepU at r; exact ⟨r,rfl⟩)
    | cases h
theorem Q4 {K:PySem.W.Frag} {H:Hp} {α:List Addr}:∀ {us:List U} {xs ys:List V},RepL K H α us xs → mapO toV us = some ys → xs = ys ∧ ys.all Js = true
  | [],xs,ys,r,h=>by unfold RepL at r; subst r; cases h; exact ⟨rfl,rfl⟩
  | u :: us,xs,ys,r,h=>by
    unfold RepL at r
    obtain ⟨x,xr,rfl,r1,r2⟩:=r
    obtain ⟨y,e1,h⟩:=Option.bind_eq_some_iff.mp h
    obtain ⟨yr,e2,h⟩:=Option.map_eq_some_iff.mp h
    subst h
    obtain ⟨rfl,h1⟩:=Tb r1 e1
    obtain ⟨rfl,h2⟩:=Q4 r2 e2
    exact ⟨rfl,by simp [h1,h2]⟩
def Qh (neg:Bool):S2:=fun u w L=>match w with
  | .tup l=>(toV u).bind fun x=>(mapO toV l).map fun xs=>(.bl (if neg then !inV x xs else inV x xs),L)
  | .ref n=>(Ao L n).bind fun l=>(toV u).bind fun x=>(mapO toV l).map fun xs=>(.bl (if neg then !inV x xs else inV x xs),L)
  | .str j=>match u with
    | .str i=>some (.bl (if neg then !(!(Builtin.Str.occurrences j i 0 j.length 1).isEmpty) else !(Builtin.Str.occurrences j i 0 j.length 1).isEmpty),L)
    | _=>none
  | _=>none
def Ail (K:PySem.W.Frag) (neg:Bool):R2:=fun x y H Q=>rIn K neg x y H Q ∨ ∃ i j,x = .str i ∧ y = .str j ∧ Q (.bl (if neg then !(!(Builtin.Str.occurrences j i 0 j.length 1).isEmpty) else !(Builtin.Str.occurrences j i 0 j.length 1).isEmpty)) H
theorem Af8 {X:Cx}:OpR X (compareOp .In) (Ail X.K false):=W6.or W0
theorem Ae1 {K:PySem.W.Frag} (neg:Bool):C4 K (Ail K neg) (Qh neg):=by
  intro H α L u w x y z L' Q A ru rw e q
  unfold Qh at e
  split at e
  · obtain ⟨x',e1,e⟩:=Option.bind_eq_some_iff.mp e
    obtain ⟨xs,e2,e⟩:=Option.map_eq_some_iff.mp e
    cases e
    unfold RepU at rw
    obtain ⟨a,ys,rfl,sq,r⟩:=rw
    obtain ⟨rfl,f1⟩:=Tb ru e1
    obtain ⟨rfl,f2⟩:=Q4 r e2
    exact .inl ⟨a,ys,rfl,.inr sq,f1,f2,q _ H α (.refl _ _) A rfl⟩
  · obtain ⟨l,hl,e⟩:=Option.bind_eq_some_iff.mp e
    obtain ⟨x',e1,e⟩:=Option.bind_eq_some_iff.mp e
    obtain ⟨xs,e2,e⟩:=Option.map_eq_some_iff.mp e
    cases e
    obtain ⟨a,ys,ea,sq,r⟩:=Ej A hl
    obtain ⟨a',ea',rfl⟩:=rw.ref_of A
    rw [ea] at ea'; cases ea'
    obtain ⟨rfl,f1⟩:=Tb ru e1
    obtain ⟨rfl,f2⟩:=Q4 r e2
    exact .inl ⟨a,ys,rfl,.inl sq,f1,f2,q _ H α (.refl _ _) A rfl⟩
  · split at e
    · cases e
      unfold RepU at ru rw
      exact .inr ⟨_,_,ru,rw,q _ H α (.refl _ _) A rfl⟩
    · cases e
  · cases e
def lenU (u:U) (L:UH):Option Nat:=match u with
  | .str y=>if B9 y.length = true then some y.length else none
  | .tup l=>some l.length
  | .ref n=>(Ao L n).map List.length
  | _=>none
def Cm:SC:=fun us L=>match us with
  | [u]=>(lenU u L).map fun (n:Nat)=>(U.int (n:Int),L)
  | _=>none
theorem Gp {K:PySem.W.Frag}:Ld K (fun xs H Q=>∃ x n,xs = [x] ∧ Ahy K x H n ∧ Q (.int n) H) Cm:=by
  intro H α L us xs z L' Q A r e q
  unfold Cm at e
  split at e
  · rename_i u
    obtain ⟨n,e1,e⟩:=Option.map_eq_some_iff.mp e
    cases e
    obtain ⟨x,rfl,rx⟩:=r.one
    refine ⟨x,n,rfl,?_,q _ H α (.refl _ _) A rfl⟩
    cases u with
    | str y=>
      unfold lenU at e1
      simp only at e1
      split at e1
      · rename_i hs; cases e1; unfold RepU at rx; subst rx; exact ⟨Dy hs,rfl⟩
      · cases e1
    | tup l=>
      cases e1
      unfold RepU at rx
      obtain ⟨a,ys,rfl,sq,r2⟩:=rx
      exact .inr ⟨ys,sq,r2.length⟩
    | ref k=>
      obtain ⟨l,hl,e2⟩:=Option.map_eq_some_iff.mp e1
      subst e2
      obtain ⟨a,ys,ea,sq,r2⟩:=Ej A hl
      obtain ⟨a',ea',rfl⟩:=rx.ref_of A
      rw [ea] at ea'; cases ea'
      exact .inl ⟨ys,sq,r2.length⟩
    | _=>cases e1
  · cases e
def toI:U → Option Int
  | .int i=>some i
  | _=>none
theorem Kg {K:PySem.W.Frag} {H:Hp} {α:List Addr}:∀ {us:List U} {xs:List V} {ns:List Int},RepL K H α us xs → mapO toI us = some ns → xs = ns.map V.int
  | [],xs,ys,r,h=>by unfold RepL at r; subst r; cases h; rfl
  | u :: us,xs,ys,r,h=>by
    unfold RepL at r
    obtain ⟨x,xr,rfl,r1,r2⟩:=r
    obtain ⟨y,e1,h⟩:=Option.bind_eq_some_iff.mp h
    obtain ⟨yr,e2,h⟩:=Option.map_eq_some_iff.mp h
    subst h
    cases u <;> simp only [toI] at e1 <;> first
      | (cases e1; unfold RepU at r1; subst r1; rw [Kg r2 e2]; rfl)
      | cases e1
def J7:List Int → Int
  | []=>0
  | [a]=>a
  | a :: r=>max a (J7 r)
theorem Vd:∀ (ns:List Int) (M:Int),M ∈ ns → (∀ a,a ∈ ns → a ≤ M) → J7 ns = M
  | [],M,h,_=>by cases h
  | [a],M,h,_=>by simp at h; exact h.symm
  | a :: b :: r,M,h,hm=>by
    show max a (J7 (b :: r)) = M
    by_cases hb:M ∈ b :: r
    · rw [Vd (b :: r) M hb fun c hc=>hm c (List.mem_cons_of_mem _ hc)]
      have:=hm a (List.mem_cons_self ..)
      omega
    · rcases List.mem_cons.mp h with rfl | h
      · have hle:∀ (l:List Int),l ≠ [] → (∀ c,c ∈ l → c ≤ M) → J7 l ≤ M:=by
          intro l
          induction l with
          | nil=>intro h; exact absurd rfl h
          | cons c t ih=>
            intro _ hc
            cases t with
            | nil=>exact hc c (List.mem_cons_self ..)
            | cons d t=>
              have h1:=hc c (List.mem_cons_self ..)
              have h2:=ih (by simp) fun e he=>hc e (List.mem_cons_of_mem _ he)
              show max c (J7 (d :: t)) ≤ M
              omega
        have:=hle (b :: r) (by simp) fun c hc=>hm c (List.mem_cons_of_mem _ hc)
        omega
      · exact absurd h hb
section
variable {X:Cx}
theorem X5 (hc:X.calm = true):CallR X (.builtin "sum") (fun xs H Q=>∃ (p:Addr) (ns:List Int),xs = [.ref p] ∧ SqL X.K H p (ns.map V.int) ∧ Q (.int ns.sum) H):=by
  intro pins s σ H xs us Q I r h
  obtain ⟨p,ns,rfl,hq,q⟩:=h
  obtain ⟨u,rfl,rx⟩:=Ia r
  cases rx
  obtain ⟨its,r',pl,hz⟩:=I.list hq
  have hi:IntsAre its ns:=J6 r'
  obtain ⟨m,F⟩:=I.fr
  obtain ⟨xs,hx⟩:=hi.allInts.items
  have hl':s.heap.IsList p (intItems xs):=hx ▸ pl.isList
  refine sum_intListG (I.ok.hd hc) hl' fun h' tk t' hk=>?_
  have e1:ns = xs.toList.map (·.1):=by
    rw [← nums_intItems,← hx]
    exact (show numsOf its.toArray.toList = ns from hi.numsOf).symm
  have e2:preSum (numAt xs) xs.size = ns.sum:=by
    rw [preSum_eq,List.take_of_length_le (by simp),e1]
  rw [e2]
  exact ⟨.int ns.sum,H,I.kept hk,⟨_,rfl⟩,q⟩
theorem Xd (hc:X.calm = true):CallR X (.builtin "sum") (fun xs H Q=>∃ (p:Addr) (ns:List Int),xs = [.ref p] ∧ SqT X.K H p (ns.map V.int) ∧ Q (.int ns.sum) H):=by
  intro pins s σ H xs us Q I r h
  obtain ⟨p,ns,rfl,hq,q⟩:=h
  obtain ⟨u,rfl,rx⟩:=Ia r
  cases rx
  obtain ⟨its,r',pl,hz⟩:=I.tuple hq
  have hi:IntsAre its ns:=J6 r'
  obtain ⟨xs,hx⟩:=hi.allInts.items
  have hl':s.heap.IsTuple p (intItems xs):=hx ▸ pl
  refine PySem.W.ktm_sumG (I.ok.hd hc) hl' fun h' tk t' hk=>?_
  have e1:ns = xs.toList.map (·.1):=by
    rw [← nums_intItems,← hx]
    exact (show numsOf its.toArray.toList = ns from hi.numsOf).symm
  have e2:preSum (numAt xs) xs.size = ns.sum:=by
    rw [preSum_eq,List.take_of_length_le (by simp),e1]
  rw [e2]
  exact ⟨.int ns.sum,H,I.kept hk,⟨_,rfl⟩,q⟩
theorem Pi (hc:X.calm = true):CallR X (.builtin "sum") (fun xs H Q=>(∃ (p:Addr) (ns:List Int),xs = [.ref p] ∧ SqL X.K H p (ns.map V.int) ∧ Q (.int ns.sum) H) ∨ ∃ (p:Addr) (ns:List Int),xs = [.ref p] ∧ SqT X.K H p (ns.map V.int) ∧ Q (.int ns.sum) H):=(X5 hc).or (Xd hc)
theorem Xm (hc:X.calm = true):CallR X (.builtin "max") (fun xs H Q=>∃ (p:Addr) (ns:List Int),xs = [.ref p] ∧ SqL X.K H p (ns.map V.int) ∧ 0 < ns.length ∧ Q (.int (J7 ns)) H):=by
  intro pins s σ H xs us Q I r h
  obtain ⟨p,ns,rfl,hq,hne,q⟩:=h
  obtain ⟨u,rfl,rx⟩:=Ia r
  cases rx
  obtain ⟨its,r',pl,hz⟩:=I.list hq
  have hi:IntsAre its ns:=J6 r'
  obtain ⟨xs,e⟩:=hi.allInts.items
  have hns:ns = xs.toList.map (·.1):=by rw [← hi.numsOf,← nums_intItems,← e]
  have hsz:0 < xs.size:=by
    have h3:=hne; rw [hns,List.length_map,Array.length_toList] at h3; exact h3
  have hl':s.heap.IsList p (intItems xs):=e ▸ pl.isList
  refine max_intList (I.ok.hd hc) hl' hsz fun v h' tk hv hk=>?_
  obtain ⟨t,rfl⟩:=intItems_at hv
  obtain ⟨h1,h2⟩:=argBest_gt (numAt xs) (xs.size - 1)
  have hM:=Vd ns (numAt xs (argBest (fun i j=>decide (numAt xs i > numAt xs j)) (xs.size - 1))) (by rw [hns,numAt_eq]; exact getD_mem (by rw [List.length_map,Array.length_toList]; omega)) (fun a ha=>by
    rw [hns] at ha
    obtain ⟨j,hj,rfl⟩:=mem_getD ha
    rw [List.length_map,Array.length_toList] at hj
    rw [← numAt_eq]; exact h2 j (by omega))
  rw [hM] at q
  exact ⟨.int _,H,I.kept hk,⟨_,rfl⟩,q⟩
end
def Ln:SC:=fun us L=>match us with
  | [.ref n]=>(Ao L n).bind fun l=>(mapO toI l).map fun ns=>(.int ns.sum,L)
  | [.tup l]=>(mapO toI l).map fun ns=>(.int ns.sum,L)
  | _=>none
theorem E9 {K:PySem.W.Frag} {H:Hp} {α:List Addr} {L:UH} {n:Nat} {l:List U} {x:V} (A:Abs K H α L) (hl:Ao L n = some l) (rx:RepU K H α (.ref n) x):∃ a ys,x = .ref a ∧ SqL K H a ys ∧ RepL K H α l ys:=by
  obtain ⟨a,ys,ea,sq,r2⟩:=Ej A hl
  obtain ⟨a',ea',rfl⟩:=rx.ref_of A
  rw [ea] at ea'; cases ea'
  exact ⟨a,ys,rfl,sq,r2⟩
theorem Vj {K:PySem.W.Frag}:Ld K (fun xs H Q=>(∃ (p:Addr) (ns:List Int),xs = [.ref p] ∧ SqL K H p (ns.map V.int) ∧ Q (.int ns.sum) H) ∨ ∃ (p:Addr) (ns:List Int),xs = [.ref p] ∧ SqT K H p (ns.map V.int) ∧ Q (.int ns.sum) H) Ln:=by
  intro H α L us xs z L' Q A r e q
  unfold Ln at e
  split at e
  · obtain ⟨l,hl,e⟩:=Option.bind_eq_some_iff.mp e
    obtain ⟨ns,e1,e⟩:=Option.map_eq_some_iff.mp e
    cases e
    obtain ⟨x,rfl,rx⟩:=r.one
    obtain ⟨a,ys,rfl,sq,r2⟩:=E9 A hl rx
    rw [Kg r2 e1] at sq
    exact .inl ⟨a,ns,rfl,sq,q _ H α (.refl _ _) A rfl⟩
  · obtain ⟨ns,e1,e⟩:=Option.map_eq_some_iff.mp e
    cases e
    obtain ⟨x,rfl,rx⟩:=r.one
    unfold RepU at rx
    obtain ⟨a,ys,rfl,sq,r2⟩:=rx
    rw [Kg r2 e1] at sq
    exact .inr ⟨a,ns,rfl,sq,q _ H α (.refl _ _) A rfl⟩
  · cases e
def Vo (g2:Int → Int → Int) (gl:List Int → Int):SC:=fun us L=>match us with
  | [.int i,.int j]=>some (.int (g2 i j),L)
  | [.ref n]=>(Ao L n).bind fun l=>(mapO toI l).bind fun ns=>if ns.isEmpty = true then none else some (.int (gl ns),L)
  | _=>none
def J9:SC:=Vo (fun i j=>if j > i then j else i) J7
theorem Agg {K:PySem.W.Frag} {g2:Int → Int → Int} {gl:List Int → Int}:Ld K (fun xs H Q=>(∃ i j,xs = [.int i,.int j] ∧ Q (.int (g2 i j)) H) ∨ ∃ (p:Addr) (ns:List Int),xs = [.ref p] ∧ SqL K H p (ns.map V.int) ∧ 0 < ns.length ∧ Q (.int (gl ns)) H) (Vo g2 gl):=by
  intro H α L us xs z L' Q A r e q
  unfold Vo at e
  split at e
  · cases e
    obtain ⟨x,y,rfl,rx,ry⟩:=r.two
    unfold RepU at rx ry
    exact .inl ⟨_,_,by rw [rx,ry],q _ H α (.refl _ _) A rfl⟩
  · obtain ⟨l,hl,e⟩:=Option.bind_eq_some_iff.mp e
    obtain ⟨ns,e1,e⟩:=Option.bind_eq_some_iff.mp e
    split at e
    · cases e
    · rename_i hne
      cases e
      obtain ⟨x,rfl,rx⟩:=r.one
      obtain ⟨a,ys,rfl,sq,r2⟩:=E9 A hl rx
      rw [Kg r2 e1] at sq
      exact .inr ⟨a,ns,rfl,sq,by cases ns <;> simp_all,q _ H α (.refl _ _) A rfl⟩
  · cases e
theorem Qa {X:Cx} (hc:X.calm = true):CallR X (.builtin "max") (fun xs H Q=>(∃ i j,xs = [.int i,.int j] ∧ Q (.int (if j > i then j else i)) H) ∨ ∃ (p:Addr) (ns:List Int),xs = [.ref p] ∧ SqL X.K H p (ns.map V.int) ∧ 0 < ns.length ∧ Q (.int (J7 ns)) H):=(Xf hc).or (Xm hc)
theorem We {K:PySem.W.Frag}:Ld K (fun xs H Q=>(∃ i j,xs = [.int i,.int j] ∧ Q (.int (if j > i then j else i)) H) ∨ ∃ (p:Addr) (ns:List Int),xs = [.ref p] ∧ SqL K H p (ns.map V.int) ∧ 0 < ns.length ∧ Q (.int (J7 ns)) H) J9:=Agg
def Lf:SC:=fun us L=>match us with
  | [.int i]=>some (.int (if i < 0 then -i else i),L)
  | _=>none
theorem Uz {K:PySem.W.Frag}:Ld K (fun xs H Q=>∃ i,xs = [.int i] ∧ Q (.int (if i < 0 then -i else i)) H) Lf:=by
  intro H α L us xs z L' Q A r e q
  unfold Lf at e
  split at e
  · cases e
    obtain ⟨x,rfl,rx⟩:=r.one
    unfold RepU at rx
    exact ⟨_,by rw [rx],q _ H α (.refl _ _) A rfl⟩
  · cases e
def Kh:SC:=fun us L=>match us with
  | [.ref n]=>(Ao L n).map fun l=>(.ref L.length,L ++ [.lst l])
  | [.tup l]=>some (.ref L.length,L ++ [.lst l])
  | _=>none
theorem Ym {K:PySem.W.Frag}:Ld K (fun xs H Q=>∃ p ys,xs = [.ref p] ∧ (SqL K H p ys ∨ SqT K H p ys) ∧ ∀ l,H l = none → Q (.ref l) (upd H l (.lst ys))) Kh:=by
  intro H α L us xs z L' Q A r e q
  unfold Kh at e
  split at e
  · obtain ⟨l,hl,e⟩:=Option.map_eq_some_iff.mp e
    cases e
    obtain ⟨x,rfl,rx⟩:=r.one
    obtain ⟨a,ys,rfl,sq,r2⟩:=E9 A hl rx
    refine ⟨a,ys,rfl,.inl sq,fun p hp=>?_⟩
    obtain ⟨g,A',r'⟩:=A.lst r2 hp
    exact q _ _ _ g A' r'
  · cases e
    obtain ⟨x,rfl,rx⟩:=r.one
    unfold RepU at rx
    obtain ⟨a,ys,rfl,sq,r2⟩:=rx
    refine ⟨a,ys,rfl,.inr sq,fun p hp=>?_⟩
    obtain ⟨g,A',r'⟩:=A.lst r2 hp
    exact q _ _ _ g A' r'
  · cases e
def A7:SC:=fun us L=>match us with
  | [.ref n]=>(Ao L n).map fun l=>(.tup l,L)
  | [.tup l]=>some (.tup l,L)
  | _=>none
theorem Cd {K:PySem.W.Frag}:Ld K (fun xs H Q=>∃ p ys,xs = [.ref p] ∧ ((SqL K H p ys ∧ ∀ l,H l = none → Q (.ref l) (upd H l (.tup ys))) ∨ (SqT K H p ys ∧ Q (.ref p) H))) A7:=by
  intro H α L us xs z L' Q A r e q
  unfold A7 at e
  split at e
  · obtain ⟨l,hl,e⟩:=Option.map_eq_some_iff.mp e
    cases e
    obtain ⟨x,rfl,rx⟩:=r.one
    obtain ⟨a,ys,rfl,sq,r2⟩:=E9 A hl rx
    refine ⟨a,ys,rfl,.inl ⟨sq,fun p hp=>?_⟩⟩
    obtain ⟨g,A',r'⟩:=A.tup r2 hp
    exact q _ _ _ g A' r'
  · cases e
    obtain ⟨x,rfl,rx⟩:=r.one
    have rx':=rx
    unfold RepU at rx
    obtain ⟨a,ys,rfl,sq,r2⟩:=rx
    exact ⟨a,ys,rfl,.inr ⟨sq,q _ H α (.refl _ _) A rx'⟩⟩
  · cases e
def Cr:SM:=fun u us L=>match u,us with
  | .ref n,[y]=>(Fc L n).bind fun l=>if decide (l.length < sizeLine) = true then some (.non,L.set n (.lst (l ++ [y]))) else none
  | _,_=>none
theorem M8 {K:PySem.W.Frag} {H:Hp} {α:List Addr} {L:UH} {n:Nat} {l:List U} {x:V} (A:Abs K H α L) (hl:Fc L n = some l) (rx:RepU K H α (.ref n) x):∃ a ys,x = .ref a ∧ α[n]? = some a ∧ H a = some (.lst ys) ∧ RepL K H α l ys:=by
  obtain ⟨a,ys,ea,sq,r2⟩:=K6 A hl
  obtain ⟨a',ea',rfl⟩:=rx.ref_of A
  rw [ea] at ea'; cases ea'
  exact ⟨a,ys,rfl,ea,sq,r2⟩
theorem Gb {K:PySem.W.Frag}:Aaj K V6 Cr:=by
  intro H α L u us x xs z L' Q A ru r e q
  unfold Cr at e
  split at e
  · obtain ⟨l,hl,e⟩:=Option.bind_eq_some_iff.mp e
    split at e
    · rename_i hs
      cases e
      obtain ⟨y,rfl,ry⟩:=r.one
      obtain ⟨a,ys,rfl,ea,h,r2⟩:=M8 A hl ru
      obtain ⟨g,A'⟩:=A.setL hl ea h (r2.append (.cons ry .nil))
      exact ⟨a,ys,y,rfl,rfl,h,by rw [← r2.length]; exact of_decide_eq_true hs,q _ _ _ g A' rfl⟩
    · cases e
  · cases e
def Lk:SM:=fun u us L=>match u,us with
  | .ref n,[.int i]=>(Fc L n).bind fun l=>if -(2 ^ 63) ≤ i ∧ i < 2 ^ 63 then (seqIndex? i l.length).bind fun k=>(l[k]?).map fun y=>(y,L.set n (.lst (l.eraseIdx k))) else none
  | _,_=>none
theorem Ady {K:PySem.W.Frag}:Aaj K Aaw Lk:=by
  intro H α L u us x xs z L' Q A ru r e q
  unfold Lk at e
  split at e
  · obtain ⟨l,hl,e⟩:=Option.bind_eq_some_iff.mp e
    split at e
    · rename_i hs
      obtain ⟨k,ek,e⟩:=Option.bind_eq_some_iff.mp e
      obtain ⟨y,ey,e⟩:=Option.map_eq_some_iff.mp e
      cases e
      obtain ⟨v,rfl,rv⟩:=r.one
      unfold RepU at rv
      subst rv
      obtain ⟨a,ys,rfl,ea,h,r2⟩:=M8 A hl ru
      obtain ⟨w,ew,rw⟩:=r2.get ey
      obtain ⟨g,A'⟩:=A.setL hl ea h (r2.erase k)
      exact ⟨a,ys,_,k,w,rfl,rfl,h,hs.1,hs.2,by rw [← r2.length]; exact ek,ew,q _ _ _ g A' (rw.mono g)⟩
    · cases e
  · cases e
def gSub (fo fi:FE):FG:=fun v δ L=>(fo δ L).bind fun p=>(fi δ p.2).bind fun q=>match p.1,q.1 with
  | .ref n,.int k=>(Fc q.2 n).bind fun l=>(ixN l.length k).map fun j=>(δ,q.2.set n (.lst (l.set j v)))
  | _,_=>none
theorem Qv {X:Cx} {o i:Expr} {fo fi:FE} {pos:Pos} (ho:PEF X o fo) (hi:PEF X i fi) (ha:∀ v,assign (.Subscript o i pos) X.env v = (do let ov ← holding [v] (eval o X.env); let iv ← holding [v,ov] (eval i X.env); standAt pos; holding [v,ov,iv] (setItem ov iv v); release [v,ov,iv] []):=by intro _; rfl):PGF X (.Subscript o i pos) (MR.gSub fo fi):=by
  refine PG.imp (Afh ho hi X8 ha) ?_
  rintro v σ H Q ⟨α,δ,L,u,A,S,r,δ',L',e,q⟩
  obtain ⟨⟨o',L1⟩,e1,e⟩:=Option.bind_eq_some_iff.mp e
  obtain ⟨⟨i',L2⟩,e2,e⟩:=Option.bind_eq_some_iff.mp e
  refine ⟨α,δ,L,A,S,o',L1,e1,fun x H1 α1 g1 A1 r1=>⟨α1,δ,L1,A1,S.mono g1,i',L2,e2,fun y H2 α2 g2 A2 r2=>?_⟩⟩
  simp only at e
  split at e
  · obtain ⟨l,hl,e⟩:=Option.bind_eq_some_iff.mp e
    obtain ⟨j,ej,e⟩:=Option.map_eq_some_iff.mp e
    cases e
    unfold RepU at r2
    subst r2
    obtain ⟨a,ys,rfl,ea,h,r3⟩:=M8 A2 hl (r1.mono g2)
    obtain ⟨g,A'⟩:=A2.setL hl ea h (r3.set ((r.mono g1).mono g2) j)
    exact ⟨a,ys,_,j,rfl,rfl,h,by rw [← r3.length]; exact ej,q _ _ _ (g1.trans (g2.trans g)) A' (((S.mono g1).mono g2).mono g)⟩
  · cases e
end MR
set_option Elab.async false
set_option linter.all false
set_option maxRecDepth 100000
set_option maxHeartbeats 1000000
namespace MR
open PySem PySem.Spec PyProof.Rows L2
def Y3 (u:U) (L:UH):Option String:=match u with
  | .non=>some "NoneType"
  | .bl _=>some "bool"
  | .int _=>some "int"
  | .str _=>some "str"
  | .tup _=>some "tuple"
  | .ref n=>match L[n]? with
    | some (.lst _)=>some "list"
    | some (.ro _)=>some "list"
    | some (.dic _)=>some "dict"
    | _=>none
def isT (t c:String):Bool:=t == c || (t == "bool" && c == "int")
def Akd (c:String) (f:FE):FE:=fun δ L=>(f δ L).bind fun p=>(Y3 p.1 p.2).map fun t=>(.bl (isT t c),p.2)
end MR
namespace MR
open PySem PySem.Spec PyProof.Rows L2
theorem Agp {K:PySem.W.Frag} {F:FN} {H:Hp} {a:Addr} {ns:List Int} {E:XK} (ho:Ae5 H) (hS:SqL K H a (ns.map V.int)) (h:∃ L',F [.ref 0] [.ro (ns.map U.int)] = some (.bl true,L')):spF K 1 F [.ref a] H (fun v _=>v = .bl true) E:=by
  obtain ⟨L',e⟩:=h
  have ro:RO K H a (ns.map V.int):=by
    rcases hS with (q | ⟨o,q⟩) | q
    · rcases ho a with z | ⟨o,xs,z⟩
      · rw [z] at q; cases q
      · rw [z] at q; cases q
    · exact .inl ⟨o,q⟩
    · exact .inr q
  refine ⟨[a],[.ro (ns.map U.int)],[.ref 0],⟨rfl,fun i j b o o' e1 e2 e3 e4=>?_,fun i b o e1 e2=>?_⟩,.cons ?_ .nil,rfl,.bl true,L',e,fun v H' α' _ _ r=>r⟩
  · cases i with
    | zero=>cases j with
      | zero=>exact .inl rfl
      | succ j=>simp at e2
    | succ i=>simp at e1
  · cases i with
    | zero=>simp at e1 e2; subst e1; subst e2; exact ⟨_,ro,RepL.ints ns⟩
    | succ i=>simp at e1
  · unfold RepU; exact ⟨a,rfl,rfl⟩
end MR
set_option Elab.async false
set_option linter.all false
set_option maxRecDepth 100000
set_option maxHeartbeats 2000000
namespace MR
open PySem PySem.Spec PyProof.Rows L2
theorem Ke (env:PySem.Env):∀ (names:List (Str × NameKind)) (cs:List (Str × Addr)),(∀ y ∈ names,y.2 = .free → ∃ c,env.cells.lookup y.1 = some c) → (∀ x c,cs.lookup x = some c → env.cells.lookup x = some c) →
    ∃ cl:List (Str × Addr),(forIn names cs fun (x:Str × NameKind) r=>if (x.2 == NameKind.free) = true then do let c ← cellOf env x.1; pure (ForInStep.yield ((x.1,c) :: r)) else pure (ForInStep.yield r):Sem (List (Str × Addr))) = pure cl ∧
      (∀ x c,cl.lookup x = some c → env.cells.lookup x = some c) ∧ (∀ y ∈ names,y.2 = .free → ∃ c,cl.lookup y.1 = some c) ∧ ∀ x,(∃ c,cs.lookup x = some c) → ∃ c,cl.lookup x = some c
  | [],cs,_,h2=>⟨cs,rfl,h2,(fun _ h=>nomatch h),fun _ h=>h⟩
  | (n,k) :: r,cs,h1,h2=>by
    cases hk:k == NameKind.free with
    | true=>
      have hk':k = .free:=by simpa using hk
      obtain ⟨c,hc⟩:=h1 (n,k) (List.mem_cons_self ..) hk'
      have look:∀ x c',List.lookup x ((n,c) :: cs) = some c' → env.cells.lookup x = some c':=fun x c' e=>by
        rw [List.lookup_cons] at e
        cases hx:x == n with
        | true => rw [hx] at e; simp at e; subst e; have : x = n := by simpa using hx
                  rw [this]; exact hc
        | false=>rw [hx] at e; exact h2 x c' e
      obtain ⟨cl,e,p1,p2,p3⟩:=Ke env r ((n,c) :: cs) (fun y hy=>h1 y (List.mem_cons_of_mem _ hy)) look
      refine ⟨cl,?_,p1,fun y hy hf=>?_,fun x hx=>?_⟩
      · rw [List.forIn_cons]
        have e0:(cellOf env n:Sem Addr) = pure c:=by unfold cellOf; rw [hc]
        simp only [hk,if_true,e0]
        exact e
      · rcases List.mem_cons.mp hy with rfl | hy
        · exact p3 n ⟨c,by simp⟩
        · exact p2 y hy hf
      · refine p3 x ?_
        rw [List.lookup_cons]
        cases hx':x == n with
        | true=>exact ⟨c,rfl⟩
        | false=>exact hx
    | false=>
      obtain ⟨cl,e,p1,p2,p3⟩:=Ke env r cs (fun y hy=>h1 y (List.mem_cons_of_mem _ hy)) h2
      refine ⟨cl,?_,p1,fun y hy hf=>?_,p3⟩
      · rw [List.forIn_cons]
        simp only [hk,Bool.false_eq_true,if_false]
        exact e
      · rcases List.mem_cons.mp hy with rfl | hy
        · rw [show k = NameKind.free from hf] at hk; cases hk
        · exact p2 y hy hf
theorem Jw {scope:Scope} {env:PySem.Env} (h:∀ y ∈ scope.names,y.2 = .free → ∃ c,env.cells.lookup y.1 = some c) :
    ∃ cl,closureFor scope env = pure cl ∧ (∀ x c,cl.lookup x = some c → env.cells.lookup x = some c) ∧ ∀ y ∈ scope.names,y.2 = .free → ∃ c,cl.lookup y.1 = some c:=by
  obtain ⟨cl,e,p1,p2,_⟩:=Ke env scope.names [] h (fun x c e=>by simp at e)
  refine ⟨cl,?_,p1,p2⟩
  unfold closureFor
  show (forIn scope.names [] _ >>= fun cs=>pure cs) = pure cl
  have:(forIn scope.names ([]:List (Str × Addr)) (fun (x:Str × NameKind) (r:List (Str × Addr))=>if (x.2 == NameKind.free) = true then do let c ← cellOf env x.1; pure (ForInStep.yield ((x.1,c) :: r)) else pure (ForInStep.yield r)):Sem (List (Str × Addr))) >>= (fun cs=>pure cs) = pure cl:=by rw [e]; rfl
  exact this
end MR
set_option Elab.async false
set_option linter.all false
set_option maxRecDepth 100000
set_option maxHeartbeats 4000000
namespace MR
open PySem PySem.Spec PyProof.Rows L2
def blk (X:Cx) (scope:Scope) (cl:List (Str × Addr)) (C:Addr) (N':List Str) (s2:Shared) (H2:Hp) (fp:List Addr) (pins:List (Addr × Obj)):Cx:=
  { X with env:=compEnvC scope cl C X.env,N:=N',s₀:=s2,H₀:=H2,outer:=X.stack,ex:=fp,fn:=fun _=>false,pn:=X.pn ++ pins,xe:=fun _ _=>False }
theorem HOk.adopt {P:Program} {w:World} {H:Hp} {h:Heap} {a:Addr} {o:HO} (x:HOk P w H h) (hn:H a = none) (new:ObjOk P w (upd H a o) h a o):HOk P w (upd H a o) h:=fun b u e=>by
  by_cases hb:b = a
  · subst hb; rw [Es] at e; cases e; exact new
  · rw [Az hb] at e
    exact (x b u e).stay (fun c v _ q=>q) (fun c q=>by rw [Az (Be q hn)]; exact q) fun c xs q=>by rw [Az (Be q hn)]; exact q
theorem Un.adopt {fs ex:List Addr} {H H1:Hp} {h h1:Heap} {a:Addr} {o:HO} (u:Un fs ex H H1 h h1) (hn:H1 a = none) (ha:h.get? a = none):Un fs ex H (upd H1 a o) h h1 where
  keep:=u.keep
  slot:=u.slot
  free:=fun b ob q n hx=>by
    have:b ≠ a:=fun z=>by rw [z,ha] at q; cases q
    rw [Az this]; exact u.free b ob q n hx
  there:=u.there
  tups:=fun b xs q=>by have q':=u.tups b xs q; rw [Az (Be q' hn)]; exact q'
  frzs:=fun b ob xs q=>by have q':=u.frzs b ob xs q; rw [Az (Be q' hn)]; exact q'
  tbls:=fun b ps q=>by
    obtain ⟨m,q'⟩:=u.tbls b ps q
    exact ⟨m,by rw [Az (Be q' hn)]; exact q'⟩
structure CompSc (X:Cx) (scope:Scope) (N':List Str) (ix:List (Option Nat)):Prop where
  kind:scope.kind = .function
  cell:(scope.names.all fun y=>y.2 != .cell) = true
  loc:(scope.names.all fun y=>y.2 != .local || scope.names.lookup y.1 == some .local) = true
  free:(scope.names.all fun y=>y.2 != .free || (X.env.kindOf y.1 == some .cell || X.env.kindOf y.1 == some .free)) = true
  ixs:((N'.zip ix).all fun p=>match p.2 with | none=>true | some i=>(X.N[i]? == some p.1) && (scope.names.lookup p.1 == some .free)) = true
  len:N'.length = ix.length
def inner (ix:List (Option Nat)) (σ:L2.St):L2.St:=ix.map fun o=>o.bind fun i=>(σ[i]?).join
def Wa (J:It) (g:TG) (tt:TT) (te:TE) (σ':L2.St) (H:Hp) (Fin:List V → Hp → Prop):Prop:=∃ W:Nat → Nat → List V → L2.St → Hp → Prop,(∃ m,W 0 m [] σ' H) ∧ ∀ i m acc σ1 H1,W i m acc σ1 H1 →
  (J.stop i H1 ∧ Fin acc H1) ∨ (J.go i H1 ∧ ∀ x H3,J.yld i H1 x H3 → g x σ1 H3 fun σ2 H4=>tt σ2 H4 fun b H5=>
    if b = true then te σ2 H5 fun y H6=>acc.length < sizeLine ∧ ∃ m',m' < m ∧ W (i + 1) m' (acc ++ [y]) σ2 H6 else ∃ m',m' < m ∧ W (i + 1) m' acc σ2 H5)
section
variable {X:Cx} {scope:Scope} {N':List Str} {ix:List (Option Nat)} {pins:List (Addr × Obj)} {σ:L2.St} {H2:Hp} {s2:Shared} {cl:List (Str × Addr)} {fp:List Addr}
theorem Cz {β:Type} {x:Str} {v:β}:∀ {l:List (Str × β)},l.lookup x = some v → (x,v) ∈ l
  | [],h=>by simp at h
  | (n,k) :: r,h=>by
    rw [List.lookup_cons] at h
    cases hx:x == n with
    | true => rw [hx] at h; simp at h; have : x = n := by simpa using hx
              subst this; subst h; exact List.mem_cons_self ..
    | false=>rw [hx] at h; exact List.mem_cons_of_mem _ (Cz h)
theorem Da {env:PySem.Env} {x:Str}:∀ {names:List (Str × NameKind)} {k:NameKind},(names.map fun (n,k)=>if (k == NameKind.free && env.scope.kind == .function && env.kindOf n == some .cell) then (n,NameKind.cell) else (n,k)).lookup x = some k →
    names.lookup x = some k ∨ (names.lookup x = some .free ∧ k = .cell)
  | [],k,h=>by simp at h
  | (n,k') :: r,k,h=>by
    have ih:=@Da env x r k
    rw [List.map_cons] at h
    cases hx:x == n with
    | true=>
      rw [List.lookup_cons,hx]
      simp only at h ⊢
      split at h
      · rename_i hc
        rw [List.lookup_cons,hx] at h
        simp at h
        simp only [Bool.and_eq_true] at hc
        have:k' = .free:=by simpa using hc.1.1
        subst this
        exact .inr ⟨rfl,h.symm⟩
      · rw [List.lookup_cons,hx] at h
        exact .inl h
    | false=>
      rw [List.lookup_cons,hx]
      simp only at h ⊢
      split at h
      · rw [List.lookup_cons,hx] at h; exact ih h
      · rw [List.lookup_cons,hx] at h; exact ih h
theorem Dw {env:PySem.Env} {x:Str}:∀ {names:List (Str × NameKind)},names.lookup x = some .free →
    (names.map fun (n,k)=>if (k == NameKind.free && env.scope.kind == .function && env.kindOf n == some .cell) then (n,NameKind.cell) else (n,k)).lookup x = some .free ∨ (names.map fun (n,k)=>if (k == NameKind.free && env.scope.kind == .function && env.kindOf n == some .cell) then (n,NameKind.cell) else (n,k)).lookup x = some .cell
  | [],h=>by simp at h
  | (n,k') :: r,h=>by
    have ih:=@Dw env x r
    rw [List.map_cons]
    cases hx:x == n with
    | true=>
      rw [List.lookup_cons,hx] at h
      simp at h
      subst h
      simp only
      split
      · right; rw [List.lookup_cons,hx]
      · left; rw [List.lookup_cons,hx]
    | false=>
      rw [List.lookup_cons,hx] at h
      have:=ih h
      simp only
      split
      · rw [List.lookup_cons,hx]; exact this
      · rw [List.lookup_cons,hx]; exact this
theorem W5 (S:CompSc X scope N' ix) (hcalm:X.calm = true) (I2:Inv X pins σ H2 s2) (hcl:∀ x c,cl.lookup x = some c → X.env.cells.lookup x = some c) (hcl2:∀ y ∈ scope.names,y.2 = .free → ∃ c,cl.lookup y.1 = some c)
    (f2:∀ b ∈ fp,Fu X pins H2 b) (hfp:∀ b ∈ fp,b < s2.heap.objs.size) {C:Addr} {h4:Heap} {m:Str → Option Value} {t4:Nat} (hC:s2.heap.objs.size ≤ C) (hns:h4.Ns C m) (keep:∀ b o,s2.heap.get? b = some o → h4.get? b = some o) :
    Inv (blk X scope cl C N' s2 H2 fp pins) [] (inner ix σ) H2 { s2 with heap:=h4,toks:=t4 }:=by
  have hkindC:(relabel scope X.env).kind = .function:=S.kind
  have ok:(blk X scope cl C N' s2 H2 fp pins).Ok:=
    { mod:=I2.ok.mod
      kind:=hkindC
      glob:=I2.ok.glob
      blt:=I2.ok.blt
      above:=hC
      inj:=fun x y c e1 e2=>I2.ok.inj x y c (hcl x c e1) (hcl y c e2)
      has:=fun x h=>by
        have h':(relabel scope X.env).names.lookup x = some .cell ∨ (relabel scope X.env).names.lookup x = some .free:=h
        have hfree:scope.names.lookup x = some .free:=by
          rcases h' with h' | h'
          · rcases Da h' with q | ⟨q,_⟩
            · have:=List.all_eq_true.mp S.cell _ (Cz q)
              simp at this
            · exact q
          · rcases Da h' with q | ⟨q,z⟩
            · exact q
            · cases z
        exact hcl2 _ (Cz hfree) rfl
      cab:=fun x c h=>by cases h
      hd:=fun _=>I2.ok.hd hcalm
      frames:=I2.ok.frames
      stk:=.inl rfl
      exf:=fun b hb=>⟨Nat.ne_of_lt (Nat.lt_of_lt_of_le (hfp b hb) hC),fun x c e=>(f2 b hb).2.2.2.2.1 x c (hcl x c e)⟩
      bs:=fun b o e=>I2.bs b o e
      bsz:=Nat.le_trans I2.ok.bsz I2.sz
      noex:=fun b o e hb=>by
        rcases (f2 b hb).2.2.2.1 with z | z
        · exact I2.ok.noex b o e z
        · exact absurd (Nat.lt_of_lt_of_le (Heap.lt_size (I2.ok.bs b o e).1) z) (Nat.lt_irrefl _)
      exfs:=fun b hb z=>by
        rcases List.mem_cons.mp (I2.stkSub b z) with q | q
        · exact (f2 b hb).2.1 q
        · exact (f2 b hb).2.2.1 q
      funs:=I2.stack
      frf:=I2.stkFree }
  obtain ⟨m0,hn0,hl0⟩:=id I2.loc
  refine ⟨ok,rfl,I2.bare,Un.kept keep,⟨m,hns,fun j x v e1 e2 e3=>?_⟩,fun x c e=>?_,I2.hok.fresh hC,fun x c e=>I2.freeC x c (hcl x c e),fun p hp=>?_,I2.hok.kept keep,?_⟩
  · -- a name that the block takes along
    have e1':N'[j]? = some x:=e1
    have e2':(inner ix σ)[j]? = some (some v):=e2
    unfold inner at e2'
    rw [List.getElem?_map] at e2'
    cases hx:ix[j]? with
    | none=>rw [hx] at e2'; simp at e2'
    | some o=>
      rw [hx] at e2'
      cases o with
      | none=>simp at e2'
      | some i=>
        simp at e2'
        have hz:(x,some i) ∈ N'.zip ix:=List.mem_of_getElem? (i:=j) (by rw [List.getElem?_zip_eq_some]; exact ⟨e1',hx⟩)
        have hz':=List.all_eq_true.mp S.ixs _ hz
        simp only [Bool.and_eq_true,beq_iff_eq] at hz'
        obtain ⟨hXN,hfr⟩:=hz'
        have hσ:σ[i]? = some (some v):=by
          cases q:σ[i]? with
          | none=>rw [q] at e2'; simp at e2'
          | some o=>rw [q] at e2'; simp at e2'; rw [e2']
        have hk:=List.all_eq_true.mp S.free _ (Cz hfr)
        simp at hk
        have hvis:Vis X.env.scope x:=by
          rcases hk with q | q
          · exact .inr (.inl q)
          · exact .inr (.inr q)
        obtain ⟨u,r,look⟩:=hl0 i x v hXN hσ hvis
        rcases look with ⟨q,_⟩ | ⟨_,c,ec,hc⟩
        · rcases hk with z | z
          · rw [z] at q; cases q
          · rw [z] at q; cases q
        · obtain ⟨c',ec'⟩:=hcl2 _ (Cz hfr) rfl
          have:c' = c:=by have:=hcl x c' ec'; rw [ec] at this; cases this; rfl
          subst this
          refine ⟨u,r,.inr ⟨?_,c',ec',?_⟩⟩
          · rcases Dw (env:=X.env) hfr with q | q
            · exact .inr q
            · exact .inl q
          · obtain ⟨oc,ho,hd⟩:=hc
            exact ⟨oc,keep _ _ ho,hd⟩
  · obtain ⟨v,oc,ho,hd⟩:=I2.cell x c (hcl x c e)
    exact ⟨v,oc,keep _ _ ho,hd⟩
  · have hp':p ∈ X.pn ++ pins:=by simpa [blk] using hp
    obtain ⟨q1,q2,q3,q4,q5⟩:=I2.pin p hp'
    refine ⟨keep _ _ q1,q2,Nat.ne_of_lt (Nat.lt_of_lt_of_le (Heap.lt_size q1) hC),fun z=>?_,q5⟩
    rcases List.mem_cons.mp (I2.stkSub p.1 z) with q | q
    · exact q3 q
    · exact q4 q
  · show (inner ix σ).length = N'.length
    rw [S.len]; simp [inner]
end
end MR
set_option Elab.async false
set_option linter.all false
set_option maxRecDepth 100000
set_option maxHeartbeats 4000000
namespace MR
open PySem PySem.Spec PyProof.Rows L2
section
variable {X:Cx} {scope:Scope} {N':List Str} {ix:List (Option Nat)} {pins:List (Addr × Obj)} {σ:L2.St} {H2:Hp} {s2:Shared} {cl:List (Str × Addr)} {fp:List Addr}
def Ly (X':Cx) (ifs:List Expr) (tt:TT):Prop:=∀ (pins:List (Addr × Obj)) (s:Shared) (σ:L2.St) (H:Hp) (Q:Bool → Hp → Prop) (E:Value → Shared → Prop),Inv X' pins σ H s → tt σ H Q → (∀ e s,X'.xe e s → E e s) →
  wpAny (model X'.prog X'.w) X'.A (forIn ifs true fun c r=>if r = true then do let ok ← isTrue c X'.env (eval c X'.env); pure (ForInStep.yield ok) else pure (ForInStep.yield r)) (TP X' pins σ Q) E s
def Aat:TT:=fun _ H Q=>Q true H
theorem Lp {X':Cx}:Ly X' [] Aat:=fun pins s σ H Q E I h _=>wpAny_tests_nil ⟨H,I,h⟩
theorem Qe {X':Cx} {c:Expr} {tt:TT} (h:PT X' c tt):Ly X' [c] tt:=fun pins s σ H Q E I q hE=>wpAny_tests_one (wpAny_mono (h pins s σ H Q I q) (fun _ _ z=>z) hE)
def B3 (its:List Value) (n:Nat):Obj:={ cls:=.type "list",data:=.seq its.toArray n }
theorem Pv {elt tg iter:Expr} {ifs:List Expr} {pos:Pos} {it D C:Addr} {J:It} {tn:Nat → Heap → Prop} {g:TG} {tt:TT} {te:TE} {Fin:List V → Hp → Prop} {R:Result → Shared → Prop} {X':Cx}
    (hX:X'.A = X.A ∧ X'.prog = X.prog ∧ X'.w = X.w ∧ X'.K = X.K ∧ X'.calm = true ∧ ∀ e s,¬ X'.xe e s) (T:Turn X.prog X.w X.K tg J fp it tn) (hg:PG X' tg g) (ht:Ly X' ifs tt) (he:PE X' elt te)
    (hD1:s2.heap.objs.size ≤ D) (hDC:D ≠ C) (hC:s2.heap.objs.size ≤ C) (hfp:∀ b ∈ fp,Fu X' [] H2 b ∧ b ≠ D) (hDf:∀ H,H D = none → Fu X' [] H D)
    {s:Shared} {σ1:L2.St} {H1:Hp} {n0:Nat} (I:Inv X' [(D,B3 [] n0)] σ1 H1 s) (st:tn 0 s.heap) (fr:∀ b ∈ fp,H1 b = none) (hloop:Wa J g tt te σ1 H1 Fin)
    (hR:∀ (s':Shared) (σ':L2.St) (H':Hp) (acc:List V) (its:List Value) (n:Nat),Inv X' [(D,B3 its n)] σ' H' s' → Vals acc its → acc.length ≤ sizeLine → Fin acc H' → R (.ok .next) s') :
    codeAny (model X.prog X.w) X.A (.compLoop (.ListComp elt [⟨tg,iter,ifs,0⟩] scope pos) 0 (.ref it) (.ref D) X'.env) R s:=by
  obtain ⟨W,⟨m0,w0⟩,turn⟩:=hloop
  obtain ⟨hXA,hXp,hXw,hXK,hXc,hxe⟩:=hX
  have hfpo:∀ (o:Obj) (H:Hp),(∀ b ∈ fp,H b = none) → ∀ b ∈ fp,Fu X' [(D,o)] H b:=fun o H hn b hb=>by
    obtain ⟨⟨_,q1,q2,q3,q4,q5⟩,q6⟩:=hfp b hb
    refine ⟨hn b hb,q1,q2,q3,q4,fun p hp=>?_⟩
    rcases List.mem_append.mp hp with z | z
    · exact q5 p (List.mem_append_left _ z)
    · have:p = (D,o):=by simpa using z
      rw [this]; exact fun z=>q6 z.symm
  refine codeAny_loop rfl (fun n s=>∃ i acc its k σ1 H1,Inv X' [(D,B3 its k)] σ1 H1 s ∧ Vals acc its ∧ acc.length ≤ sizeLine ∧ tn i s.heap ∧ (∀ b ∈ fp,H1 b = none) ∧ W i n acc σ1 H1) (fun n s hI=>?_) m0 ⟨0,[],[],n0,σ1,H1,I,.nil,Nat.zero_le _,st,fr,w0⟩
  show wpAny _ X.A ((compTurn (.ListComp elt [⟨tg,iter,ifs,0⟩] scope pos) 0 (.ref it) (.ref D) X'.env).onRaise (fun x=>do noteFrame x X'.env; theTreesLotGoes x)) _ _ s
  refine wpAny_noted ?_
  rw [compTurn_list]
  obtain ⟨i,acc,its,k,σ1,H1,I,hv,hz,st,fr,w1⟩:=hI
  refine wpAny_bind (wpAny_standAt (wpAny_bind ?_))
  rcases turn i n acc σ1 H1 w1 with ⟨stop,fin⟩ | ⟨go,step⟩
  · have h:=T.done X' hXp hXw hXK hXc i _ s σ1 H1 (notedBy (model X.prog X.w) X.A X'.env fun e s'=>R (.error e) s') I (hfpo _ H1 fr) st stop
    rw [hXA] at h
    refine thn h fun r s4 ⟨hr,I4⟩=>?_
    subst hr
    exact wpAny_pure (hR s4 σ1 H1 acc its k I4 hv hz fin)
  · have h:=T.item X' hXp hXw hXK hXc i _ s σ1 H1 (notedBy (model X.prog X.w) X.A X'.env fun e s'=>R (.error e) s') I (hfpo _ H1 fr) st go
    rw [hXA] at h
    refine thn h fun r s4 ⟨u,hr,h4⟩=>?_
    subst hr
    refine wpAny_bind (thn h4 fun _ s5 ⟨x,H5,I5,r5,y5,st5,fr5⟩=>?_)
    have I5':=I5.pinned (hfpo _ H5 fr5) (T.obj _ _ st5)
    have hg5:=hg _ s5 σ1 H5 x u _ I5' r5 (step x H5 y5)
    rw [hXp,hXw,hXA] at hg5
    refine wpAny_bind (wpAny_mono hg5 (fun _ s6 ⟨σ6,H6,I6,q6⟩=>?_) fun e s z=>absurd z (hxe e s))
    have ht6:=ht _ s6 σ6 H6 _ (notedBy (model X.prog X.w) X.A X'.env fun e s'=>R (.error e) s') I6 q6 (fun e s z=>absurd z (hxe e s))
    rw [hXp,hXw,hXA] at ht6
    refine wpAny_bind (thn ht6 fun b s7 ⟨H7,I7,q7⟩=>?_)
    have back:∀ {σ8:L2.St} {H8:Hp} {s8:Shared},Inv X' ([(D,B3 its k)] ++ Nd fp s5.heap) σ8 H8 s8 → tn (i + 1) s8.heap ∧ (∀ b ∈ fp,H8 b = none) ∧ s8.heap.get? D = some (B3 its k) ∧ H8 D = none:=fun {σ8 H8 s8} I8=>by
      refine ⟨T.keep _ _ _ st5 fun b hb o e=>(I8.pin (b,o) (List.mem_append_right _ (List.mem_append_right _ (Hu hb e)))).1,fun b hb=>?_,?_,?_⟩
      · obtain ⟨o,e,d⟩:=T.obj _ _ st5 b hb
        exact (I8.pin (b,o) (List.mem_append_right _ (List.mem_append_right _ (Hu hb e)))).2.1
      · exact (I8.pin (D,B3 its k) (List.mem_append_right _ (List.mem_append_left _ (List.mem_singleton.mpr rfl)))).1
      · exact (I8.pin (D,B3 its k) (List.mem_append_right _ (List.mem_append_left _ (List.mem_singleton.mpr rfl)))).2.1
    cases b with
    | false=>
      obtain ⟨m',hm,w8⟩:=(q7:if false = true then _ else _)
      obtain ⟨st8,fr8,_,_⟩:=back I7
      refine wpAny_pure ⟨rfl,m',hm,i + 1,acc,its,k,σ6,H7,?_,hv,hz,st8,fr8,w8⟩
      exact I7.pins_of fun p hp=>I7.pin p (List.mem_append_right _ (List.mem_append_left _ hp))
    | true=>
      have q7':te σ6 H7 fun y H6=>acc.length < sizeLine ∧ ∃ m',m' < n ∧ W (i + 1) m' (acc ++ [y]) σ6 H6:=q7
      have he7:=he _ s7 σ6 H7 _ I7 q7'
      rw [hXp,hXw,hXA] at he7
      refine wpAny_bind (wpAny_bind (wpAny_mono he7 (fun y s8 ⟨v,H8,I8,r8,hlt,m',hm,w8⟩=>?_) fun e s z=>absurd z (hxe e s)))
      obtain ⟨st8,fr8,hDo,hDn⟩:=back I8
      have hlen:=hv.length
      have hisl:s8.heap.IsList D its.toArray:=⟨_,hDo,rfl,k,rfl⟩
      refine wpAny_bind ?_
      obtain ⟨k',hd'⟩:∃ k',Obj.mapSeq (·.push y) (B3 its k) = B3 (its ++ [y]) k':=⟨_,by simp [B3,Obj.mapSeq]; rfl⟩
      refine wpAny_call_entry slot_list_append hisl.typeIs entry_list_append ?_ (args_list_append _ _)
      show wpAny _ _ (updateSeq D (·.push y) >>= fun _=>ret .none) _ _ s8
      refine wpAny_bind (wpAny_updateSeq hDo rfl (wpAny_pure ⟨.none,rfl,?_⟩))
      have hk9:∀ b o,b ≠ D → s8.heap.get? b = some o → (s8.heap.update D (Obj.mapSeq (·.push y))).get? b = some o:=fun b o hb e=>(Heap.SameBut.update (h:=s8.heap) (a:=D) ..).2 b hb |>.trans e
      have hD9:(s8.heap.update D (Obj.mapSeq (·.push y))).get? D = some (B3 (its ++ [y]) k'):=by
        rw [← hd']; exact Heap.get?_update_self _ hDo (by rw [hd']; exact Obj.isFreed_of_seq (xs:=(its ++ [y]).toArray) (n:=k') rfl)
      have I8':Inv X' [] σ6 H8 s8:=I8.pins_of fun p hp=>by cases hp
      obtain ⟨d0,d1,d2,d3,d4,d5⟩:=hDf H8 hDn
      have I9:Inv X' [] σ6 H8 { s8 with heap:=s8.heap.update D (Obj.mapSeq (·.push y)) }:=I8'.turned (t':=s8.toks) hk9 hDn d1 d3 d4 d5
      have I10:=I9.pins_of (pins':=[(D,B3 (its ++ [y]) k')]) fun p hp=>by
        have:p = (D,B3 (its ++ [y]) k'):=by simpa using hp
        subst this
        exact ⟨hD9,hDn,d1,d2,fun v z=>by simp [B3] at z⟩
      refine wpAny_pure (wpAny_pure ⟨rfl,m',hm,i + 1,acc ++ [v],its ++ [y],k',σ6,H8,I10,Vals.append hv (.cons r8 .nil),by rw [List.length_append]; simp; omega,?_,fr8,w8⟩)
      refine T.keep _ _ _ st8 fun b hb o e=>hk9 b o (hfp b hb).2 e
end
end MR
set_option Elab.async false
set_option linter.all false
set_option maxRecDepth 100000
set_option maxHeartbeats 4000000
namespace MR
open PySem PySem.Spec PyProof.Rows L2
section
variable {X:Cx} {scope:Scope} {N':List Str} {ix:List (Option Nat)}
def Vf (ix:List (Option Nat)) (wi:TI) (g:TG) (tt:TT) (te:TE):TE:=fun σ H Q=>wi σ H fun J H1=>Wa J g tt te (inner ix σ) H1 fun acc H2=>∀ p,H2 p = none → Q (.ref p) (upd H2 p (.lst acc))
theorem Po {elt tg iter:Expr} {ifs:List Expr} {pos:Pos} {g:TG} {tt:TT} {te:TE} {pins:List (Addr × Obj)} {σ:L2.St} {H2:Hp} {s2:Shared} {cl:List (Str × Addr)} {fp:List Addr} {it:Addr} {J:It} {tn:Nat → Heap → Prop} {E:Value → Shared → Prop} {Fin:List V → Hp → Prop} {RR:Value → Addr → Result → Shared → Prop}
    (S:CompSc X scope N' ix) (hcalm:X.calm = true) (hcl:∀ x c,cl.lookup x = some c → X.env.cells.lookup x = some c) (hcl2:∀ y ∈ scope.names,y.2 = .free → ∃ c,cl.lookup y.1 = some c)
    (hg:∀ C,PG (blk X scope cl C N' s2 H2 fp pins) tg g) (ht:∀ C,Ly (blk X scope cl C N' s2 H2 fp pins) ifs tt) (he:∀ C,PE (blk X scope cl C N' s2 H2 fp pins) elt te)
    (I2:Inv X pins σ H2 s2) (T:Turn X.prog X.w X.K tg J fp it tn) (st2:tn 0 s2.heap) (f2:∀ b ∈ fp,Fu X pins H2 b) (hloop:Wa J g tt te (inner ix σ) H2 Fin)
    (hRR:∀ (D C:Addr) (s':Shared) (H':Hp) (acc:List V),Inv X pins σ (upd H' D (.lst acc)) s' → H' D = none → (∃ m,s'.heap.Ns C m) → (upd H' D (.lst acc)) C = none → Fu X pins (upd H' D (.lst acc)) C → Fin acc H' → RR (.ref D) C (.ok .next) s') :
    wpAny (model X.prog X.w) X.A (newList []) (fun acc s₃=>wpAny (model X.prog X.w) X.A (newFunctionEnv scope X.env.globals cl [] X.env.qual none .none (some X.env)) (fun cenv s₄=>
      codeAny (model X.prog X.w) X.A (.compStart (.ListComp elt [⟨tg,iter,ifs,0⟩] scope pos) 0 (.ref it) acc { cenv with scope:=relabel scope X.env }) (RR acc cenv.locals) s₄) E s₃) E s2:=by
  have hcell:∀ y ∈ scope.names,y.2 ≠ .cell:=fun y hy z=>by
    have:=List.all_eq_true.mp S.cell y hy
    rw [z] at this; simp at this
  refine wpAny_newObj_type (wpAny_newFunctionEnv hcell (by intro y hy; simp at hy) (fun h₁ hns₁ hsb₁=>?_) S.kind)
  dsimp only at hns₁ hsb₁ ⊢
  generalize hH2:s2.heap.push { cls:=.type "list",dict:=none,data:=.seq ([]:List Value).toArray } = HP at hns₁ hsb₁ ⊢
  have hCs:HP.objs.size = s2.heap.objs.size + 1:=by rw [← hH2,Heap.size_push]
  have hDC:s2.heap.objs.size ≠ HP.objs.size:=by rw [hCs]; exact Nat.ne_of_lt (Nat.lt_succ_self _)
  have hCle:s2.heap.objs.size ≤ HP.objs.size:=by rw [hCs]; exact Nat.le_succ _
  have old:∀ b o,s2.heap.get? b = some o → h₁.get? b = some o:=fun b o e=>hsb₁.extBut b o (Nat.ne_of_lt (Nat.lt_of_lt_of_le (Heap.lt_size e) hCle)) (Heap.get?_push_of_some _ (hH2 ▸ Heap.get?_push_of_some _ e))
  have hacc:h₁.get? s2.heap.objs.size = some (B3 [] 0):=hsb₁.extBut _ _ hDC (Heap.get?_push_of_some _ (hH2 ▸ Heap.get?_push_size _ rfl))
  have hfp:∀ b ∈ fp,b < s2.heap.objs.size:=fun b hb=>by
    obtain ⟨o,e,_⟩:=T.obj _ _ st2 b hb
    exact Heap.lt_size e
  generalize hDg:s2.heap.objs.size = D at hDC hacc
  generalize hCg:HP.objs.size = C at *
  have hDle:s2.heap.objs.size ≤ D:=Nat.le_of_eq hDg
  have hD2:s2.heap.get? D = none:=by
    cases q:s2.heap.get? D with
    | none=>rfl
    | some o=>exact absurd (Nat.lt_of_lt_of_le (Heap.lt_size q) hDle) (Nat.lt_irrefl _)
  have I4:=W5 (t4:=s2.toks + ([]:List (Str × Value)).length) S hcalm I2 hcl hcl2 f2 hfp hCle hns₁ old
  have above:∀ a,s2.heap.objs.size ≤ a → a ∉ frs X.stack ∧ (∀ x c,X.env.cells.lookup x = some c → c ≠ a) ∧ (∀ p ∈ X.pn ++ pins,p.1 ≠ a) ∧ a ≠ X.env.locals:=fun a ha=>by
    refine ⟨fun z=>?_,fun x c e z=>?_,fun p hp z=>?_,?_⟩
    · rcases List.mem_cons.mp (I2.stkSub a z) with q | q
      · exact absurd (Nat.lt_of_lt_of_le I2.lt (q ▸ ha)) (Nat.lt_irrefl _)
      · exact I2.nofs ha q
    · obtain ⟨v,q⟩:=I2.cell x c e
      exact absurd (Nat.lt_of_lt_of_le q.lt (z ▸ ha)) (Nat.lt_irrefl _)
    · exact absurd (Nat.lt_of_lt_of_le (Heap.lt_size (I2.pin p hp).1) (z ▸ ha)) (Nat.lt_irrefl _)
    · intro z; exact absurd (Nat.lt_of_lt_of_le I2.lt (z ▸ ha)) (Nat.lt_irrefl _)
  have hfpX:∀ b ∈ fp,Fu (blk X scope cl C N' s2 H2 fp pins) [] H2 b ∧ b ≠ D:=fun b hb=>by
    obtain ⟨q0,q1,q2,q3,q4,q5⟩:=f2 b hb
    have hlt:=hfp b hb
    refine ⟨⟨q0,Nat.ne_of_lt (Nat.lt_of_lt_of_le hlt hCle),fun z=>?_,.inl hb,fun x c e=>q4 x c (hcl x c e),fun p hp=>q5 p (by simpa [blk] using hp)⟩,Nat.ne_of_lt (Nat.lt_of_lt_of_le hlt hDle)⟩
    rcases List.mem_cons.mp (I2.stkSub b z) with q | q
    · exact q1 q
    · exact q2 q
  have hDf:∀ H:Hp,H D = none → Fu (blk X scope cl C N' s2 H2 fp pins) [] H D:=fun H hn=>by
    obtain ⟨a1,a2,a3,a4⟩:=above D hDle
    exact ⟨hn,hDC,a1,.inr hDle,fun x c e=>a2 x c (hcl x c e),fun p hp=>a3 p (by simpa [blk] using hp)⟩
  have hDn2:H2 D = none:=I2.hok.fresh hDle
  have I5:Inv (blk X scope cl C N' s2 H2 fp pins) [(D,B3 [] 0)] (inner ix σ) H2 { s2 with heap:=h₁,toks:=s2.toks + ([]:List (Str × Value)).length }:=I4.pins_of fun p hp=>by
    have:p = (D,B3 [] 0):=by simpa using hp
    subst this
    obtain ⟨_,d1,d2,_⟩:=hDf H2 hDn2
    exact ⟨hacc,hDn2,d1,d2,fun v z=>by simp [B3] at z⟩
  have st5:tn 0 h₁:=T.keep _ _ _ st2 fun b _ o e=>old b o e
  have loop:codeAny (model X.prog X.w) X.A (.compLoop (.ListComp elt [⟨tg,iter,ifs,0⟩] scope pos) 0 (.ref it) (.ref D) (blk X scope cl C N' s2 H2 fp pins).env) (RR (.ref D) C) { s2 with heap:=h₁,toks:=s2.toks + ([]:List (Str × Value)).length }:=by
    refine Pv (X':=blk X scope cl C N' s2 H2 fp pins) ⟨rfl,rfl,rfl,rfl,hcalm,fun _ _ z=>z⟩ T (hg C) (ht C) (he C) hDle hDC hCle hfpX hDf I5 st5 (fun b hb=>(f2 b hb).1) hloop ?_
    intro s' σ' H' acc its n I hv hz fin
    obtain ⟨hDo,hDn,_⟩:=I.pin (D,B3 its n) (List.mem_append_right _ (List.mem_singleton.mpr rfl))
    have hbase:Un (frs X.stack) fp H2 H' s2.heap s'.heap:=I.base
    have hok:HOk X.prog X.w (upd H' D (.lst acc)) s'.heap:=HOk.adopt I.hok hDn ⟨hz,its,n,hv,hDo⟩
    have IX:Inv X pins σ (upd H' D (.lst acc)) s':=I2.call' I.os (Un.adopt hbase hDn hD2) hok I.bare fun b hb=>⟨(f2 b hb).2.2.2.1,(f2 b hb).2.1,(f2 b hb).2.2.2.2.1,(f2 b hb).2.2.2.2.2⟩
    obtain ⟨m,hm,_⟩:=I.loc
    have hCn:(upd H' D (.lst acc)) C = none:=by rw [Az (Ne.symm hDC)]; exact I.free
    obtain ⟨a1,a2,a3,a4⟩:=above C hCle
    refine hRR D C s' H' acc IX hDn ⟨m,hm⟩ hCn ⟨hCn,a4,fun z=>?_,.inr (Nat.le_trans I2.sz hCle),a2,a3⟩ fin
    exact I2.nofs hCle z
  have e1:({ newEnv scope C X.env.globals cl X.env.qual none .none (some X.env) builtinsNs with scope:=relabel scope X.env }:PySem.Env) = (blk X scope cl C N' s2 H2 fp pins).env:=rfl
  exact codeAny_compStart_list loop (T.self _ 0 _ _ _ st5 loop)
theorem CompSc.names {scope:Scope} (S:CompSc X scope N' ix):∀ x ∈ scope.names,x.2 = .local → scope.names.lookup x.1 = some .local:=fun x hx hl=>by
  have:=List.all_eq_true.mp S.loc x hx
  rw [hl] at this
  simpa using this
theorem CompSc.clos {scope:Scope} (S:CompSc X scope N' ix) (ok:X.Ok):∃ cl,closureFor scope X.env = pure cl ∧ (∀ x c,cl.lookup x = some c → X.env.cells.lookup x = some c) ∧ ∀ y ∈ scope.names,y.2 = .free → ∃ c,cl.lookup y.1 = some c:=by
  refine Jw fun y hy hf=>?_
  have:=List.all_eq_true.mp S.free y hy
  rw [hf] at this
  simp at this
  exact ok.has y.1 this
theorem Ux {elt tg iter:Expr} {ifs:List Expr} {pos:Pos} {wi:TI} {g:TG} {tt:TT} {te:TE} (S:CompSc X scope N' ix) (hcalm:X.calm = true) (hi:PI X tg iter wi)
    (hg:∀ cl C s2 H2 fp pins,PG (blk X scope cl C N' s2 H2 fp pins) tg g) (ht:∀ cl C s2 H2 fp pins,Ly (blk X scope cl C N' s2 H2 fp pins) ifs tt) (he:∀ cl C s2 H2 fp pins,PE (blk X scope cl C N' s2 H2 fp pins) elt te)
    (hs:∀ x,foldedSetIterable iter X.env x = pure x:=by intro _; rfl):PE X (.ListComp elt [⟨tg,iter,ifs,0⟩] scope pos) (Vf ix wi g tt te):=by
  intro pins s σ H Q I h
  obtain ⟨cl,hclos,hcl,hcl2⟩:=S.clos I.ok
  rw [eval_ListComp]
  refine wpAny_comprehension_free (use:=none) rfl hs hclos S.kind S.names (thn (hi pins s σ H _ I h) fun v s1 h1=>thn h1 fun itv s2 h2=>?_)
  obtain ⟨it,fp,tn,J,H2,e,I2,T,st2,f2,loop⟩:=h2
  subst e
  refine Po (RR:=fun acc C=>compPost (model X.prog X.w) X.A X.xe none (EP X pins σ Q) acc C) S hcalm hcl hcl2 (fun C=>hg cl C s2 H2 fp pins) (fun C=>ht cl C s2 H2 fp pins) (fun C=>he cl C s2 H2 fp pins) I2 T st2 f2 loop ?_
  intro D C s' H' acc IX hDn ⟨m,hm⟩ hCn hC fin
  refine ⟨m,hm,fun h' hsb=>?_⟩
  obtain ⟨c0,c1,c2,c3,c4,c5⟩:=hC
  exact ⟨.ref D,_,IX.turned (t':=s'.toks) (fun b o hb e=>hsb.2 b hb |>.trans e) c0 c1 c3 c4 c5,rfl,fin D hDn⟩
theorem Ve {i:Nat} {y:Str} {py spos:Pos} {elt tg iter:Expr} {ifs:List Expr} {pos:Pos} {wi:TI} {g:TG} {tt:TT} {te:TE} (hN:X.N.Nodup) (hiN:X.N[i]? = some y) (hx:Loc X.env.scope y) (hf:X.fn y = true ∨ X.env.scope.names.lookup y = some .local)
    (S:CompSc X scope N' ix) (hcalm:X.calm = true) (hi:PI X tg iter wi)
    (hg:∀ cl C s2 H2 fp pins,PG (blk X scope cl C N' s2 H2 fp pins) tg g) (ht:∀ cl C s2 H2 fp pins,Ly (blk X scope cl C N' s2 H2 fp pins) ifs tt) (he:∀ cl C s2 H2 fp pins,PE (blk X scope cl C N' s2 H2 fp pins) elt te)
    (hsw:swapsWith (.ListComp elt [⟨tg,iter,ifs,0⟩] scope pos) (some (.Name y py)) spos.line X.env = pure true)
    (hs:∀ x,foldedSetIterable iter X.env x = pure x:=by intro _; rfl):PS X (.Assign [.Name y py] (.ListComp elt [⟨tg,iter,ifs,0⟩] scope pos) spos) (Yp (Vf ix wi g tt te) (Na i)):=by
  intro pins s σ H Dn I h
  obtain ⟨cl,hclos,hcl,hcl2⟩:=S.clos I.ok
  rw [exec_Assign_Name_used _ _ _ _ hsw]
  refine wpAny_bind (wpAny_standAt (wpAny_bind ?_))
  show wpAny _ X.A (do let _ ← comprehension (.ListComp elt [⟨tg,iter,ifs,0⟩] scope pos) scope X.env _ (newList []) false (eval iter X.env) (some (assign (.Name y py) X.env))) _ _ s
  refine wpAny_bind (wpAny_mono (wpAny_comprehension_free (Q:=fun _ s'=>SP X pins Dn .next s') (use:=some (assign (.Name y py) X.env)) rfl hs hclos S.kind S.names (thn (hi pins s σ H _ I h) fun v s1 h1=>thn h1 fun itv s2 h2=>?_)) (fun _ s' hq=>wpAny_pure (wpAny_pure hq)) fun _ _ e=>e)
  obtain ⟨it,fp,tn,J,H2,e,I2,T,st2,f2,loop⟩:=h2
  subst e
  refine Po (RR:=fun acc C=>compPost (model X.prog X.w) X.A X.xe (some (assign (.Name y py) X.env)) (fun _ s'=>SP X pins Dn .next s') acc C) S hcalm hcl hcl2 (fun C=>hg cl C s2 H2 fp pins) (fun C=>ht cl C s2 H2 fp pins) (fun C=>he cl C s2 H2 fp pins) I2 T st2 f2 loop ?_
  intro D C s' H' acc IX hDn ⟨m,hm⟩ hCn hC fin
  obtain ⟨c0,c1,c2,c3,c4,c5⟩:=hC
  obtain ⟨oC,es,ep,hoC,hdC,hrest⟩:=id hm
  have IP:Inv X (pins ++ [(C,oC)]) σ (upd H' D (.lst acc)) s':=IX.pins_of fun p hp=>by
    rcases List.mem_append.mp hp with z | z
    · exact IX.pin p (List.mem_append_right _ z)
    · have:p = (C,oC):=by simpa using z
      subst this
      exact ⟨hoC,c0,c1,c2,fun v z=>by rw [hdC] at z; cases z⟩
  have hq:Na i (.ref D) σ (upd H' D (.lst acc)) Dn.nx:=fin D hDn
  refine thn (Q6 (i:=i) (pos:=py) hN hiN hx hf (pins ++ [(C,oC)]) s' σ _ (.ref D) (.ref D) Dn.nx IP rfl hq) fun _ s'' ⟨σ'',H'',I'',q''⟩=>?_
  obtain ⟨p1,p2,p3,p4,p5⟩:=I''.pin (C,oC) (List.mem_append_right _ (List.mem_append_right _ (List.mem_singleton.mpr rfl)))
  refine ⟨m,⟨oC,es,ep,p1,hdC,hrest⟩,fun h' hsb=>?_⟩
  exact ⟨σ'',H'',(I''.unpinned).turned (t':=s''.toks) (fun b o hb e=>hsb.2 b hb |>.trans e) p2 p3 c3 c4 c5,q''⟩
end
end MR
set_option Elab.async false
set_option linter.all false
set_option maxRecDepth 100000
set_option maxHeartbeats 4000000
namespace MR
open PySem PySem.Spec PyProof.Rows L2
def Oo (tt:Option FT):FT:=fun δ L=>match tt with
  | none=>some (true,L)
  | some f=>f δ L
def Kr (it:IU) (g:FG) (tt:Option FT) (fe:FE):Nat → Nat → List U → UE → UH → Option (List U × UH)
  | 0,_,_,_,_=>none
  | m + 1,k,acc,δ,L=>match it.at k L with
    | none=>none
    | some none=>some (acc,L)
    | some (some u)=>(g u δ L).bind fun p=>(Oo tt p.1 p.2).bind fun q=>if q.1 = true then (fe p.1 q.2).bind fun r=>if decide (acc.length < sizeLine) = true then Kr it g tt fe m (k + 1) (acc ++ [r.1]) p.1 r.2 else none
      else Kr it g tt fe m (k + 1) acc p.1 q.2
def Ht (ix:List (Option Nat)) (δ:UE):UE:=ix.map fun o=>o.bind fun i=>(δ[i]?).join
def Bb (ix:List (Option Nat)) (fi:FI) (g:FG) (tt:Option FT) (fe:FE):FE:=fun δ L=>(fi δ L).bind fun p=>(Kr p.1 g tt fe (p.1.size p.2 + 1) 0 [] (Ht ix δ) p.2).map fun q=>(.ref q.2.length,q.2 ++ [.lst q.1])
theorem RepS.inner {K:PySem.W.Frag} {H:Hp} {α:List Addr} {δ:UE} {σ:L2.St} (S:RepS K H α δ σ) (ix:List (Option Nat)):RepS K H α (Ht ix δ) (MR.inner ix σ):=by
  refine ⟨by simp [Ht,MR.inner],fun j u e=>?_⟩
  unfold Ht at e
  unfold MR.inner
  rw [List.getElem?_map] at e ⊢
  cases hx:ix[j]? with
  | none=>rw [hx] at e; simp at e
  | some o=>
    rw [hx] at e
    cases o with
    | none=>simp at e
    | some i=>
      simp at e
      have:δ[i]? = some (some u):=by
        cases q:δ[i]? with
        | none=>rw [q] at e; simp at e
        | some o=>rw [q] at e; simp at e; rw [e]
      obtain ⟨v,hv,r⟩:=S.at_ i u this
      exact ⟨v,by simp [hv],r⟩
def lTo (K:PySem.W.Frag) (tt:Option FT):TT:=match tt with
  | none=>Aat
  | some f=>lT K f
theorem Kp {K:PySem.W.Frag} {ix:List (Option Nat)} {fi:FI} {g:FG} {tt:Option FT} {fe:FE}:∀ σ H Q,lE K (Bb ix fi g tt fe) σ H Q → Vf ix (lI K fi) (lG K g) (lTo K tt) (lE K fe) σ H Q:=by
  rintro σ H Q ⟨α,δ,L,A,S,z,L3,e,q⟩
  obtain ⟨⟨it,L1⟩,e1,e⟩:=Option.bind_eq_some_iff.mp e
  obtain ⟨⟨ys,L2⟩,e2,e⟩:=Option.map_eq_some_iff.mp e
  cases e
  refine ⟨α,δ,L,A,S,it,L1,e1,fun J H1 α1 g1 A1 hJ=>?_⟩
  refine ⟨fun k m acc σ2 H2=>∃ α2 δ2 M us,Gr H1 α1 H2 α2 ∧ Abs K H2 α2 M ∧ RepS K H2 α2 δ2 σ2 ∧ RepL K H2 α2 us acc ∧ Kr it g tt fe m k us δ2 M = some (ys,L2),⟨_,α1,_,L1,[],.refl _ _,A1,(S.mono g1).inner ix,.nil,e2⟩,?_⟩
  rintro k m acc σ2 H2 ⟨α2,δ2,M,us,g2,A2,S2,r2,e3⟩
  cases m with
  | zero=>cases e3
  | succ m=>
    obtain ⟨hgo,hstop⟩:=hJ H2 α2 M g2 A2 k
    unfold Kr at e3
    cases hat:it.at k M with
    | none=>rw [hat] at e3; cases e3
    | some o=>
      cases o with
      | none=>
        rw [hat] at e3
        cases e3
        refine .inl ⟨hstop hat,fun p hp=>?_⟩
        obtain ⟨g3,A3,r3⟩:=A2.lst r2 hp
        exact q _ _ _ (g1.trans (g2.trans g3)) A3 r3
      | some u=>
        rw [hat] at e3
        obtain ⟨go,yld⟩:=hgo u hat
        obtain ⟨⟨δ3,L3⟩,e4,e3⟩:=Option.bind_eq_some_iff.mp e3
        obtain ⟨⟨b,L4⟩,e5,e3⟩:=Option.bind_eq_some_iff.mp e3
        refine .inr ⟨go,fun x H3 y3=>?_⟩
        obtain ⟨g3,A3,r3⟩:=yld x H3 y3
        refine ⟨α2,δ2,M,u,A3,S2.mono g3,r3,δ3,L3,e4,fun σ4 H4 α4 g4 A4 S4=>?_⟩
        have after:∀ H5 α5,Gr H4 α4 H5 α5 → Abs K H5 α5 L4 → (if b = true then lE K fe σ4 H5 (fun y H6=>acc.length < sizeLine ∧ ∃ m',m' < m + 1 ∧ ∃ α2 δ2 M us,Gr H1 α1 H6 α2 ∧ Abs K H6 α2 M ∧ RepS K H6 α2 δ2 σ4 ∧ RepL K H6 α2 us (acc ++ [y]) ∧ Kr it g tt fe m' (k + 1) us δ2 M = some (ys,L2)) else ∃ m',m' < m + 1 ∧ ∃ α2 δ2 M us,Gr H1 α1 H5 α2 ∧ Abs K H5 α2 M ∧ RepS K H5 α2 δ2 σ4 ∧ RepL K H5 α2 us acc ∧ Kr it g tt fe m' (k + 1) us δ2 M = some (ys,L2)):=fun H5 α5 g5 A5=>by
          have gA:=g2.trans (g3.trans (g4.trans g5))
          have gB:=g3.trans (g4.trans g5)
          cases b with
          | false=>exact Ts ⟨m,Nat.lt_succ_self _,α5,δ3,L4,us,gA,A5,S4.mono g5,r2.mono gB,e3⟩
          | true=>
            obtain ⟨⟨w,L5⟩,e6,e3⟩:=Option.bind_eq_some_iff.mp e3
            simp only at e3
            split at e3
            · rename_i hlt
              refine To ⟨α5,δ3,L4,A5,S4.mono g5,w,L5,e6,fun y H6 α6 g6 A6 r6=>?_⟩
              exact ⟨by rw [← r2.length]; exact of_decide_eq_true hlt,m,Nat.lt_succ_self _,α6,δ3,L5,us ++ [w],gA.trans g6,A6,(S4.mono g5).mono g6,(r2.mono (gB.trans g6)).append (.cons r6 .nil),e3⟩
            · cases e3
        cases tt with
        | none=>
          cases e5
          exact after H4 α4 (.refl _ _) A4
        | some f=>exact ⟨α4,δ3,L3,A4,S4,b,L4,e5,fun H5 α5 g5 A5=>after H5 α5 g5 A5⟩
section
variable {X:Cx} {scope:Scope} {N':List Str} {ix:List (Option Nat)} {elt tg iter c:Expr} {pos:Pos} {fi:FI} {g:FG} {ft:FT} {fe:FE}
theorem Cu (S:CompSc X scope N' ix) (hcalm:X.calm = true) (hi:PIF X tg iter fi) (hg:∀ cl C s2 H2 fp pins,PGF (blk X scope cl C N' s2 H2 fp pins) tg g) (he:∀ cl C s2 H2 fp pins,PEF (blk X scope cl C N' s2 H2 fp pins) elt fe)
    (hs:∀ x,foldedSetIterable iter X.env x = pure x:=by intro _; rfl):PEF X (.ListComp elt [⟨tg,iter,[],0⟩] scope pos) (Bb ix fi g none fe):=
  PE.imp (Ux (g:=lG X.K g) (te:=lE X.K fe) (tt:=Aat) S hcalm hi hg (fun _ _ _ _ _ _=>Lp) he hs) Kp
theorem Ki (S:CompSc X scope N' ix) (hcalm:X.calm = true) (hi:PIF X tg iter fi) (hg:∀ cl C s2 H2 fp pins,PGF (blk X scope cl C N' s2 H2 fp pins) tg g) (ht:∀ cl C s2 H2 fp pins,PTF (blk X scope cl C N' s2 H2 fp pins) c ft) (he:∀ cl C s2 H2 fp pins,PEF (blk X scope cl C N' s2 H2 fp pins) elt fe)
    (hs:∀ x,foldedSetIterable iter X.env x = pure x:=by intro _; rfl):PEF X (.ListComp elt [⟨tg,iter,[c],0⟩] scope pos) (Bb ix fi g (some ft) fe):=
  PE.imp (Ux (g:=lG X.K g) (te:=lE X.K fe) (tt:=lT X.K ft) S hcalm hi hg (fun _ _ _ _ _ _=>Qe (ht _ _ _ _ _ _)) he hs) (Kp (tt:=some ft))
theorem Ur {K:PySem.W.Frag} {i:Nat} {fc:FE} {t:TE} (ht:∀ σ H Q,lE K fc σ H Q → t σ H Q):∀ D σ H,lS K (Aw fc (gN i)) D σ H → Yp t (Na i) D σ H:=by
  rintro D σ H ⟨α,δ,L,A,S,fl,L',e,q⟩
  obtain ⟨⟨u,L1⟩,e1,e⟩:=Option.bind_eq_some_iff.mp e
  obtain ⟨⟨δ2,L2⟩,e2,e⟩:=Option.map_eq_some_iff.mp e
  cases e
  cases e2
  exact ht σ H _ ⟨α,δ,L,A,S,u,_,e1,fun v H1 α1 g1 A1 r1=>q _ H1 α1 g1 A1 ((S.mono g1).set i r1)⟩
theorem Yb {i:Nat} {y:Str} {py spos:Pos} (hN:X.N.Nodup) (S:CompSc X scope N' ix) (hcalm:X.calm = true) (hi:PIF X tg iter fi) (hg:∀ cl C s2 H2 fp pins,PGF (blk X scope cl C N' s2 H2 fp pins) tg g) (he:∀ cl C s2 H2 fp pins,PEF (blk X scope cl C N' s2 H2 fp pins) elt fe)
    (hiN:X.N[i]? = some y:=by rfl) (hx:Loc X.env.scope y:=by first | exact Or.inl rfl | exact Or.inr rfl) (hf:X.fn y = true ∨ X.env.scope.names.lookup y = some .local:=by first | exact .inl rfl | exact .inr rfl)
    (hsw:swapsWith (.ListComp elt [⟨tg,iter,[],0⟩] scope pos) (some (.Name y py)) spos.line X.env = pure true:=by rfl)
    (hs:∀ x,foldedSetIterable iter X.env x = pure x:=by intro _; rfl):PSF X (.Assign [.Name y py] (.ListComp elt [⟨tg,iter,[],0⟩] scope pos) spos) (Aw (Bb ix fi g none fe) (gN i)):=
  PS.imp (Ve (i:=i) (g:=lG X.K g) (te:=lE X.K fe) (tt:=Aat) hN hiN hx hf S hcalm hi hg (fun _ _ _ _ _ _=>Lp) he hsw hs) (Ur Kp)
theorem Pw {i:Nat} {y:Str} {py spos:Pos} (hN:X.N.Nodup) (S:CompSc X scope N' ix) (hcalm:X.calm = true) (hi:PIF X tg iter fi) (hg:∀ cl C s2 H2 fp pins,PGF (blk X scope cl C N' s2 H2 fp pins) tg g) (ht:∀ cl C s2 H2 fp pins,PTF (blk X scope cl C N' s2 H2 fp pins) c ft) (he:∀ cl C s2 H2 fp pins,PEF (blk X scope cl C N' s2 H2 fp pins) elt fe)
    (hiN:X.N[i]? = some y:=by rfl) (hx:Loc X.env.scope y:=by first | exact Or.inl rfl | exact Or.inr rfl) (hf:X.fn y = true ∨ X.env.scope.names.lookup y = some .local:=by first | exact .inl rfl | exact .inr rfl)
    (hsw:swapsWith (.ListComp elt [⟨tg,iter,[c],0⟩] scope pos) (some (.Name y py)) spos.line X.env = pure true:=by rfl)
    (hs:∀ x,foldedSetIterable iter X.env x = pure x:=by intro _; rfl):PSF X (.Assign [.Name y py] (.ListComp elt [⟨tg,iter,[c],0⟩] scope pos) spos) (Aw (Bb ix fi g (some ft) fe) (gN i)):=
  PS.imp (Ve (i:=i) (g:=lG X.K g) (te:=lE X.K fe) (tt:=lT X.K ft) hN hiN hx hf S hcalm hi hg (fun _ _ _ _ _ _=>Qe (ht _ _ _ _ _ _)) he hsw hs) (Ur (Kp (tt:=some ft)))
end
end MR
set_option Elab.async false
set_option linter.all false
set_option maxRecDepth 100000
set_option maxHeartbeats 4000000
namespace MR
open PySem PySem.Spec PyProof.Rows L2
section
variable {X:Cx} {pins:List (Addr × Obj)} {σ:L2.St} {H:Hp} {s:Shared} {h':Heap}
theorem Inv.turnNew {ch:List Addr} {p:Addr} {o:HO} {t':Nat} (I:L2.Inv X pins σ H s) (hch:∀ b ∈ ch,Fu X pins H b) (k:∀ b o,b ∉ ch → s.heap.get? b = some o → h'.get? b = some o) (hp:s.heap.objs.size ≤ p) (new:ObjOk X.prog X.w (upd H p o) h' p o) :
    L2.Inv X pins σ (upd H p o) { s with heap:=h',toks:=t' }:=by
  have hn:H p = none:=I.hok.fresh hp
  have nch:∀ b u,H b = some u → b ∉ ch:=fun b u e hb=>by rw [(hch b hb).1] at e; cases e
  have st:=Stay.new hn o
  refine I.step (g':=s.gens) (d':=s.drawn) (ch:=ch) (fun b hb=>?_) (fun b o _ _ hc e _=>k b o hc e) (fun b o _ _ hc e _=>⟨o.slots,k b o hc e⟩) (fun b u hc e n=>?_) (fun b u hc e=>⟨u,k b u hc e⟩) st.1 st.2 (fun b ps e=>⟨#[],?_⟩) (fun m hm=>?_) (fun b u e=>?_) I.bare
  · obtain ⟨_,f1,_,f3,f4,f5⟩:=hch b hb
    exact ⟨f3,f1,f4,f5⟩
  · rw [Az (Nat.ne_of_lt (Nat.lt_of_lt_of_le (Heap.lt_size e) hp))]; exact n
  · rw [Az (Be e hn),e]; simp
  · obtain ⟨o1,es,ep,ho,r⟩:=hm
    exact ⟨o1,es,ep,k _ o1 (fun z=>(hch _ z).2.1 rfl) ho,r⟩
  · by_cases hb:b = p
    · subst hb; rw [Es] at e; cases e; exact new
    · rw [Az hb] at e
      refine (I.hok b u e).stay (fun c v hc q=>k c v ?_ q) (fun c q=>by rw [Az (Be q hn)]; exact q) fun c xs q=>by rw [Az (Be q hn)]; exact q
      rcases hc with z | z
      · rw [z]; exact nch b u e
      · exact nch c _ z
end
theorem La (n l1 l2:Nat) (h1:l1 < n) (h2:l2 < n):ZipApart (n + 4) (n + 2) (n + 3) n (n + 1) l1 l2:=by
  constructor <;> (intro q; exact absurd (show (_:Nat) = _ from q) (by omega))
section
variable {X:Cx} {elts:List Expr} {x1:Nat} {tpos:Pos}
theorem Kj:bootBuiltins "zip" = some (.type "zip"):=by decide +kernel
def Ahu (g:FA):FI:=fun δ L=>(g δ L).bind fun p=>match p.1 with
  | [.ref n]=>(Ao p.2 n).map fun _=>(.enm n,p.2)
  | _=>none
def Aka (g:FA):FI:=fun δ L=>(g δ L).bind fun p=>match p.1 with
  | [.ref n,.ref m]=>(Ao p.2 n).bind fun _=>(Ao p.2 m).map fun _=>(.zip2 n m,p.2)
  | _=>none
theorem N7 {K:PySem.W.Frag} {H:Hp} {α:List Addr} {L:UH} {n:Nat} {a:Addr} {us:List U} (A:Abs K H α L) (ea:α[n]? = some a) (h:Ao L n = some us):∃ xs,SqL K H a xs ∧ RepL K H α us xs:=by
  obtain ⟨a',xs,ea',sq,r⟩:=Ej A h
  rw [ea] at ea'; cases ea'
  exact ⟨xs,sq,r⟩
end
end MR
set_option Elab.async false
set_option linter.all false
set_option maxRecDepth 100000
set_option maxHeartbeats 4000000
namespace MR
open PySem PySem.Spec PyProof.Rows L2
theorem Od {β γ:Type} {f g:β → Option γ}:∀ {l:List β},(∀ x ∈ l,f x = g x) → l.filterMap f = l.filterMap g
  | [],_=>rfl
  | a :: l,h=>by rw [List.filterMap_cons,List.filterMap_cons,h a (List.mem_cons_self ..),Od fun x hx=>h x (List.mem_cons_of_mem _ hx)]
theorem Ny {β:Type}:∀ r:List β,((List.range r.length).map fun (k:Nat)=>(((r.length:Int) - 1 + -1 * (k:Int)).toNat)).filterMap (r.reverse[·]?) = r
  | []=>rfl
  | a :: r=>by
    have ih:=Ny r
    rw [List.length_cons,List.range_succ_eq_map,List.map_cons,List.filterMap_cons]
    have h0:(a :: r).reverse[(((r.length + 1:Nat):Int) - 1 + -1 * ((0:Nat):Int)).toNat]? = some a:=by
      have:(((r.length + 1:Nat):Int) - 1 + -1 * ((0:Nat):Int)).toNat = r.reverse.length:=by rw [List.length_reverse]; omega
      rw [this,List.reverse_cons,List.getElem?_append_right (Nat.le_refl _)]
      simp
    rw [h0]
    simp only
    congr 1
    rw [List.map_map,List.filterMap_map]
    rw [List.filterMap_map] at ih
    refine Eq.trans (Od fun k hk=>?_) ih
    have hk:=List.mem_range.mp hk
    simp only [Function.comp]
    have:(((r.length + 1:Nat):Int) - 1 + -1 * ((k.succ:Nat):Int)).toNat = ((r.length:Int) - 1 + -1 * (k:Int)).toNat:=by simp only [Nat.succ_eq_add_one]; omega
    rw [this,List.reverse_cons,List.getElem?_append_left (by rw [List.length_reverse]; omega)]
theorem Og (its:List Value):slicePick its.toArray none none (some (-1)) = its.reverse.toArray:=by
  unfold slicePick
  have e:sliceBounds none none (some (-1)) its.toArray.size = ((its.length:Int) - 1,-1,-1):=by simp [sliceBounds]
  rw [e]
  have e2:sliceRange ((its.length:Int) - 1) (-1) (-1) = (List.range its.length).map fun (k:Nat)=>(((its.length:Int) - 1 + -1 * (k:Int)).toNat):=by
    unfold sliceRange
    have:(if (-1:Int) > 0 then (if ((its.length:Int) - 1) < -1 then (-1 - ((its.length:Int) - 1) + -1 - 1) / -1 else 0) else (if ((its.length:Int) - 1) > -1 then (((its.length:Int) - 1) - -1 - -1 - 1) / (- -1) else 0)).toNat = its.length:=by
      rw [if_neg (by decide)]
      split
      · have:(its.length:Int) - 1 - -1 - -1 - 1 = its.length:=by omega
        rw [this]
        simp
      · simp; omega
    simp only [this]
  simp only
  rw [e2]
  have:=Ny its.reverse
  rw [List.length_reverse,List.reverse_reverse] at this
  have h2:(List.filterMap (fun x=>its.toArray[x]?) (List.map (fun (k:Nat)=>(((its.length:Int) - 1 + -1 * (k:Int)).toNat)) (List.range its.length))) = its.reverse:=by
    rw [← this]
    simp
  rw [h2]
theorem Vals.rev {xs:List V} {us:List Value} (h:Vals xs us):Vals xs.reverse us.reverse:=by
  induction h with
  | nil=>exact .nil
  | cons h1 _ ih=>rw [List.reverse_cons,List.reverse_cons]; exact ih.append (.cons h1 .nil)
theorem RepL.rev {K:PySem.W.Frag} {H:Hp} {α:List Addr}:∀ {us:List U} {xs:List V},RepL K H α us xs → RepL K H α us.reverse xs.reverse
  | [],xs,r=>by unfold RepL at r; subst r; exact .nil
  | u :: us,xs,r=>by
    unfold RepL at r
    obtain ⟨x,xr,rfl,r1,r2⟩:=r
    rw [List.reverse_cons,List.reverse_cons]
    exact (RepL.rev r2).append (.cons r1 .nil)
end MR
namespace HT
open PySem PySem.Spec PyProof.Rows
section
variable {prog:Program} {w:World} {A:Around} {E:Value → Shared → Prop} {s:Shared}
theorem Kz {sl:Addr} {vs:Value} {n:Nat} {Q:Int × Int × Nat → Shared → Prop} (hs:s.heap.IsSliceOf sl .none .none vs) (pu:IsPart vs (some (-1)))
    (h:Q ((n:Int) - 1,-1,n) s):wpAny (model prog w) A (Builtin.Slice.sliceApplied (.ref sl) (pure (n:Int))) Q E s:=by
  obtain ⟨os,hos,hcs,hds⟩:=id hs
  unfold Builtin.Slice.sliceApplied Builtin.Slice.sliceFields
  refine wpAny_bind (wpAny_bind (wpAny_field hos hds (x:=.none) rfl (wpAny_bind (wpAny_field hos hds (x:=.none) rfl (wpAny_bind (wpAny_field hos hds (x:=vs) rfl (wpAny_pure ?_)))))))
  refine wpAny_bind (Gj pu ?_)
  show wpAny _ _ (if ((-1:Int) == 0) = true then _ else _) _ _ s
  rw [if_neg (by decide)]
  refine wpAny_bind (Gj .none (wpAny_bind (Gj .none (wpAny_bind (wpAny_pure ?_)))))
  show wpAny _ _ (match Builtin.Slice.sliceAdjust none none (-1) (n:Int) with | (lo,hi)=>pure (lo,(-1:Int),Builtin.Slice.slicePlaces lo hi (-1))) _ _ s
  have e1:Builtin.Slice.sliceAdjust none none (-1) (n:Int) = ((n:Int) - 1,-1):=rfl
  rw [e1]
  show wpAny _ _ (pure ((n:Int) - 1,(-1:Int),Builtin.Slice.slicePlaces ((n:Int) - 1) (-1) (-1))) _ _ s
  have e2:Builtin.Slice.slicePlaces ((n:Int) - 1) (-1) (-1) = n:=by
    unfold Builtin.Slice.slicePlaces
    rw [if_neg (by decide)]
    split
    · simp
    · simp; omega
  rw [e2]
  exact wpAny_pure h
theorem Xj (xs:List Value):((List.range xs.length).filterMap fun (m:Nat)=>xs.toArray[((xs.length:Int) - 1 + (m:Int) * -1).toNat]?).toArray = xs.reverse.toArray:=by
  have:=MR.Ny xs.reverse
  rw [List.length_reverse,List.reverse_reverse,List.filterMap_map] at this
  rw [← this]
  congr 1
  refine MR.Od fun k _=>?_
  simp only [Function.comp]
  have:((xs.length:Int) - 1 + (k:Int) * -1) = ((xs.length:Int) - 1 + -1 * (k:Int)):=by omega
  rw [this]
  simp
theorem Kd {t sl:Addr} {its:List Value} {vs:Value} {Q:Value → Shared → Prop} (ht:IsTup s.heap t its.toArray) (hs:s.heap.IsSliceOf sl .none .none vs) (pu:IsPart vs (some (-1)))
    (h:Q (.ref s.heap.objs.size) { s with heap:=s.heap.push { cls:=.type "tuple",data:=.seq its.reverse.toArray } })
    (hsz:its.length ≤ sizeLine):wpAny (model prog w) A (getItem (.ref t) (.ref sl)) Q E s:=by
  have htake:sizeOk (.seq its.reverse.toArray):=by
    show its.reverse.toArray.size ≤ sizeLine
    rw [List.size_toArray,List.length_reverse]; exact hsz
  obtain ⟨os,hos,hcs,hds⟩:=id hs
  have hTs:s.TypeIs (.ref sl) "slice" := ⟨os,hos,hcs⟩
  unfold getItem
  try with_reducible refine wpAny_holding ?_
  first | refine wpAny_bind (wpAny_pure ?_) | skip
  refine wpAny_bind (wpAny_sequenceKey ht.typeIs (by decide) ?_)
  refine wpAny_bind (wpAny_callSpecial?_slot (name:=Str.ofString "__getitem__") ht.typeIs PyProof.Rows.slot_tuple_getitem
    (wpAny_call_entry PyProof.Rows.slot_tuple_getitem ht.typeIs entry_tuple_getitem ?_ (args_tuple_getitem _ _)))
  show wpAny _ _ (Builtin.Tuple.tupleItemsOf (.ref t) >>= _) _ _ s
  refine wpAny_bind (tupleItemsOf_ ht ?_)
  refine wpAny_bind (wpAny_typeOf hTs ?_)
  rw [if_pos (by decide)]
  refine wpAny_bind (Kz hs pu ?_)
  show wpAny _ _ (if ((((its.toArray.size:Nat):Int) - 1) == 0 && (-1:Int) == 1 && its.toArray.size == its.toArray.size) = true then _ else _) _ _ s
  have hno:¬ (((((its.toArray.size:Nat):Int) - 1) == 0 && (-1:Int) == 1 && its.toArray.size == its.toArray.size) = true):=by simp
  rw [if_neg hno]
  have e:((List.range its.toArray.size).filterMap fun (m:Nat)=>its.toArray[((its.toArray.size:Int) - 1 + (m:Int) * -1).toNat]?).toArray = its.reverse.toArray:=by
    have:=Xj its
    simpa using this
  first
    | (rw [e]
       first
        | exact wpAny_bind (m:=Builtin.Tuple.tupleExact _) (wpAny_newObj_type (wpAny_pure ⟨_,rfl,wpAny_pure h⟩) htake)
        | exact wpAny_bind (m:=Builtin.Tuple.tupleExact _) (wpAny_newObj_type (wpAny_bind (wpAny_pure (wpAny_pure ⟨_,rfl,wpAny_pure h⟩))) htake)
        | exact wpAny_bind (wpAny_bind (m:=Builtin.Tuple.tupleExact _) (wpAny_newObj_type (wpAny_pure (wpAny_pure ⟨_,rfl,wpAny_pure h⟩)) htake))
        | exact wpAny_bind (wpAny_bind (m:=Builtin.Tuple.tupleExact _) (wpAny_newObj_type (wpAny_pure ⟨_,rfl,wpAny_pure h⟩) htake)))
end
end HT
namespace MR
open PySem PySem.Spec PyProof.Rows L2
section
variable {X:Cx} {e st:Expr} {fa fs:FE} {p2 pos:Pos}
def Abh (f:FE):FE:=fun δ L=>(f δ L).bind fun p=>match p.1 with | .ref n=>(Ao p.2 n).map fun l=>(.ref p.2.length,p.2 ++ [.lst l.reverse]) | .tup l=>some (.tup l.reverse,p.2) | _=>none
theorem Aal (he:PEF X e fa) {q1 q2:Pos} {k:Nat}:PEF X (.Subscript e (.Slice none none (some (.UnaryOp .USub (.Constant (.int 1) k q1) q2)) p2) pos) (Abh fa):=by
  rintro pins s σ H Q I ⟨α,δ,L,A,S,z,L3,ee,q⟩
  obtain ⟨⟨u,L1⟩,e1,ee⟩:=Option.bind_eq_some_iff.mp ee
  refine Subscript_ (thn (he pins s σ H (fun x H1=>∃ α1,Gr H α H1 α1 ∧ Abs X.K H1 α1 L1 ∧ RepU X.K H1 α1 u x) I ⟨α,δ,L,A,S,u,L1,e1,fun x H1 α1 g1 A1 r1=>⟨α1,g1,A1,r1⟩⟩) fun v s1 ⟨x,H1,I1,r1,α1,g1,A1,ru⟩=>?_)
  cases u with
  | ref n=>
    obtain ⟨l,hl,ee⟩:=Option.map_eq_some_iff.mp ee
    cases ee
    obtain ⟨a,xs,ea,sq,r⟩:=Ej A1 hl
    obtain ⟨a',ea',rfl⟩:=ru.ref_of A1
    rw [ea] at ea'; cases ea'
    cases r1
    have ps:POF X (some (.UnaryOp .USub (.Constant (.int 1) k q1) q2)) (B7 (X6 (fC (.int 1)))):=Ci (Th Ah)
    refine wpAny_Slice ?_
    rw [evalPart_none]
    refine wpAny_pure (wpAny_pure ?_)
    refine thn (ps pins s1 σ H1 (fun o H'=>o = some (-1) ∧ ∃ α2,Gr H1 α1 H' α2 ∧ Abs X.K H' α2 L1) I1 ⟨α1,δ,L1,A1,S.mono g1,some (-1),L1,rfl,fun H2 α2 g2 A2=>⟨rfl,α2,g2,A2⟩⟩) fun vs s3 ⟨o,H3,I3,pu,ho,α3,g3,A3⟩=>?_
    subst ho
    have I4:L2.Inv X pins σ H3 { s3 with heap:=s3.heap.push { cls:=.type "slice",data:=.fields #[.none,.none,vs] } }:=I3.kept (t':=s3.toks) fun b ob q=>Heap.get?_push_of_some _ q
    obtain ⟨a3,xs3,ea3,sq3,r3⟩:=Ej A3 hl
    have:a3 = a:=by
      obtain ⟨ys,hy⟩:=g3.1
      rw [hy,List.getElem?_append_left (List.getElem?_eq_some_iff.mp ea).1,ea] at ea3
      exact (Option.some.inj ea3).symm
    subst this
    obtain ⟨its,rv,ht,hz⟩:=I4.list sq3
    have hlen:=rv.length
    show wpAny (model X.prog X.w) X.A (subscriptTail e (.Slice none none _ p2) (.ref _) (.ref s3.heap.objs.size)) (EP X pins σ Q) X.xe { s3 with heap:=s3.heap.push { cls:=.type "slice",data:=.fields #[.none,.none,vs] } }
    refine tail_any (ops:=[.ref _,.ref s3.heap.objs.size]) ht.isList.typeIs slot_list_getitem.lookup ?_ (by with_unfolding_all rfl)
    refine wpAny_getItem_list_slice ht.isList (Heap.IsSliceOf.new ..) .none .none pu (by simp) ?_ (by rw [List.size_toArray] <;> omega)
    rw [Og]
    obtain ⟨g4,A4,r4⟩:=A3.lst r3.rev (I4.hok.fresh (Nat.le_refl _))
    refine ⟨.ref _,_,I4.laid (t':=s3.toks) (o:=.lst xs3.reverse) (fun b ob q=>Heap.get?_push_of_some _ q) (Nat.le_refl _) ?_,rfl,q _ _ _ (g1.trans (g3.trans g4)) A4 r4⟩
    exact ⟨by rw [List.length_reverse]; exact hz,_,0,Vals.rev rv,Heap.get?_push_size _ rfl⟩
  | tup l=>
    cases ee
    unfold RepU at ru
    obtain ⟨a,xs,rfl,sq,r⟩:=ru
    cases r1
    have ps:POF X (some (.UnaryOp .USub (.Constant (.int 1) k q1) q2)) (B7 (X6 (fC (.int 1)))):=Ci (Th Ah)
    refine wpAny_Slice ?_
    rw [evalPart_none]
    refine wpAny_pure (wpAny_pure ?_)
    refine thn (ps pins s1 σ H1 (fun o H'=>o = some (-1) ∧ ∃ α2,Gr H1 α1 H' α2 ∧ Abs X.K H' α2 L1) I1 ⟨α1,δ,L1,A1,S.mono g1,some (-1),L1,rfl,fun H2 α2 g2 A2=>⟨rfl,α2,g2,A2⟩⟩) fun vs s3 ⟨o,H3,I3,pu,ho,α3,g3,A3⟩=>?_
    subst ho
    have I4:L2.Inv X pins σ H3 { s3 with heap:=s3.heap.push { cls:=.type "slice",data:=.fields #[.none,.none,vs] } }:=I3.kept (t':=s3.toks) fun b ob q=>Heap.get?_push_of_some _ q
    have rr:RepU X.K H3 α3 (.tup l) (.ref a):=(show RepU X.K H1 α1 (.tup l) (.ref a) by unfold RepU; exact ⟨a,xs,rfl,sq,r⟩).mono g3
    unfold RepU at rr
    obtain ⟨a3,xs3,ha3,sq3,r3⟩:=rr
    cases ha3
    obtain ⟨its,rv,ht,hz⟩:=I4.tuple sq3
    have hlen:=rv.length
    show wpAny (model X.prog X.w) X.A (subscriptTail e (.Slice none none _ p2) (.ref _) (.ref s3.heap.objs.size)) (EP X pins σ Q) X.xe { s3 with heap:=s3.heap.push { cls:=.type "slice",data:=.fields #[.none,.none,vs] } }
    refine tail_any (ops:=[.ref _,.ref s3.heap.objs.size]) ht.typeIs PyProof.Rows.slot_tuple_getitem.lookup ?_ (by with_unfolding_all rfl)
    refine HT.Kd ht (Heap.IsSliceOf.new ..) pu ?_ (by omega)
    obtain ⟨g4,A4,r4⟩:=A3.tup r3.rev (I4.hok.fresh (Nat.le_refl _))
    refine ⟨.ref _,_,I4.laid (t':=s3.toks) (o:=.tup xs3.reverse) (fun b ob q=>Heap.get?_push_of_some _ q) (Nat.le_refl _) ?_,rfl,q _ _ _ (g1.trans (g3.trans g4)) A4 r4⟩
    exact ⟨by rw [List.length_reverse]; exact hz,_,Vals.rev rv,IsTup.new _ _⟩
  | _=>cases ee
end
end MR
set_option Elab.async false
set_option linter.all false
set_option maxRecDepth 100000
set_option maxHeartbeats 4000000
namespace MR
open PySem PySem.Spec PyProof.Rows L2
structure ClsF (K:PySem.W.Frag) (C:Str) (Ca:Addr):Prop where
  ns:PySem.W.nsIn K mainGlobals C = some (some (.ref Ca))
  cl:Cls K Ca
theorem ClsF.eq {K:PySem.W.Frag} {C:Str} {Ca Cb:Addr} (T:ClsF K C Ca) (h:PySem.W.nsIn K mainGlobals C = some (some (.ref Cb))):Cb = Ca:=by
  have:=T.ns.symm.trans h
  simpa using this.symm
section
variable {X:Cx} {o e value:Expr} {es:List Expr} {f m C x:Str} {p pos pos' apos:Pos} {Ca fa:Addr} {fd:FuncData} {ps:List Str} {k n:Nat} {F:FN} {fe fo fv:FE} {g:FA}
end
end MR
set_option Elab.async false
set_option linter.all false
set_option maxRecDepth 100000
set_option maxHeartbeats 4000000
namespace ZT
open PySem PySem.Spec PyProof.Rows
open Sem (wp)
def SqK (b:Bool) (h:Heap) (l:Addr) (xs:Array Value):Prop:=match b with
  | true=>h.IsList l xs
  | false=>h.IsTuple l xs
def ItK (b:Bool) (h:Heap) (jt l:Addr) (k:Nat):Prop:=match b with
  | true=>h.IsListIter jt l k
  | false=>h.IsTupleIter jt l k
theorem SqK.keep {b:Bool} {h h':Heap} {l:Addr} {xs:Array Value} (x:SqK b h l xs) (e:∀ o,h.get? l = some o → h'.get? l = some o):SqK b h' l xs:=by
  cases b with
  | true=>obtain ⟨o,ho,r⟩:=x; exact ⟨o,e _ ho,r⟩
  | false=>obtain ⟨o,ho,r⟩:=x; exact ⟨o,e _ ho,r⟩
theorem ItK.keep {b:Bool} {h h':Heap} {jt l:Addr} {k:Nat} (x:ItK b h jt l k) (e:∀ o,h.get? jt = some o → h'.get? jt = some o):ItK b h' jt l k:=by
  cases b with
  | true=>obtain ⟨o,ho,r⟩:=x; exact ⟨o,e _ ho,r⟩
  | false=>obtain ⟨o,ho,r⟩:=x; exact ⟨o,e _ ho,r⟩
theorem ItK.lt {b:Bool} {h:Heap} {jt l:Addr} {k:Nat} (x:ItK b h jt l k):jt < h.objs.size:=by
  cases b with
  | true=>obtain ⟨o,ho,r⟩:=x; exact Heap.lt_size ho
  | false=>obtain ⟨o,ho,r⟩:=x; exact Heap.lt_size ho
theorem ItK.obj {b:Bool} {h:Heap} {jt l:Addr} {k:Nat} (x:ItK b h jt l k):∃ o,h.get? jt = some o ∧ o.data = .fields #[.ref l,.int k 0]:=by
  cases b with
  | true=>obtain ⟨o,ho,_,r⟩:=x; exact ⟨o,ho,r⟩
  | false=>obtain ⟨o,ho,_,r⟩:=x; exact ⟨o,ho,r⟩
section
variable {prog:Program} {w:World} {A:Around} {E:Value → Shared → Prop} {s:Shared}
theorem K4 {jt t:Addr} {k:Nat} {its:Array Value} {v:Value} {Q:Value → Shared → Prop} (hj:s.heap.IsTupleIter jt t k) (ht:s.heap.IsTuple t its) (hv:its[k]? = some v)
    (hQ:∀ h',h'.IsTupleIter jt t (k + 1) → Heap.SameBut jt s.heap h' → Q v { s with heap:=h' }):wpAny (model prog w) A (Builtin.SmallTypes.nextOf (.ref jt)) Q E s:=by
  obtain ⟨ob,hob,hcl,hda⟩:=id hj
  obtain ⟨ot,hot,_,nt,hdt⟩:=ht
  unfold Builtin.SmallTypes.nextOf
  refine wpAny_bind (wpAny_callSpecial?_slot (name:=Str.ofString "__next__") hj.typeIs F.slot_tuple_iterator_next (wpAny_call_entry F.slot_tuple_iterator_next hj.typeIs F.entry_tuple_iterator_next ?_ (F.args_tuple_iterator_next_1 _)))
  show wpAny _ _ (field (.ref jt) 0 >>= _) _ _ s
  refine wpAny_bind (wpAny_field hob hda (x:=.ref t) rfl ?_)
  show wpAny _ _ (if (Value.ref t == Value.none) = true then _ else _) _ _ s
  rw [if_neg (show ¬ ((Value.ref t == Value.none) = true) from (fun z=>Bool.false_ne_true z))]
  show wpAny _ _ (field (.ref jt) 1 >>= _) _ _ s
  refine wpAny_bind (wpAny_field hob hda (x:=.int k 0) rfl ?_)
  show wpAny _ _ (seqItems? (.ref t) >>= fun z=>_) _ _ s
  refine wpAny_bind (wpAny_seqItems hot hdt ?_)
  simp only [Int.toNat_natCast,hv]
  refine wpAny_bind (wpAny_setField hob hda (by simp) (wpAny_pure ⟨v,rfl,wpAny_pure (hQ _ ?_ (Heap.SameBut.update ..))⟩))
  exact ⟨_,Heap.get?_update_self _ hob (Obj.isFreed_of_fields (Obj.data_mapFields hda _)),(Obj.cls_mapFields ..).trans hcl,by rw [Obj.data_mapFields hda]; simp [rawInt]⟩
theorem Rj {jt t:Addr} {k:Nat} {its:Array Value} {Q:Value → Shared → Prop} (hh:A.handled = none) (hj:s.heap.IsTupleIter jt t k) (ht:s.heap.IsTuple t its) (hv:its[k]? = none)
    (hE:∀ h' e,Heap.ExtBut jt s.heap h' → (∃ ob,h'.get? e = some ob ∧ ob.cls = .type "StopIteration") → E (.ref e) { s with heap:=h' }):wpAny (model prog w) A (Builtin.SmallTypes.nextOf (.ref jt)) Q E s:=by
  obtain ⟨ob,hob,hcl,hda⟩:=id hj
  obtain ⟨ot,hot,_,nt,hdt⟩:=ht
  unfold Builtin.SmallTypes.nextOf
  refine wpAny_bind (wpAny_callSpecial?_slot (name:=Str.ofString "__next__") hj.typeIs F.slot_tuple_iterator_next (wpAny_call_entry F.slot_tuple_iterator_next hj.typeIs F.entry_tuple_iterator_next ?_ (F.args_tuple_iterator_next_1 _)))
  show wpAny _ _ (field (.ref jt) 0 >>= _) _ _ s
  refine wpAny_bind (wpAny_field hob hda (x:=.ref t) rfl ?_)
  show wpAny _ _ (if (Value.ref t == Value.none) = true then _ else _) _ _ s
  rw [if_neg (show ¬ ((Value.ref t == Value.none) = true) from (fun z=>Bool.false_ne_true z))]
  show wpAny _ _ (field (.ref jt) 1 >>= _) _ _ s
  refine wpAny_bind (wpAny_field hob hda (x:=.int k 0) rfl ?_)
  show wpAny _ _ (seqItems? (.ref t) >>= fun z=>_) _ _ s
  refine wpAny_bind (wpAny_seqItems hot hdt ?_)
  simp only [Int.toNat_natCast,hv]
  refine wpAny_bind (wpAny_rule (wpAny_bind (wpAny_setField hob hda (by simp) ?_)))
  show wpAny _ _ (newExc (.type "StopIteration") [] >>= fun z=>_) _ _ _
  refine wpAny_bind ?_
  simp only [newExc,newTuple]; refine wpAny_bind (wpAny_newObj_type ?_ (by size_fits))
  refine wpAny_bind (m:=firstArgMember _ _) (wpAny_of_eq (a:=Value.none) (by first | rfl | (simp only [firstArgMember]; rfl)) (wpAny_newObj_type ?_ (by size_fits)))
  simp only [raiseNew]; refine wpAny_bind (wpAny_handled ?_)
  first | rw [show A.in1.handled = none from hh] | (rw [hh])
  exact wpAny_bind (wpAny_pure (wpAny_throw (hE _ _ (((Heap.SameBut.update ..).extBut.push _).push _) ⟨_,Heap.get?_push_size _ rfl,rfl⟩)))
theorem Nx {b:Bool} {jt l:Addr} {k:Nat} {its:Array Value} {v:Value} {Q:Value → Shared → Prop} (hj:ItK b s.heap jt l k) (hl:SqK b s.heap l its) (hv:its[k]? = some v)
    (hQ:∀ h',ItK b h' jt l (k + 1) → Heap.SameBut jt s.heap h' → Q v { s with heap:=h' }):wpAny (model prog w) A (Builtin.SmallTypes.nextOf (.ref jt)) Q E s:=by
  cases b with
  | true=>exact wpAny_nextOf_list_item hj hl hv hQ
  | false=>exact K4 hj hl hv hQ
theorem Tk {b:Bool} {jt l:Addr} {k:Nat} {its:Array Value} {Q:Value → Shared → Prop} (hh:A.handled = none) (hj:ItK b s.heap jt l k) (hl:SqK b s.heap l its) (hv:its[k]? = none)
    (hE:∀ h' e,Heap.ExtBut jt s.heap h' → (∃ ob,h'.get? e = some ob ∧ ob.cls = .type "StopIteration") → E (.ref e) { s with heap:=h' }):wpAny (model prog w) A (Builtin.SmallTypes.nextOf (.ref jt)) Q E s:=by
  cases b with
  | true=>exact wpAny_nextOf_list_end hh hj hl hv hE
  | false=>exact Rj hh hj hl hv hE
theorem SqK.but {b:Bool} {h h':Heap} {l c:Addr} {xs:Array Value} (x:SqK b h l xs) (e:Heap.ExtBut c h h') (hne:l ≠ c):SqK b h' l xs:=x.keep fun o q=>e l o hne q
theorem ItK.but {b:Bool} {h h':Heap} {jt l c:Addr} {k:Nat} (x:ItK b h jt l k) (e:Heap.ExtBut c h h') (hne:jt ≠ c):ItK b h' jt l k:=x.keep fun o q=>e jt o hne q
variable {b1 b2:Bool} {z TI TO j1 j2 l1 l2:Addr} {k1 k2:Nat} {xs ys:Array Value} {a b:Value}
theorem Ab1 {x y:Value} {Q:Value → Shared → Prop} (D:ZipApart z TI TO j1 j2 l1 l2) (hz:IsZip s.heap z TI TO .none) (hI:IsPair s.heap TI (.ref j1) (.ref j2)) (hO:IsPair s.heap TO a b)
    (h1:ItK b1 s.heap j1 l1 k1) (h2:ItK b2 s.heap j2 l2 k2) (g1:SqK b1 s.heap l1 xs) (g2:SqK b2 s.heap l2 ys) (hx:xs[k1]? = some x) (hy:ys[k2]? = some y)
    (hQ:∀ h',IsZip h' z TI TO (rawInt s.heap.objs.size) → IsPair h' TO x y → ItK b1 h' j1 l1 (k1 + 1) → ItK b2 h' j2 l2 (k2 + 1) → IsPair h' s.heap.objs.size x y → h'.objs.size = s.heap.objs.size + 1 →
      (∀ c o,c ≠ z → c ≠ TO → c ≠ j1 → c ≠ j2 → s.heap.get? c = some o → h'.get? c = some o) → Q (.ref s.heap.objs.size) { s with heap:=h' }) :
    wpAny (model prog w) A (Builtin.«zip.__next__» ⟨[.ref z],[]⟩) (fun fin s'=>∃ v,fin = .done (.ret v) ∧ Q v s') E s:=by
  show wpAny _ _ (field (.ref z) 2 >>= fun q=>_) _ _ _
  refine wpAny_bind (wpAny_field hz rfl (x:=.bool false) rfl ?_); show wpAny _ _ (field (.ref z) 3 >>= _) _ _ _
  refine wpAny_bind (wpAny_field hz rfl (x:=.ref TI) rfl (wpAny_bind (wpAny_seqItems hI rfl ?_)))
  show wpAny _ _ (Builtin.SmallTypes.ownedTupleIsFree (.ref z) >>= fun q=>_) _ _ _
  refine wpAny_bind ?_; unfold Builtin.SmallTypes.ownedTupleIsFree
  refine wpAny_bind (wpAny_field hz rfl (x:=.none) rfl (wpAny_pure ?_)); simp only [if_true]
  refine wpAny_bind (wpAny_rule (wpAny_bind (wpAny_field hz rfl (x:=.ref TO) rfl (wpAny_bind (wpAny_setField_rec hz (by simp) fun p1 z1 s1=>?_)))))
  replace z1:IsZip p1 z TI TO .ellipsis:=z1
  refine wpAny_bind ?_; simp only [List.zipIdx_cons,List.zipIdx_nil,List.forIn_cons,List.forIn_nil]
  refine wpAny_bind (wpAny_bind (wpAny_onRaise ?_)); show wpAny _ _ (Builtin.SmallTypes.nextOf (.ref j1) >>= _) _ _ _
  refine wpAny_bind (Nx (h1.but s1.extBut D.i1z) (g1.but s1.extBut D.l1z) hx fun p2 i2 s2=>wpAny_pure ?_)
  have O2:IsPair p2 TO a b:=s2.extBut _ _ D.TOi1 (s1.extBut _ _ D.TOz hO)
  refine wpAny_bind (wpAny_seqItems O2 rfl (wpAny_bind (wpAny_updateSeq_pair O2 fun p3 O3 s3=>?_)))
  replace O3:IsPair p3 TO x b:=O3
  refine wpAny_bind (wpAny_letGo (wpAny_pure ?_)); refine wpAny_bind (wpAny_bind (wpAny_onRaise ?_))
  show wpAny _ _ (Builtin.SmallTypes.nextOf (.ref j2) >>= fun q=>_) _ _ _
  refine wpAny_bind (Nx (((h2.but s1.extBut D.i2z).but s2.extBut D.i12.symm).but s3.extBut D.TOi2.symm) (((g2.but s1.extBut D.l2z).but s2.extBut D.l2i1).but s3.extBut D.l2TO) hy fun p4 i4 s4=>wpAny_pure ?_)
  have O4:IsPair p4 TO x b:=s4.extBut _ _ D.TOi2 O3
  refine wpAny_bind (wpAny_seqItems O4 rfl (wpAny_bind (wpAny_updateSeq_pair O4 fun p5 O5 s5=>?_)))
  replace O5:IsPair p5 TO x y:=O5
  refine wpAny_bind (wpAny_letGo (wpAny_pure (wpAny_pure ?_))); refine wpAny_bind (wpAny_seqItems O5 rfl (wpAny_bind (wpAny_newTuple ?_)))
  have hsz:p5.objs.size = s.heap.objs.size:=by rw [s5.1,s4.1,s3.1,s2.1,s1.1]
  have z5:IsZip p5 z TI TO .ellipsis:=s5.extBut _ _ D.TOz.symm (s4.extBut _ _ D.i2z.symm (s3.extBut _ _ D.TOz.symm (s2.extBut _ _ D.i1z.symm z1)))
  have k5:∀ c o,c ≠ z → c ≠ TO → c ≠ j1 → c ≠ j2 → s.heap.get? c = some o → p5.get? c = some o:=fun c o c1 c2 c3 c4 e=>s5.extBut _ _ c2 (s4.extBut _ _ c4 (s3.extBut _ _ c2 (s2.extBut _ _ c3 (s1.extBut _ _ c1 e))))
  have i15:ItK b1 p5 j1 l1 (k1 + 1):=((i2.but s3.extBut D.TOi1.symm).but s4.extBut D.i12).but s5.extBut D.TOi1.symm
  have i25:ItK b2 p5 j2 l2 (k2 + 1):=i4.but s5.extBut D.TOi2.symm
  have zlt:z < p5.objs.size:=Heap.lt_size z5
  show wpAny _ _ (Builtin.SmallTypes.ownedTupleHandOut (.ref z) (.ref p5.objs.size) >>= fun q=>_) _ _ _
  refine wpAny_bind ?_; unfold Builtin.SmallTypes.ownedTupleHandOut
  have z6:IsZip (p5.push { cls:=.type "tuple",data:=.seq #[x,y] }) z TI TO .ellipsis:=Heap.get?_push_of_some _ z5
  refine wpAny_bind (wpAny_setField_rec z6 (by simp) fun p7 z7 s7=>?_)
  replace z7:IsZip p7 z TI TO (rawInt p5.objs.size):=z7
  refine wpAny_setField_rec z7 (by simp) fun p8 z8 s8=>?_
  replace z8:IsZip p8 z TI TO (rawInt p5.objs.size):=z8
  have up:∀ c o,c ≠ z → p5.get? c = some o → p8.get? c = some o:=fun c o c1 e=>s8.extBut _ _ c1 (s7.extBut _ _ c1 (Heap.get?_push_of_some _ e))
  have t8:IsPair p8 p5.objs.size x y:=s8.extBut _ _ (Nat.ne_of_gt zlt) (s7.extBut _ _ (Nat.ne_of_gt zlt) (Heap.get?_push_size _ rfl))
  have e8:p8.objs.size = p5.objs.size + 1:=by rw [s8.1,s7.1,Heap.size_push]
  rw [hsz] at z8 t8 e8
  refine wpAny_pure ⟨_,rfl,?_⟩
  show Q (.ref p5.objs.size) _
  rw [hsz]
  exact hQ p8 z8 (up _ _ D.TOz O5) (i15.keep fun o e=>up _ o D.i1z e) (i25.keep fun o e=>up _ o D.i2z e) t8 e8 fun c o c1 c2 c3 c4 e=>up c o c1 (k5 c o c1 c2 c3 c4 e)
theorem Agf {Q:Fin → Shared → Prop} (hh:A.handled = none) (D:ZipApart z TI TO j1 j2 l1 l2) (hz:IsZip s.heap z TI TO .none) (hI:IsPair s.heap TI (.ref j1) (.ref j2)) (hO:IsPair s.heap TO a b)
    (h1:ItK b1 s.heap j1 l1 k1) (h2:ItK b2 s.heap j2 l2 k2) (g1:SqK b1 s.heap l1 xs) (g2:SqK b2 s.heap l2 ys) (hend:xs[k1]? = none ∨ ys[k2]? = none)
    (hE:∀ h' e,(∀ c o,c ≠ z → c ≠ TO → c ≠ j1 → c ≠ j2 → s.heap.get? c = some o → h'.get? c = some o) → (∃ ob,h'.get? e = some ob ∧ ob.cls = .type "StopIteration") → E (.ref e) { s with heap:=h' }) :
    wpAny (model prog w) A (Builtin.«zip.__next__» ⟨[.ref z],[]⟩) Q E s:=by
  show wpAny _ _ (field (.ref z) 2 >>= fun q=>_) _ _ _
  refine wpAny_bind (wpAny_field hz rfl (x:=.bool false) rfl ?_); show wpAny _ _ (field (.ref z) 3 >>= _) _ _ _
  refine wpAny_bind (wpAny_field hz rfl (x:=.ref TI) rfl (wpAny_bind (wpAny_seqItems hI rfl ?_)))
  show wpAny _ _ (Builtin.SmallTypes.ownedTupleIsFree (.ref z) >>= fun q=>_) _ _ _
  refine wpAny_bind ?_; unfold Builtin.SmallTypes.ownedTupleIsFree
  refine wpAny_bind (wpAny_field hz rfl (x:=.none) rfl (wpAny_pure ?_)); simp only [if_true]
  refine wpAny_bind (wpAny_rule (wpAny_bind (wpAny_field hz rfl (x:=.ref TO) rfl (wpAny_bind (wpAny_setField_rec hz (by simp) fun p1 z1 s1=>?_)))))
  replace z1:IsZip p1 z TI TO .ellipsis:=z1
  refine wpAny_bind ?_; simp only [List.zipIdx_cons,List.zipIdx_nil,List.forIn_cons,List.forIn_nil]
  refine wpAny_bind (wpAny_bind (wpAny_onRaise ?_)); show wpAny _ _ (Builtin.SmallTypes.nextOf (.ref j1) >>= _) _ _ _
  cases hx:xs[k1]? with
  | none=>
    refine wpAny_bind (Tk hh (h1.but s1.extBut D.i1z) (g1.but s1.extBut D.l1z) hx fun p2 e s2 he=>?_)
    obtain ⟨oe,hoe,hce⟩:=he
    have z2:IsZip p2 z TI TO .ellipsis:=s2 _ _ D.i1z.symm z1
    have hez:e ≠ z:=fun q=>by subst q; rw [z2] at hoe; cases hoe; simp at hce
    refine wpAny_setField_rec z2 (by simp) fun p3 _ s3=>hE p3 e (fun c o c1 _ c3 _ q=>s3.extBut _ _ c1 (s2 _ _ c3 (s1.extBut _ _ c1 q))) ⟨oe,s3.extBut _ _ hez hoe,hce⟩
  | some x=>
    have hy:ys[k2]? = none:=by rcases hend with h | h; (rw [hx] at h; cases h); exact h
    refine wpAny_bind (Nx (h1.but s1.extBut D.i1z) (g1.but s1.extBut D.l1z) hx fun p2 i2 s2=>wpAny_pure ?_)
    have O2:IsPair p2 TO a b:=s2.extBut _ _ D.TOi1 (s1.extBut _ _ D.TOz hO)
    refine wpAny_bind (wpAny_seqItems O2 rfl (wpAny_bind (wpAny_updateSeq_pair O2 fun p3 O3 s3=>?_)))
    refine wpAny_bind (wpAny_letGo (wpAny_pure ?_)); refine wpAny_bind (wpAny_bind (wpAny_onRaise ?_))
    show wpAny _ _ (Builtin.SmallTypes.nextOf (.ref j2) >>= fun q=>_) _ _ _
    refine wpAny_bind (Tk hh (((h2.but s1.extBut D.i2z).but s2.extBut D.i12.symm).but s3.extBut D.TOi2.symm) (((g2.but s1.extBut D.l2z).but s2.extBut D.l2i1).but s3.extBut D.l2TO) hy fun p4 e s4 he=>?_)
    obtain ⟨oe,hoe,hce⟩:=he
    have z4:IsZip p4 z TI TO .ellipsis:=s4 _ _ D.i2z.symm (s3.extBut _ _ D.TOz.symm (s2.extBut _ _ D.i1z.symm z1))
    have hez:e ≠ z:=fun q=>by subst q; rw [z4] at hoe; cases hoe; simp at hce
    refine wpAny_setField_rec z4 (by simp) fun p5 _ s5=>hE p5 e (fun c o c1 c2 c3 c4 q=>s5.extBut _ _ c1 (s4 _ _ c4 (s3.extBut _ _ c2 (s2.extBut _ _ c3 (s1.extBut _ _ c1 q))))) ⟨oe,s5.extBut _ _ hez hoe,hce⟩
theorem U2 {x y:Value} {Q:Option Value → Shared → Prop} (D:ZipApart z TI TO j1 j2 l1 l2) (hz:IsZip s.heap z TI TO .none) (hI:IsPair s.heap TI (.ref j1) (.ref j2)) (hO:IsPair s.heap TO a b)
    (h1:ItK b1 s.heap j1 l1 k1) (h2:ItK b2 s.heap j2 l2 k2) (g1:SqK b1 s.heap l1 xs) (g2:SqK b2 s.heap l2 ys) (hx:xs[k1]? = some x) (hy:ys[k2]? = some y)
    (hQ:∀ h',IsZip h' z TI TO (rawInt s.heap.objs.size) → IsPair h' TO x y → ItK b1 h' j1 l1 (k1 + 1) → ItK b2 h' j2 l2 (k2 + 1) → IsPair h' s.heap.objs.size x y → h'.objs.size = s.heap.objs.size + 1 →
      (∀ c o,c ≠ z → c ≠ TO → c ≠ j1 → c ≠ j2 → s.heap.get? c = some o → h'.get? c = some o) → Q (some (.ref s.heap.objs.size)) { s with heap:=h' }) :
    wpAny (model prog w) A (pyNext (.ref z)) Q E s:=by
  have ty:s.TypeIs (.ref z) "zip" := ⟨_,hz,rfl⟩
  unfold pyNext
  exact wpAny_bind (wpAny_attempt (wpAny_callSpecial?_slot (name:=Str.ofString "__next__") ty F.slot_zip_next (wpAny_call_entry F.slot_zip_next ty F.entry_zip_next (Ab1 D hz hI hO h1 h2 g1 g2 hx hy fun h' q1 q2 q3 q4 q5 q6 q7=>wpAny_pure (hQ h' q1 q2 q3 q4 q5 q6 q7)) (F.args_zip_next_1 _))))
theorem Aaz {Q:Option Value → Shared → Prop} (hh:A.handled = none) (D:ZipApart z TI TO j1 j2 l1 l2) (hz:IsZip s.heap z TI TO .none) (hI:IsPair s.heap TI (.ref j1) (.ref j2)) (hO:IsPair s.heap TO a b)
    (h1:ItK b1 s.heap j1 l1 k1) (h2:ItK b2 s.heap j2 l2 k2) (g1:SqK b1 s.heap l1 xs) (g2:SqK b2 s.heap l2 ys) (hend:xs[k1]? = none ∨ ys[k2]? = none)
    (hQ:∀ h',(∀ c o,c ≠ z → c ≠ TO → c ≠ j1 → c ≠ j2 → s.heap.get? c = some o → h'.get? c = some o) → Q none { s with heap:=h' }):wpAny (model prog w) A (pyNext (.ref z)) Q E s:=by
  have ty:s.TypeIs (.ref z) "zip" := ⟨_,hz,rfl⟩
  unfold pyNext
  refine wpAny_bind (wpAny_attempt (wpAny_callSpecial?_slot (name:=Str.ofString "__next__") ty F.slot_zip_next (wpAny_call_entry F.slot_zip_next ty F.entry_zip_next (Agf hh D hz hI hO h1 h2 g1 g2 hend fun h' e hk he=>?_) (F.args_zip_next_1 _))))
  obtain ⟨ob,hob,hcl⟩:=he
  exact wpAny_bind (wpAny_isInstance (T := "StopIteration") (b:=true) ⟨ob,hob,hcl⟩ isSubtype_stop (wpAny_pure (hQ _ hk)))
end
end ZT
set_option Elab.async false
set_option linter.all false
set_option maxRecDepth 100000
set_option maxHeartbeats 4000000
namespace ZT
open PySem PySem.Spec PyProof.Rows
open Sem (wp)
abbrev zh1 (c1:String) (h:Heap) (l1:Addr):Heap:=h.push { cls:=.type c1,data:=.fields #[.ref l1,.int 0 0] }
abbrev zh2 (c1 c2:String) (h:Heap) (l1 l2:Addr):Heap:=(zh1 c1 h l1).push { cls:=.type c2,data:=.fields #[.ref l2,.int 0 0] }
abbrev zh3 (c1 c2:String) (h:Heap) (l1 l2:Addr):Heap:=(zh2 c1 c2 h l1 l2).push { cls:=.type "tuple",data:=.seq #[.ref h.objs.size,.ref (zh1 c1 h l1).objs.size] }
abbrev zh4 (c1 c2:String) (h:Heap) (l1 l2:Addr):Heap:=(zh3 c1 c2 h l1 l2).push { cls:=.type "tuple",data:=.seq #[.none,.none] }
abbrev zh5 (c1 c2:String) (h:Heap) (l1 l2:Addr):Heap:=(zh4 c1 c2 h l1 l2).push { cls:=.type "zip",data:=.fields #[.none,.bool false,.bool false,.ref (zh2 c1 c2 h l1 l2).objs.size,.ref (zh3 c1 c2 h l1 l2).objs.size] }
theorem Ahh (l1 l2 : Addr) (xs ys : Array Value) : Meets (Builtin.«zip.__new__» ⟨[.type "zip", .ref l1, .ref l2], []⟩) (fun _ R s => s.heap.IsTuple l1 xs ∧ s.heap.IsTuple l2 ys ∧
      R (.ok (.ret (.ref (zh4 "tuple_iterator" "tuple_iterator" s.heap l1 l2).objs.size))) { s with heap:=zh5 "tuple_iterator" "tuple_iterator" s.heap l1 l2 }):=
  .of_wp fun prog w A R s h=>by
    obtain ⟨hp,g,d,tk,os⟩:=s
    obtain ⟨t1,t2,h⟩:=h
    have hsub:=sub_zip
    have T1:Heap.IsTuple (Shared.heap ⟨hp,g,d,tk,os⟩) l1 xs:=t1
    have T2:Heap.IsTuple (Shared.heap ⟨hp.push { cls:=.type "tuple_iterator",data:=.fields #[.ref l1,.int 0 0] },g,d,tk,os⟩) l2 ys:=Heap.IsTuple.push t2 _
    wp_walk using wpAny_pyIter_tuple T1,wpAny_pyIter_tuple T2
    exact ⟨_,rfl,h⟩
section
variable {prog:Program} {w:World} {A:Around} {E:Value → Shared → Prop} {s:Shared}
theorem Acy {l1 l2:Addr} {xs ys:Array Value} {Q:Value → Shared → Prop} (t1:s.heap.IsTuple l1 xs) (t2:s.heap.IsTuple l2 ys)
    (h:∀ h',IsZip h' (s.heap.objs.size + 4) (s.heap.objs.size + 2) (s.heap.objs.size + 3) .none → IsPair h' (s.heap.objs.size + 2) (.ref s.heap.objs.size) (.ref (s.heap.objs.size + 1)) →
      IsPair h' (s.heap.objs.size + 3) .none .none → ItK false h' s.heap.objs.size l1 0 → ItK false h' (s.heap.objs.size + 1) l2 0 → (∀ c o,s.heap.get? c = some o → h'.get? c = some o) → Q (.ref (s.heap.objs.size + 4)) { s with heap:=h' }) :
    wpAny (model prog w) A (call (.type "zip") [.ref l1,.ref l2]) Q E s:=by
  refine callType_new F.called_zip (by decide) (F.typeCall_zip_2 _ _) (F.newCall_zip_2 _ _) (fun obj=>F.args_object_init_3 obj _ _) F.entry_zip_new (Ahh l1 l2 xs ys) ⟨t1,t2,?_⟩
  have z1:(zh1 "tuple_iterator" s.heap l1).objs.size = s.heap.objs.size + 1:=Heap.size_push ..
  have z2:(zh2 "tuple_iterator" "tuple_iterator" s.heap l1 l2).objs.size = s.heap.objs.size + 2:=by rw [Heap.size_push,z1]
  have z3:(zh3 "tuple_iterator" "tuple_iterator" s.heap l1 l2).objs.size = s.heap.objs.size + 3:=by rw [Heap.size_push,z2]
  have z4:(zh4 "tuple_iterator" "tuple_iterator" s.heap l1 l2).objs.size = s.heap.objs.size + 4:=by rw [Heap.size_push,z3]
  have q5:(zh5 "tuple_iterator" "tuple_iterator" s.heap l1 l2).get? (zh4 "tuple_iterator" "tuple_iterator" s.heap l1 l2).objs.size = some _:=Heap.get?_push_size _ rfl
  have q4:(zh5 "tuple_iterator" "tuple_iterator" s.heap l1 l2).get? (zh3 "tuple_iterator" "tuple_iterator" s.heap l1 l2).objs.size = some _:=Heap.get?_push_of_some _ (Heap.get?_push_size _ rfl)
  have q3:(zh5 "tuple_iterator" "tuple_iterator" s.heap l1 l2).get? (zh2 "tuple_iterator" "tuple_iterator" s.heap l1 l2).objs.size = some _:=Heap.get?_push_of_some _ (Heap.get?_push_of_some _ (Heap.get?_push_size _ rfl))
  have q2:(zh5 "tuple_iterator" "tuple_iterator" s.heap l1 l2).get? (zh1 "tuple_iterator" s.heap l1).objs.size = some _:=Heap.get?_push_of_some _ (Heap.get?_push_of_some _ (Heap.get?_push_of_some _ (Heap.get?_push_size _ rfl)))
  have q1:(zh5 "tuple_iterator" "tuple_iterator" s.heap l1 l2).get? s.heap.objs.size = some _:=Heap.get?_push_of_some _ (Heap.get?_push_of_some _ (Heap.get?_push_of_some _ (Heap.get?_push_of_some _ (Heap.get?_push_size _ rfl))))
  show _ ∧ _
  rw [z2,z3,z4] at q5; rw [z1,z2] at q3; rw [z3] at q4
  rw [z1] at q2; rw [z4]
  exact ⟨⟨_,q5,rfl⟩,h _ q5 q3 q4 ⟨_,q1,rfl,rfl⟩ ⟨_,q2,rfl,rfl⟩ fun c o q=>Heap.get?_push_of_some _ (Heap.get?_push_of_some _ (Heap.get?_push_of_some _ (Heap.get?_push_of_some _ (Heap.get?_push_of_some _ q))))⟩
end
end ZT
namespace MR
open PySem PySem.Spec PyProof.Rows L2
def SK (bb:Bool) (K:PySem.W.Frag) (H:Hp) (a:Addr) (xs:List V):Prop:=match bb with
  | true=>SqL K H a xs
  | false=>SqT K H a xs
theorem SK.at {X:Cx} {pins:List (Addr × Obj)} {σ:L2.St} {H:Hp} {s:Shared} {bb:Bool} {a:Addr} {xs:List V} (I:L2.Inv X pins σ H s) (h:SK bb X.K H a xs):∃ its:List Value,Vals xs its ∧ ZT.SqK bb s.heap a its.toArray ∧ xs.length ≤ sizeLine:=by
  cases bb with
  | true=>obtain ⟨its,r,p,z⟩:=I.list h; exact ⟨its,r,p.isList,z⟩
  | false=>obtain ⟨its,r,p,z⟩:=I.tuple h; exact ⟨its,r,p,z⟩
theorem SK.inj {X:Cx} {pins:List (Addr × Obj)} {σ:L2.St} {H:Hp} {s:Shared} {bb:Bool} {a:Addr} {xs ys:List V} (I:L2.Inv X pins σ H s) (h:SK bb X.K H a xs) (h':SK bb X.K H a ys):xs = ys:=by
  cases bb with
  | true=>exact I.list_inj h h'
  | false=>exact I.tuple_inj h h'
def Yr (b1 b2:Bool) (K:PySem.W.Frag) (a b:Addr):It:=
  ⟨fun i H=>∃ xs ys x y,SK b1 K H a xs ∧ SK b2 K H b ys ∧ xs[i]? = some x ∧ ys[i]? = some y,fun i H z H'=>∃ p x y,H p = none ∧ z = .ref p ∧ H' = upd H p (.tup [x,y]) ∧ (∀ xs,SK b1 K H a xs → xs[i]? = some x) ∧ ∀ ys,SK b2 K H b ys → ys[i]? = some y,
    fun i H=>∃ xs ys,SK b1 K H a xs ∧ SK b2 K H b ys ∧ (xs.length ≤ i ∨ ys.length ≤ i)⟩
theorem Qb {b1 b2:Bool} {P:Program} {w:World} {K:PySem.W.Frag} {elts:List Expr} {x1} {pos:Pos} (a b z TI TO i1 i2:Addr) (D:ZipApart z TI TO i1 i2 a b):Turn P w K (.Tuple elts x1 pos) (Yr b1 b2 K a b) [z,TI,TO,i1,i2] z
    (fun i h=>IsZip h z TI TO .none ∧ IsPair h TI (.ref i1) (.ref i2) ∧ (∃ u v,IsPair h TO u v) ∧ ZT.ItK b1 h i1 a i ∧ ZT.ItK b2 h i2 b i) where
  mem:=by simp
  obj:=fun i h st c hb=>by
    obtain ⟨h1,h2,⟨u,v,h3⟩,h4',h5'⟩:=st
    obtain ⟨o4,h4,d4⟩:=h4'.obj
    obtain ⟨o5,h5,d5⟩:=h5'.obj
    simp only [List.mem_cons,List.not_mem_nil,or_false] at hb
    rcases hb with rfl | rfl | rfl | rfl | rfl
    · exact ⟨_,h1,fun v z=>by simp at z⟩
    · exact ⟨_,h2,fun v z=>by simp at z⟩
    · exact ⟨_,h3,fun v z=>by simp at z⟩
    · exact ⟨_,h4,fun v z=>by rw [d4] at z; cases z⟩
    · exact ⟨_,h5,fun v z=>by rw [d5] at z; cases z⟩
  keep:=fun i h h' st k=>by
    obtain ⟨h1,h2,⟨u,v,h3⟩,h4,h5⟩:=st
    exact ⟨k z (by simp) _ h1,k TI (by simp) _ h2,⟨u,v,k TO (by simp) _ h3⟩,h4.keep (k i1 (by simp)),h5.keep (k i2 (by simp))⟩
  item:=by
    intro X hP hw hK hc i pins s σ H E I hf st hg
    subst hP hw hK
    obtain ⟨h1,h2,⟨u0,v0,h3⟩,h4,h5⟩:=st
    obtain ⟨xs,ys,x,y,sq1,sq2,hx,hy⟩:=hg
    obtain ⟨its1,hv1,pl1,hz1⟩:=SK.at I sq1
    obtain ⟨its2,hv2,pl2,hz2⟩:=SK.at I sq2
    obtain ⟨u,hu,r⟩:=hv1.get hx
    obtain ⟨u',hu',r'⟩:=hv2.get hy
    refine ZT.U2 D h1 h2 h3 h4 h5 pl1 pl2 (by simpa using hu) (by simpa using hu') fun h' o1 o2 o3 o4 o5 o6 o7=>?_
    refine ⟨_,rfl,?_⟩
    have hfr:H s.heap.objs.size = none:=I.hok.fresh (Nat.le_refl _)
    have I1:L2.Inv X pins σ (upd H s.heap.objs.size (.tup [x,y])) { s with heap:=h',toks:=s.toks }:=
      Inv.turnNew (ch:=[z,TI,TO,i1,i2]) I hf (fun c o hb q=>o7 c o (fun z=>hb (by simp [z])) (fun z=>hb (by simp [z])) (fun z=>hb (by simp [z])) (fun z=>hb (by simp [z])) q) (Nat.le_refl _)
        (show ObjOk X.prog X.w _ h' _ (.tup [x,y]) from ⟨by show 2 ≤ sizeLine; decide,[u,u'],.cons r (.cons r' .nil),⟨_,o5,rfl,_,rfl⟩⟩)
    refine wpAny_letOwnedTupleGo_zip o1 fun h9 e2 sb2=>?_
    have hlt:∀ c ∈ [z,TI,TO,i1,i2],c < s.heap.objs.size:=fun c hb=>by
      simp only [List.mem_cons,List.not_mem_nil,or_false] at hb
      rcases hb with rfl | rfl | rfl | rfl | rfl
      · exact Heap.lt_size h1
      · exact Heap.lt_size h2
      · exact Heap.lt_size h3
      · exact h4.lt
      · exact h5.lt
    have hnone:∀ c ∈ [z,TI,TO,i1,i2],(upd H s.heap.objs.size (.tup [x,y])) c = none:=fun c hb=>by rw [Az (Nat.ne_of_lt (hlt c hb))]; exact (hf c hb).1
    obtain ⟨f0,f1,f2,f3,f4,f5⟩:=hf z (by simp)
    have I2:=I1.turned (t':=s.toks) (h':=h9) (it:=z) (fun c o hb q=>sb2.2 c hb |>.trans q) (hnone z (by simp)) f1 f3 f4 f5
    have hTI:IsPair h' TI (.ref i1) (.ref i2):=o7 TI _ D.TIz D.TITO D.TIi1 D.TIi2 h2
    refine ⟨.ref s.heap.objs.size,_,I2,rfl,⟨_,x,y,hfr,rfl,rfl,fun ys sq'=>?_,fun ys sq'=>?_⟩,⟨e2,(sb2.2 TI D.TIz).trans hTI,⟨_,_,(sb2.2 TO D.TOz).trans o2⟩,o3.keep (fun o q=>(sb2.2 i1 D.i1z).trans q),o4.keep (fun o q=>(sb2.2 i2 D.i2z).trans q)⟩,hnone⟩
    · rw [SK.inj I sq' sq1]; exact hx
    · rw [SK.inj I sq' sq2]; exact hy
  done:=by
    intro X hP hw hK hc i pins s σ H E I hf st hg
    subst hP hw hK
    obtain ⟨h1,h2,⟨u0,v0,h3⟩,h4,h5⟩:=st
    obtain ⟨xs,ys,sq1,sq2,hx⟩:=hg
    obtain ⟨its1,hv1,pl1,hz1⟩:=SK.at I sq1
    obtain ⟨its2,hv2,pl2,hz2⟩:=SK.at I sq2
    have hl1:=hv1.length
    have hl2:=hv2.length
    refine ZT.Aaz (I.ok.hd hc) D h1 h2 h3 h4 h5 pl1 pl2 (by simp; omega) fun h' k=>⟨rfl,?_⟩
    have nch:∀ b u,H b = some u → b ∉ [z,TI,TO,i1,i2]:=fun b u e hb=>by rw [(hf b hb).1] at e; cases e
    have k':∀ b o,b ∉ [z,TI,TO,i1,i2] → s.heap.get? b = some o → h'.get? b = some o:=fun c o hb q=>k c o (fun z=>hb (by simp [z])) (fun z=>hb (by simp [z])) (fun z=>hb (by simp [z])) (fun z=>hb (by simp [z])) q
    refine I.step (g':=s.gens) (d':=s.drawn) (t':=s.toks) (ch:=[z,TI,TO,i1,i2]) (fun b hb=>?_) (fun b o _ _ hc e _=>k' b o hc e) (fun b o _ _ hc e _=>⟨o.slots,k' b o hc e⟩) (fun _ _ _ _ n=>n) (fun b u hc e=>⟨u,k' b u hc e⟩) (fun _ _ e=>e) (fun _ _ _ e=>e) (fun b ps e=>⟨#[],by rw [e]; simp⟩) (fun m hm=>?_) (fun b u e=>?_) I.bare
    · obtain ⟨_,f1,_,f3,f4,f5⟩:=hf b hb
      exact ⟨f3,f1,f4,f5⟩
    · obtain ⟨o1,es,ep,ho,r⟩:=hm
      exact ⟨o1,es,ep,k' _ o1 (fun z=>(hf _ z).2.1 rfl) ho,r⟩
    · refine (I.hok b u e).stay (fun c v hc q=>k' c v ?_ q) (fun _ q=>q) fun _ _ q=>q
      rcases hc with z | z
      · rw [z]; exact nch b u e
      · exact nch c _ z
  self:=fun _ _ _ _ _ st h=>wpAny_pyIter_zip st.1 h
section
variable {X:Cx} {elts:List Expr} {x1:Nat} {tpos:Pos}
def Ah0 (K:PySem.W.Frag) (ta:TA):TI:=fun σ H R=>ta σ H fun vs H1=>∃ a b xs ys,vs = [.ref a,.ref b] ∧ SqT K H1 a xs ∧ SqT K H1 b ys ∧ R (Yr false false K a b) H1
theorem U6 {a b:Expr} {ta:TA} {p pos:Pos} (hg:Gl X "zip") (hm:X.mg "zip" = none) (ha:PA X [a,b] ta) (hs:starEach [a,b] X.env = (false,eval a X.env) :: starEach [b] X.env:=by rfl) (hpl:(backTo pos (starEach [b] X.env)).any (·.1) = false:=by rfl):PI X (.Tuple elts x1 tpos) (.Call (.Name "zip" p) [a,b] [] pos) (Ah0 X.K ta):=by
  intro pins s σ H R I h
  refine Call_ (Hk I hg hm Kj (PyProof.Rows.callWith_type1 (thn (ha pos pins s σ H _ I h) fun us s1 ⟨vs,H1,I1,r1,q1⟩=>?_) hs hpl))
  obtain ⟨l1,l2,xs,ys,rfl,sq1,sq2,q⟩:=q1
  obtain ⟨u,u',rfl,ru,ru'⟩:=Sn r1
  cases ru; cases ru'
  obtain ⟨its1,hv1,pl1,hz1⟩:=I1.tuple sq1
  obtain ⟨its2,hv2,pl2,hz2⟩:=I1.tuple sq2
  have lt1:l1 < s1.heap.objs.size:=by obtain ⟨o,e,_⟩:=pl1; exact Heap.lt_size e
  have lt2:l2 < s1.heap.objs.size:=by obtain ⟨o,e,_⟩:=pl2; exact Heap.lt_size e
  refine ZT.Acy pl1 pl2 fun h' o1 o2 o3 o4 o5 o7=>?_
  have I2:L2.Inv X pins σ H1 { s1 with heap:=h' }:=I1.kept (t':=s1.toks) o7
  refine wpAny_pyIter_zip o1 ⟨_,_,_,_,H1,rfl,I2,Qb (b1:=false) (b2:=false) l1 l2 _ _ _ _ _ (La _ _ _ lt1 lt2),⟨o1,o2,⟨_,_,o3⟩,o4,o5⟩,fun b hb=>?_,q⟩
  have hb':s1.heap.objs.size ≤ b:=by
    simp only [List.mem_cons,List.not_mem_nil,or_false] at hb
    rcases hb with rfl | rfl | rfl | rfl | rfl <;> first | exact Nat.le_add_right _ _ | exact Nat.le_refl _
  exact L2.Inv.fpOk I1 hb' (I1.hok.fresh hb')
def Ea (us ws:List U):List U:=(us.zip ws).map fun p=>.tup [p.1,p.2]
theorem Jy (us ws:List U) (k:Nat):(Ea us ws)[k]? = H0 us[k]? ws[k]?:=by
  unfold Ea
  rw [List.getElem?_map,List.zip,List.getElem?_zipWith]
  cases us[k]? <;> cases ws[k]? <;> rfl
theorem S0 {K:PySem.W.Frag} {H:Hp} {α:List Addr} {a b:Addr} {us ws:List U} {xs ys:List V} (sa:SqT K H a xs) (sb:SqT K H b ys) (ra:RepL K H α us xs) (rb:RepL K H α ws ys):Os K (Yr false false K a b) (.seq (Ea us ws)) H α:=by
  intro H2 α2 L2 g A2 k
  have mv:∀ (c:Addr) (vs:List U) (zs:List V),SqT K H c zs → RepL K H α vs zs → ∃ zs2,SqT K H2 c zs2 ∧ RepL K H2 α2 vs zs2:=fun c vs zs s r=>by
    have m:=(show RepU K H α (.tup vs) (.ref c) by unfold RepU; exact ⟨c,zs,rfl,s,r⟩).mono g
    unfold RepU at m
    obtain ⟨c',zs2,e,s2,r2⟩:=m
    cases e
    exact ⟨zs2,s2,r2⟩
  obtain ⟨xs2,sa2,ra2⟩:=mv a us xs sa ra
  obtain ⟨ys2,sb2,rb2⟩:=mv b ws ys sb rb
  refine ⟨fun u eu=>?_,fun eu=>?_⟩
  · have eu:(Ea us ws)[k]? = some u:=by simpa [IU.at] using eu
    rw [Jy] at eu
    cases h1:us[k]? with
    | none=>rw [h1] at eu; simp [H0] at eu
    | some u1=>
      cases h2:ws[k]? with
      | none=>rw [h1,h2] at eu; simp [H0] at eu
      | some u2=>
        rw [h1,h2] at eu
        simp [H0] at eu
        subst eu
        obtain ⟨x,hx,rx⟩:=ra2.get h1
        obtain ⟨y,hy,ry⟩:=rb2.get h2
        refine ⟨⟨xs2,ys2,x,y,sa2,sb2,hx,hy⟩,?_⟩
        rintro z H3 ⟨p,v,v',hp,rfl,rfl,hy1,hy2⟩
        have e1:=hy1 xs2 sa2
        have e2:=hy2 ys2 sb2
        rw [hx] at e1; cases e1
        rw [hy] at e2; cases e2
        exact A2.tup (.cons rx (.cons ry .nil)) hp
  · have eu:(Ea us ws)[k]? = none:=by simpa [IU.at] using eu
    rw [Jy] at eu
    refine ⟨xs2,ys2,sa2,sb2,?_⟩
    cases h1:us[k]? with
    | none=>left; rw [← ra2.length]; exact List.getElem?_eq_none_iff.mp h1
    | some u1=>
      cases h2:ws[k]? with
      | none=>right; rw [← rb2.length]; exact List.getElem?_eq_none_iff.mp h2
      | some u2=>rw [h1,h2] at eu; simp [H0] at eu
end
end MR
set_option Elab.async false
set_option linter.all false
set_option maxRecDepth 100000
set_option maxHeartbeats 4000000
namespace MR
open PySem PySem.Spec PyProof.Rows PySem.Calls L2
theorem Ac6 {bs:List Bool}:∀ {us:List Value},Vals (bs.map V.bl) us → ∀ (i:Nat) (v:Value),us[i]? = some v → ∃ b,bs[i]? = some b ∧ v = .bool b:=by
  induction bs with
  | nil=>intro us r i v e; rw [List.map_nil] at r; cases r; simp at e
  | cons n ns ih=>
    intro us r i v e
    rw [List.map_cons] at r
    cases r with
    | cons r1 r2=>
      cases i with
      | zero=>simp at e; subst e; exact ⟨n,rfl,r1⟩
      | succ i=>simpa using ih r2 i v (by simpa using e)
theorem Aeb {bs:List Bool}:∀ {us:List Value},Vals (bs.map V.bl) us → us.length = bs.length:=by
  induction bs with
  | nil=>intro us r; rw [List.map_nil] at r; cases r; rfl
  | cons n ns ih=>
    intro us r
    rw [List.map_cons] at r
    cases r with
    | cons r1 r2=>simp [ih r2]
theorem Ab7 (bs:List Bool):((List.range bs.length).all fun i=>(bs[i]?).getD true) = bs.all id:=by
  rw [Bool.eq_iff_iff,List.all_eq_true,List.all_eq_true]
  constructor
  · intro h b hb
    obtain ⟨i,hi,e⟩:=List.getElem_of_mem hb
    have:=h i (List.mem_range.mpr hi)
    simp only [List.getElem?_eq_getElem hi,Option.getD_some,e] at this
    exact this
  · intro h i hi
    have hi':=List.mem_range.mp hi
    simp only [List.getElem?_eq_getElem hi',Option.getD_some]
    exact h _ (List.getElem_mem hi')
section
variable {X:Cx}
theorem Abz {s:Shared} {h':Heap} {o:Obj} (hk:∀ b x,b ∉ [s.heap.objs.size] → (s.heap.push o).get? b = some x → h'.get? b = some x):∀ b x,s.heap.get? b = some x → h'.get? b = some x:=
  fun b x e=>hk b x (fun hm=>by rw [List.mem_singleton.mp hm] at e; exact Nat.lt_irrefl _ (Heap.lt_size e)) (Heap.get?_push_of_some _ e)
theorem X2 (hc:X.calm = true):CallR X (.builtin "all") (fun xs H Q=>∃ (p:Addr) (bs:List Bool),xs = [.ref p] ∧ SqL X.K H p (bs.map V.bl) ∧ Q (.bl (bs.all id)) H):=by
  intro pins s σ H xs us Q I r h
  obtain ⟨p,bs,rfl,hq,q⟩:=h
  obtain ⟨u,rfl,rx⟩:=Ia r
  cases rx
  obtain ⟨its,r',pl,hz⟩:=I.list hq
  have hl:=pl.isList
  have hlt:p < s.heap.objs.size:=by obtain ⟨_,e,_⟩:=hl; exact Heap.lt_size e
  refine call_all_walk (wpAny_pyIter_list hl ?_)
  refine ⟨s.heap.objs.size,[s.heap.objs.size,p],[s.heap.objs.size],its.toArray.size,_,_,fun i=>(bs[i]?).getD true,rfl,Walks.list (A:=Around.in1 _) (I.ok.hd hc) _ p (Nat.ne_of_lt hlt) its.toArray,
    ⟨⟨_,Heap.get?_push_size _ rfl,rfl,rfl⟩,hl.push _⟩,fun i v s' Q' E' hP hQ=>?_,fun h' tk hk=>?_⟩
  · obtain ⟨b,e,rfl⟩:=Ac6 r' i v (by simpa using hP)
    simp only [e,Option.getD_some] at hQ
    exact wpAny_truthy_bool hQ
  · have e:((List.range its.toArray.size).all fun i=>(bs[i]?).getD true) = bs.all id:=by
      rw [List.size_toArray,Aeb r']; exact Ab7 bs
    rw [e]
    exact ⟨.bl (bs.all id),H,I.kept (Abz hk),rfl,q⟩
end
def toB:U → Option Bool
  | .bl b=>some b
  | _=>none
theorem V5 {K:PySem.W.Frag} {H:Hp} {α:List Addr}:∀ {us:List U} {xs:List V} {bs:List Bool},RepL K H α us xs → mapO toB us = some bs → xs = bs.map V.bl
  | [],xs,ys,r,h=>by unfold RepL at r; subst r; cases h; rfl
  | u :: us,xs,ys,r,h=>by
    unfold RepL at r
    obtain ⟨x,xr,rfl,r1,r2⟩:=r
    obtain ⟨y,e1,h⟩:=Option.bind_eq_some_iff.mp h
    obtain ⟨yr,e2,h⟩:=Option.map_eq_some_iff.mp h
    subst h
    cases u <;> simp only [toB] at e1 <;> first
      | (cases e1; unfold RepU at r1; subst r1; rw [V5 r2 e2]; rfl)
      | cases e1
def Ot:SC:=fun us L=>match us with
  | [.ref n]=>(Ao L n).bind fun l=>(mapO toB l).map fun bs=>(.bl (bs.all id),L)
  | _=>none
theorem Ad7 {K:PySem.W.Frag}:Ld K (fun xs H Q=>∃ (p:Addr) (bs:List Bool),xs = [.ref p] ∧ SqL K H p (bs.map V.bl) ∧ Q (.bl (bs.all id)) H) Ot:=by
  intro H α L us xs z L' Q A r e q
  unfold Ot at e
  split at e
  · obtain ⟨l,hl,e⟩:=Option.bind_eq_some_iff.mp e
    obtain ⟨bs,e1,e⟩:=Option.map_eq_some_iff.mp e
    cases e
    obtain ⟨x,rfl,rx⟩:=r.one
    obtain ⟨a,ys,rfl,sq,r2⟩:=E9 A hl rx
    rw [V5 r2 e1] at sq
    exact ⟨a,bs,rfl,sq,q _ H α (.refl _ _) A rfl⟩
  · cases e
end MR
set_option Elab.async false
set_option linter.all false
set_option maxRecDepth 100000
set_option maxHeartbeats 4000000
namespace MR
open PySem PySem.Spec PyProof.Rows PySem.Calls L2
section
variable {X:Cx}
end
end MR
set_option Elab.async false
set_option linter.all false
set_option maxRecDepth 100000
set_option maxHeartbeats 4000000
namespace ZT
open PySem PySem.Spec PyProof.Rows
open Sem (wp)
section
variable {prog:Program} {w:World} {A:Around} {E:Value → Shared → Prop} {s:Shared}
end
section
variable {prog:Program} {w:World} {A:Around} {E:Value → Shared → Prop} {s:Shared}
end
end ZT
namespace MR
open PySem PySem.Spec PyProof.Rows L2
section
variable {X:Cx} {elts:List Expr} {x1:Nat} {tpos:Pos}
end
end MR
set_option Elab.async false
set_option linter.all false
set_option maxRecDepth 100000
set_option maxHeartbeats 4000000
namespace MR
open PySem PySem.Spec PyProof.Rows L2
theorem Ml:∀ (names:List (Str × NameKind)) (n:Nat) (acc:List (Str × Addr)) (x:Str) (c:Addr),(cellsFrom n names acc).lookup x = some c → ((x,NameKind.cell) ∈ names ∧ n ≤ c) ∨ acc.lookup x = some c
  | [],n,acc,x,c,h=>.inr h
  | (y,k) :: r,n,acc,x,c,h=>by
    unfold cellsFrom at h
    split at h
    · rename_i hk
      have hk':k = .cell:=by simpa using hk
      rcases Ml r (n + 1) _ x c h with ⟨a,b⟩ | q
      · exact .inl ⟨List.mem_cons_of_mem _ a,by omega⟩
      · rw [List.lookup_cons] at q
        cases hx:x == y with
        | true => rw [hx] at q; simp at q; have : x = y := by simpa using hx
                  subst this; subst hk'; subst q
                  exact .inl ⟨List.mem_cons_self ..,Nat.le_refl _⟩
        | false=>rw [hx] at q; exact .inr q
    · rcases Ml r n acc x c h with ⟨a,b⟩ | q
      · exact .inl ⟨List.mem_cons_of_mem _ a,b⟩
      · exact .inr q
theorem Qr:∀ (names:List (Str × NameKind)) (n:Nat) (acc:List (Str × Addr)) (x:Str),(x,NameKind.cell) ∉ names → (cellsFrom n names acc).lookup x = acc.lookup x
  | [],n,acc,x,h=>rfl
  | (y,k) :: r,n,acc,x,h=>by
    unfold cellsFrom
    have h2:(x,NameKind.cell) ∉ r:=fun q=>h (List.mem_cons_of_mem _ q)
    split
    · rename_i hk
      have hk':k = .cell:=by simpa using hk
      rw [Qr r (n + 1) _ x h2,List.lookup_cons]
      cases hx:x == y with
      | true => have : x = y := by simpa using hx
                subst this; subst hk'
                exact absurd (List.mem_cons_self ..) h
      | false=>rfl
    · exact Qr r n acc x h2
theorem Tw:∀ (names:List (Str × NameKind)) (n:Nat) (acc:List (Str × Addr)),(∀ x c,acc.lookup x = some c → c < n) → (∀ x y c,acc.lookup x = some c → acc.lookup y = some c → x = y) → ∀ x y c,(cellsFrom n names acc).lookup x = some c → (cellsFrom n names acc).lookup y = some c → x = y
  | [],n,acc,_,h,x,y,c,a,b=>h x y c a b
  | (z,k) :: r,n,acc,h1,h2,x,y,c,a,b=>by
    unfold cellsFrom at a b
    split at a
    · rw [if_pos (by assumption)] at b
      refine Tw r (n + 1) ((z,n) :: acc) (fun u v q=>?_) (fun u v w q1 q2=>?_) x y c a b
      · rw [List.lookup_cons] at q
        cases hx:u == z with
        | true=>rw [hx] at q; simp at q; subst q; exact Nat.lt_succ_self _
        | false=>rw [hx] at q; exact Nat.lt_succ_of_lt (h1 u v q)
      · rw [List.lookup_cons] at q1 q2
        cases hu:u == z with
        | true=>
          rw [hu] at q1; simp at q1
          cases hv:v == z with
          | true => have e1 : u = z := by simpa using hu
                    have e2:v = z:=by simpa using hv
                    rw [e1,e2]
          | false=>rw [hv] at q2; subst q1; exact absurd (h1 v _ q2) (Nat.lt_irrefl _)
        | false=>
          rw [hu] at q1
          cases hv:v == z with
          | true=>rw [hv] at q2; simp at q2; subst q2; exact absurd (h1 u _ q1) (Nat.lt_irrefl _)
          | false=>rw [hv] at q2; exact h2 u v w q1 q2
    · rw [if_neg (by assumption)] at b
      exact Tw r n acc h1 h2 x y c a b
theorem Ob:∀ (names:List (Str × NameKind)) (h:Heap) (acc:List (Str × Addr)),(∀ x c,acc.lookup x = some c → ∃ v,h.IsCell c v) → ∀ x c,(cellsFrom h.objs.size names acc).lookup x = some c → ∃ v,(pushCells h names).IsCell c v
  | [],h,acc,q,x,c,e=>q x c e
  | (y,k) :: r,h,acc,q,x,c,e=>by
    unfold cellsFrom at e
    unfold pushCells
    split at e
    · rw [if_pos (by assumption)]
      have hz:h.objs.size + 1 = (h.push { cls:=.type "cell",data:=.cell none }).objs.size:=(Heap.size_push ..).symm
      rw [hz] at e
      refine Ob r _ _ (fun u v z=>?_) x c e
      rw [List.lookup_cons] at z
      cases hx:u == y with
      | true=>rw [hx] at z; simp at z; subst z; exact ⟨none,⟨_,Heap.get?_push_size _ rfl,rfl⟩⟩
      | false=>rw [hx] at z; obtain ⟨w,hw⟩:=q u v z; exact ⟨w,hw.keeps fun b o e=>Heap.get?_push_of_some _ e⟩
    · rw [if_neg (by assumption)]
      exact Ob r h acc q x c e
theorem Ud:∀ (names:List (Str × NameKind)) (n:Nat) (acc:List (Str × Addr)) (x:Str) (c:Addr) (n0:Nat),n0 ≤ n → ((x,NameKind.cell) ∈ names ∨ ∀ c':Addr,acc.lookup x = some c' → n0 ≤ c') → (cellsFrom n names acc).lookup x = some c → n0 ≤ c
  | [],n,acc,x,c,n0,_,h,e=>by
    rcases h with h | h
    · cases h
    · exact h c e
  | (y,k) :: r,n,acc,x,c,n0,hn,h,e=>by
    unfold cellsFrom at e
    split at e
    · rename_i hk
      refine Ud r (n + 1) _ x c n0 (Nat.le_succ_of_le hn) ?_ e
      cases hx:x == y with
      | true=>right; intro c' q; rw [List.lookup_cons,hx] at q; simp at q; subst q; exact hn
      | false=>
        rcases h with h | h
        · rcases List.mem_cons.mp h with q | q
          · have:x = y:=(Prod.mk.inj q).1
            rw [this] at hx; simp at hx
          · exact .inl q
        · right; intro c' q; rw [List.lookup_cons,hx] at q; exact h c' q
    · rename_i hk
      refine Ud r n acc x c n0 hn ?_ e
      rcases h with h | h
      · rcases List.mem_cons.mp h with q | q
        · have:NameKind.cell = k:=(Prod.mk.inj q).2
          rw [← this] at hk; simp at hk
        · exact .inl q
      · exact .inr h
theorem Xi {M:Model} {A:Around} {E:Value → Shared → Prop} {s:Shared} {scope:Scope} {globals:Addr} {closure:List (Str × Addr)} {qual:Str} {func:Option Addr} {code:Value} {outer:PySem.Env} {builtins:Addr} {Q:PySem.Env → Shared → Prop}
    (hQ:Q (newEnv scope s.heap.objs.size globals (cellsFrom (s.heap.objs.size + 1) scope.names closure) qual func code (some outer) builtins) { s with heap:=pushCells (s.heap.push { cls:=.type "dict",data:=.dict #[] }) scope.names }) :
    wpAny M A (newFunctionEnv scope globals closure [] qual func code (some outer) builtins) Q E s:=by
  simp only [newFunctionEnv,Option.isSome_some,if_true]
  refine wpAny_bind (wpAny_alloc ?_)
  refine wpAny_bind (wpAny_layCells _ (fun name kind cells=>by cases hkc:kind == NameKind.cell <;> simp [hkc]) _ _ _ _ ?_)
  rw [show ({ s with heap:=s.heap.push { cls:=.type "dict",data:=.dict #[] } }:Shared).heap.objs.size = s.heap.objs.size + 1 from Heap.size_push ..]
  rw [List.forIn_nil]
  exact wpAny_bind (wpAny_pure (wpAny_pure hQ))
structure CompScC (X:Cx) (scope:Scope) (N':List Str) (ix:List (Option Nat)):Prop where
  kind:scope.kind = .function
  own:(scope.names.all fun y=>scope.names.lookup y.1 == some y.2) = true
  free:(scope.names.all fun y=>y.2 != .free || (X.env.kindOf y.1 == some .cell || X.env.kindOf y.1 == some .free)) = true
  ixs:((N'.zip ix).all fun p=>match p.2 with | none=>true | some i=>(X.N[i]? == some p.1) && (scope.names.lookup p.1 == some .free)) = true
  len:N'.length = ix.length
def Ii (X:Cx) (scope:Scope) (cl:List (Str × Addr)) (C:Addr) (N':List Str) (s2:Shared) (H2:Hp) (fp:List Addr) (pins:List (Addr × Obj)):Cx:=
  { blk X scope (cellsFrom (C + 1) scope.names cl) C N' s2 H2 fp pins with fn:=fun x=>scope.names.lookup x == some .cell }
section
variable {X:Cx} {scope:Scope} {N':List Str} {ix:List (Option Nat)} {pins:List (Addr × Obj)} {σ:L2.St} {H2:Hp} {s2:Shared} {cl:List (Str × Addr)} {fp:List Addr}
theorem CompScC.lk (S:CompScC X scope N' ix) {x:Str} {k:NameKind} (h:(x,k) ∈ scope.names):scope.names.lookup x = some k:=by
  have:=List.all_eq_true.mp S.own _ h
  simpa using this
theorem Tu (S:CompScC X scope N' ix) (hcalm:X.calm = true) (I2:Inv X pins σ H2 s2) (hcl:∀ x c,cl.lookup x = some c → X.env.cells.lookup x = some c) (hcl2:∀ y ∈ scope.names,y.2 = .free → ∃ c,cl.lookup y.1 = some c)
    (f2:∀ b ∈ fp,Fu X pins H2 b) (hfp:∀ b ∈ fp,b < s2.heap.objs.size) {C:Addr} {h4:Heap} {m:Str → Option Value} {t4:Nat} (hC:s2.heap.objs.size ≤ C) (hns:h4.Ns C m) (keep:∀ b o,s2.heap.get? b = some o → h4.get? b = some o)
    (hcells:∀ x c,(cellsFrom (C + 1) scope.names cl).lookup x = some c → ∃ v,h4.IsCell c v) :
    Inv (Ii X scope cl C N' s2 H2 fp pins) [] (inner ix σ) H2 { s2 with heap:=h4,toks:=t4 }:=by
  have hkindC:(relabel scope X.env).kind = .function:=S.kind
  have clt:∀ x c,cl.lookup x = some c → c < s2.heap.objs.size:=fun x c e=>by
    obtain ⟨v,oc,ho,_⟩:=I2.cell x c (hcl x c e)
    exact Heap.lt_size ho
  have new:∀ x c,(cellsFrom (C + 1) scope.names cl).lookup x = some c → (C + 1 ≤ c) ∨ cl.lookup x = some c:=fun x c e=>by
    rcases Ml _ _ _ _ _ e with ⟨_,q⟩ | q
    · exact .inl q
    · exact .inr q
  have fr:∀ x,scope.names.lookup x = some .free → (cellsFrom (C + 1) scope.names cl).lookup x = cl.lookup x:=fun x hx=>Qr _ _ _ _ fun q=>by
    have:=S.lk q
    rw [hx] at this; cases this
  have ok:(Ii X scope cl C N' s2 H2 fp pins).Ok:=
    { mod:=I2.ok.mod
      kind:=hkindC
      glob:=I2.ok.glob
      blt:=I2.ok.blt
      above:=hC
      inj:=Tw _ _ _ (fun x c e=>Nat.lt_succ_of_lt (Nat.lt_of_lt_of_le (clt x c e) hC)) (fun x y c e1 e2=>I2.ok.inj x y c (hcl x c e1) (hcl y c e2))
      has:=fun x h=>by
        have h':(relabel scope X.env).names.lookup x = some .cell ∨ (relabel scope X.env).names.lookup x = some .free:=h
        have two:scope.names.lookup x = some .free ∨ scope.names.lookup x = some .cell:=by
          rcases h' with h' | h'
          · rcases Da h' with q | ⟨q,_⟩
            · exact .inr q
            · exact .inl q
          · rcases Da h' with q | ⟨q,z⟩
            · exact .inl q
            · cases z
        rcases two with hfree | hcell
        · obtain ⟨c,hc⟩:=hcl2 _ (Cz hfree) rfl
          exact ⟨c,(fr x hfree).trans hc⟩
        · exact Option.isSome_iff_exists.mp (PySem.W.cellsFrom_some _ _ _ (.inl hcell))
      cab:=fun x c h e=>by
        have hx:scope.names.lookup x = some .cell:=by
          have:(scope.names.lookup x == some NameKind.cell) = true:=h
          simpa using this
        exact Nat.le_trans hC (Nat.le_trans (Nat.le_succ _) (Ud _ _ _ _ _ (C + 1) (Nat.le_refl _) (.inl (Cz hx)) e))
      hd:=fun _=>I2.ok.hd hcalm
      frames:=I2.ok.frames
      stk:=.inl rfl
      exf:=fun b hb=>⟨Nat.ne_of_lt (Nat.lt_of_lt_of_le (hfp b hb) hC),fun x c e=>by
        rcases new x c e with q | q
        · intro z; subst z; exact absurd (Nat.lt_of_lt_of_le (hfp c hb) (Nat.le_trans hC (Nat.le_trans (Nat.le_succ _) q))) (Nat.lt_irrefl _)
        · exact (f2 b hb).2.2.2.2.1 x c (hcl x c q)⟩
      bs:=fun b o e=>I2.bs b o e
      bsz:=Nat.le_trans I2.ok.bsz I2.sz
      noex:=fun b o e hb=>by
        rcases (f2 b hb).2.2.2.1 with z | z
        · exact I2.ok.noex b o e z
        · exact absurd (Nat.lt_of_lt_of_le (Heap.lt_size (I2.ok.bs b o e).1) z) (Nat.lt_irrefl _)
      exfs:=fun b hb z=>by
        rcases List.mem_cons.mp (I2.stkSub b z) with q | q
        · exact (f2 b hb).2.1 q
        · exact (f2 b hb).2.2.1 q
      funs:=I2.stack
      frf:=I2.stkFree }
  obtain ⟨m0,hn0,hl0⟩:=id I2.loc
  refine ⟨ok,rfl,I2.bare,Un.kept keep,⟨m,hns,fun j x v e1 e2 e3=>?_⟩,fun x c e=>hcells x c e,I2.hok.fresh hC,fun x c e=>?_,fun p hp=>?_,I2.hok.kept keep,?_⟩
  · have e1':N'[j]? = some x:=e1
    have e2':(inner ix σ)[j]? = some (some v):=e2
    unfold inner at e2'
    rw [List.getElem?_map] at e2'
    cases hx:ix[j]? with
    | none=>rw [hx] at e2'; simp at e2'
    | some o=>
      rw [hx] at e2'
      cases o with
      | none=>simp at e2'
      | some i=>
        simp at e2'
        have hz:(x,some i) ∈ N'.zip ix:=List.mem_of_getElem? (i:=j) (by rw [List.getElem?_zip_eq_some]; exact ⟨e1',hx⟩)
        have hz':=List.all_eq_true.mp S.ixs _ hz
        simp only [Bool.and_eq_true,beq_iff_eq] at hz'
        obtain ⟨hXN,hfr⟩:=hz'
        have hσ:σ[i]? = some (some v):=by
          cases q:σ[i]? with
          | none=>rw [q] at e2'; simp at e2'
          | some o=>rw [q] at e2'; simp at e2'; rw [e2']
        have hk:=List.all_eq_true.mp S.free _ (Cz hfr)
        simp at hk
        have hvis:Vis X.env.scope x:=by
          rcases hk with q | q
          · exact .inr (.inl q)
          · exact .inr (.inr q)
        obtain ⟨u,r,look⟩:=hl0 i x v hXN hσ hvis
        rcases look with ⟨q,_⟩ | ⟨_,c,ec,hc⟩
        · rcases hk with z | z
          · rw [z] at q; cases q
          · rw [z] at q; cases q
        · obtain ⟨c',ec'⟩:=hcl2 _ (Cz hfr) rfl
          have:c' = c:=by have:=hcl x c' ec'; rw [ec] at this; cases this; rfl
          subst this
          refine ⟨u,r,.inr ⟨?_,c',(fr x hfr).trans ec',?_⟩⟩
          · rcases Dw (env:=X.env) hfr with q | q
            · exact .inr q
            · exact .inl q
          · obtain ⟨oc,ho,hd⟩:=hc
            exact ⟨oc,keep _ _ ho,hd⟩
  · rcases new x c e with q | q
    · exact I2.hok.fresh (Nat.le_trans hC (Nat.le_trans (Nat.le_succ _) q))
    · exact I2.freeC x c (hcl x c q)
  · have hp':p ∈ X.pn ++ pins:=by simpa [Ii,blk] using hp
    obtain ⟨q1,q2,q3,q4,q5⟩:=I2.pin p hp'
    refine ⟨keep _ _ q1,q2,Nat.ne_of_lt (Nat.lt_of_lt_of_le (Heap.lt_size q1) hC),fun z=>?_,q5⟩
    rcases List.mem_cons.mp (I2.stkSub p.1 z) with q | q
    · exact q3 q
    · exact q4 q
  · show (inner ix σ).length = N'.length
    rw [S.len]; simp [inner]
theorem Uj {elt tg iter:Expr} {ifs:List Expr} {pos:Pos} {g:TG} {tt:TT} {te:TE} {it:Addr} {J:It} {tn:Nat → Heap → Prop} {E:Value → Shared → Prop} {Fin:List V → Hp → Prop} {RR:Value → Addr → Result → Shared → Prop}
    (S:CompScC X scope N' ix) (hcalm:X.calm = true) (hcl:∀ x c,cl.lookup x = some c → X.env.cells.lookup x = some c) (hcl2:∀ y ∈ scope.names,y.2 = .free → ∃ c,cl.lookup y.1 = some c)
    (hg:∀ C,PG (Ii X scope cl C N' s2 H2 fp pins) tg g) (ht:∀ C,Ly (Ii X scope cl C N' s2 H2 fp pins) ifs tt) (he:∀ C,PE (Ii X scope cl C N' s2 H2 fp pins) elt te)
    (I2:Inv X pins σ H2 s2) (T:Turn X.prog X.w X.K tg J fp it tn) (st2:tn 0 s2.heap) (f2:∀ b ∈ fp,Fu X pins H2 b) (hloop:Wa J g tt te (inner ix σ) H2 Fin)
    (hRR:∀ (D C:Addr) (s':Shared) (H':Hp) (acc:List V),Inv X pins σ (upd H' D (.lst acc)) s' → H' D = none → (∃ m,s'.heap.Ns C m) → (upd H' D (.lst acc)) C = none → Fu X pins (upd H' D (.lst acc)) C → Fin acc H' → RR (.ref D) C (.ok .next) s') :
    wpAny (model X.prog X.w) X.A (newList []) (fun acc s₃=>wpAny (model X.prog X.w) X.A (newFunctionEnv scope X.env.globals cl [] X.env.qual none .none (some X.env)) (fun cenv s₄=>
      codeAny (model X.prog X.w) X.A (.compStart (.ListComp elt [⟨tg,iter,ifs,0⟩] scope pos) 0 (.ref it) acc { cenv with scope:=relabel scope X.env }) (RR acc cenv.locals) s₄) E s₃) E s2:=by
  refine wpAny_newObj_type (Xi ?_)
  dsimp only
  generalize hH2:s2.heap.push { cls:=.type "list",dict:=none,data:=.seq ([]:List Value).toArray } = HP
  have hCs:HP.objs.size = s2.heap.objs.size + 1:=by rw [← hH2,Heap.size_push]
  have hDC:s2.heap.objs.size ≠ HP.objs.size:=by rw [hCs]; exact Nat.ne_of_lt (Nat.lt_succ_self _)
  have hCle:s2.heap.objs.size ≤ HP.objs.size:=by rw [hCs]; exact Nat.le_succ _
  have hz1:(HP.push { cls:=.type "dict",data:=.dict #[] }).objs.size = HP.objs.size + 1:=Heap.size_push ..
  generalize h1eq:pushCells (HP.push { cls:=.type "dict",data:=.dict #[] }) scope.names = h₁
  have old:∀ b o,s2.heap.get? b = some o → h₁.get? b = some o:=fun b o e=>h1eq ▸ pushCells_keeps _ _ _ _ (Heap.get?_push_of_some _ (hH2 ▸ Heap.get?_push_of_some _ e))
  have hacc:h₁.get? s2.heap.objs.size = some (B3 [] 0):=h1eq ▸ pushCells_keeps _ _ _ _ (Heap.get?_push_of_some _ (hH2 ▸ Heap.get?_push_size _ rfl))
  have hns₁:h₁.Ns HP.objs.size (fun _=>none):=h1eq ▸ (Heap.Ns.new HP (.type "dict")).keeps (pushCells_keeps _ _)
  have hcells:∀ x c,(cellsFrom (HP.objs.size + 1) scope.names cl).lookup x = some c → ∃ v,h₁.IsCell c v:=fun x c e=>by
    rw [← hz1] at e
    rw [← h1eq]
    refine Ob _ _ _ (fun y d q=>?_) x c e
    obtain ⟨v,oc,ho,hd⟩:=I2.cell y d (hcl y d q)
    exact ⟨v,oc,Heap.get?_push_of_some _ (hH2 ▸ Heap.get?_push_of_some _ ho),hd⟩
  have hfp:∀ b ∈ fp,b < s2.heap.objs.size:=fun b hb=>by
    obtain ⟨o,e,_⟩:=T.obj _ _ st2 b hb
    exact Heap.lt_size e
  generalize hDg:s2.heap.objs.size = D at hDC hacc
  generalize hCg:HP.objs.size = C at *
  have hDle:s2.heap.objs.size ≤ D:=Nat.le_of_eq hDg
  have hD2:s2.heap.get? D = none:=by
    cases q:s2.heap.get? D with
    | none=>rfl
    | some o=>exact absurd (Nat.lt_of_lt_of_le (Heap.lt_size q) hDle) (Nat.lt_irrefl _)
  have I4:=Tu (t4:=s2.toks) S hcalm I2 hcl hcl2 f2 hfp hCle hns₁ old hcells
  have above:∀ a,s2.heap.objs.size ≤ a → a ∉ frs X.stack ∧ (∀ x c,X.env.cells.lookup x = some c → c ≠ a) ∧ (∀ p ∈ X.pn ++ pins,p.1 ≠ a) ∧ a ≠ X.env.locals:=fun a ha=>by
    refine ⟨fun z=>?_,fun x c e z=>?_,fun p hp z=>?_,?_⟩
    · rcases List.mem_cons.mp (I2.stkSub a z) with q | q
      · exact absurd (Nat.lt_of_lt_of_le I2.lt (q ▸ ha)) (Nat.lt_irrefl _)
      · exact I2.nofs ha q
    · obtain ⟨v,q⟩:=I2.cell x c e
      exact absurd (Nat.lt_of_lt_of_le q.lt (z ▸ ha)) (Nat.lt_irrefl _)
    · exact absurd (Nat.lt_of_lt_of_le (Heap.lt_size (I2.pin p hp).1) (z ▸ ha)) (Nat.lt_irrefl _)
    · intro z; exact absurd (Nat.lt_of_lt_of_le I2.lt (z ▸ ha)) (Nat.lt_irrefl _)
  have newc:∀ x c,(cellsFrom (C + 1) scope.names cl).lookup x = some c → (C + 1 ≤ c) ∨ X.env.cells.lookup x = some c:=fun x c e=>by
    rcases Ml _ _ _ _ _ e with ⟨_,q⟩ | q
    · exact .inl q
    · exact .inr (hcl x c q)
  have hfpX:∀ b ∈ fp,Fu (Ii X scope cl C N' s2 H2 fp pins) [] H2 b ∧ b ≠ D:=fun b hb=>by
    obtain ⟨q0,q1,q2,q3,q4,q5⟩:=f2 b hb
    have hlt:=hfp b hb
    refine ⟨⟨q0,Nat.ne_of_lt (Nat.lt_of_lt_of_le hlt hCle),fun z=>?_,.inl hb,fun x c e=>?_,fun p hp=>q5 p (by simpa [Ii,blk] using hp)⟩,Nat.ne_of_lt (Nat.lt_of_lt_of_le hlt hDle)⟩
    · rcases List.mem_cons.mp (I2.stkSub b z) with q | q
      · exact q1 q
      · exact q2 q
    · rcases newc x c e with q | q
      · intro z; subst z; exact absurd (Nat.lt_of_lt_of_le hlt (Nat.le_trans hCle (Nat.le_trans (Nat.le_succ _) q))) (Nat.lt_irrefl _)
      · exact q4 x c q
  have hDC':D < C:=by rw [← hDg,hCs]; exact Nat.lt_succ_self _
  have hDf:∀ H:Hp,H D = none → Fu (Ii X scope cl C N' s2 H2 fp pins) [] H D:=fun H hn=>by
    obtain ⟨a1,a2,a3,a4⟩:=above D hDle
    refine ⟨hn,hDC,a1,.inr hDle,fun x c e=>?_,fun p hp=>a3 p (by simpa [Ii,blk] using hp)⟩
    rcases newc x c e with q | q
    · intro z; subst z; exact absurd (Nat.lt_of_lt_of_le hDC' (Nat.le_trans (Nat.le_succ _) q)) (Nat.lt_irrefl _)
    · exact a2 x c q
  have hDn2:H2 D = none:=I2.hok.fresh hDle
  have I5:Inv (Ii X scope cl C N' s2 H2 fp pins) [(D,B3 [] 0)] (inner ix σ) H2 { s2 with heap:=h₁,toks:=s2.toks }:=I4.pins_of fun p hp=>by
    have:p = (D,B3 [] 0):=by simpa using hp
    subst this
    obtain ⟨_,d1,d2,_⟩:=hDf H2 hDn2
    exact ⟨hacc,hDn2,d1,d2,fun v z=>by simp [B3] at z⟩
  have st5:tn 0 h₁:=T.keep _ _ _ st2 fun b _ o e=>old b o e
  have loop:codeAny (model X.prog X.w) X.A (.compLoop (.ListComp elt [⟨tg,iter,ifs,0⟩] scope pos) 0 (.ref it) (.ref D) (Ii X scope cl C N' s2 H2 fp pins).env) (RR (.ref D) C) { s2 with heap:=h₁,toks:=s2.toks }:=by
    refine Pv (X':=Ii X scope cl C N' s2 H2 fp pins) ⟨rfl,rfl,rfl,rfl,hcalm,fun _ _ z=>z⟩ T (hg C) (ht C) (he C) hDle hDC hCle hfpX hDf I5 st5 (fun b hb=>(f2 b hb).1) hloop ?_
    intro s' σ' H' acc its n I hv hz fin
    obtain ⟨hDo,hDn,_⟩:=I.pin (D,B3 its n) (List.mem_append_right _ (List.mem_singleton.mpr rfl))
    have hbase:Un (frs X.stack) fp H2 H' s2.heap s'.heap:=I.base
    have hok:HOk X.prog X.w (upd H' D (.lst acc)) s'.heap:=HOk.adopt I.hok hDn ⟨hz,its,n,hv,hDo⟩
    have IX:Inv X pins σ (upd H' D (.lst acc)) s':=I2.call' I.os (Un.adopt hbase hDn hD2) hok I.bare fun b hb=>⟨(f2 b hb).2.2.2.1,(f2 b hb).2.1,(f2 b hb).2.2.2.2.1,(f2 b hb).2.2.2.2.2⟩
    obtain ⟨m,hm,_⟩:=I.loc
    have hCn:(upd H' D (.lst acc)) C = none:=by rw [Az (Ne.symm hDC)]; exact I.free
    obtain ⟨a1,a2,a3,a4⟩:=above C hCle
    refine hRR D C s' H' acc IX hDn ⟨m,hm⟩ hCn ⟨hCn,a4,fun z=>?_,.inr (Nat.le_trans I2.sz hCle),a2,a3⟩ fin
    exact I2.nofs hCle z
  exact codeAny_compStart_list loop (T.self _ 0 _ _ _ st5 loop)
theorem CompScC.names (S:CompScC X scope N' ix):∀ x ∈ scope.names,x.2 = .local → scope.names.lookup x.1 = some .local:=fun x hx hl=>by
  have:=S.lk (x:=x.1) (k:=x.2) hx
  rw [hl] at this
  exact this
theorem CompScC.clos (S:CompScC X scope N' ix) (ok:X.Ok):∃ cl,closureFor scope X.env = pure cl ∧ (∀ x c,cl.lookup x = some c → X.env.cells.lookup x = some c) ∧ ∀ y ∈ scope.names,y.2 = .free → ∃ c,cl.lookup y.1 = some c:=by
  refine Jw fun y hy hf=>?_
  have:=List.all_eq_true.mp S.free y hy
  rw [hf] at this
  simp at this
  exact ok.has y.1 this
theorem X9 {i:Nat} {y:Str} {py spos:Pos} {elt tg iter:Expr} {ifs:List Expr} {pos:Pos} {wi:TI} {g:TG} {tt:TT} {te:TE} (hN:X.N.Nodup) (hiN:X.N[i]? = some y) (hx:Loc X.env.scope y) (hf:X.fn y = true ∨ X.env.scope.names.lookup y = some .local)
    (S:CompScC X scope N' ix) (hcalm:X.calm = true) (hi:PI X tg iter wi)
    (hg:∀ cl C s2 H2 fp pins,PG (Ii X scope cl C N' s2 H2 fp pins) tg g) (ht:∀ cl C s2 H2 fp pins,Ly (Ii X scope cl C N' s2 H2 fp pins) ifs tt) (he:∀ cl C s2 H2 fp pins,PE (Ii X scope cl C N' s2 H2 fp pins) elt te)
    (hsw:swapsWith (.ListComp elt [⟨tg,iter,ifs,0⟩] scope pos) (some (.Name y py)) spos.line X.env = pure true)
    (hs:∀ x,foldedSetIterable iter X.env x = pure x:=by intro _; rfl):PS X (.Assign [.Name y py] (.ListComp elt [⟨tg,iter,ifs,0⟩] scope pos) spos) (Yp (Vf ix wi g tt te) (Na i)):=by
  intro pins s σ H Dn I h
  obtain ⟨cl,hclos,hcl,hcl2⟩:=S.clos I.ok
  rw [exec_Assign_Name_used _ _ _ _ hsw]
  refine wpAny_bind (wpAny_standAt (wpAny_bind ?_))
  show wpAny _ X.A (do let _ ← comprehension (.ListComp elt [⟨tg,iter,ifs,0⟩] scope pos) scope X.env _ (newList []) false (eval iter X.env) (some (assign (.Name y py) X.env))) _ _ s
  refine wpAny_bind (wpAny_mono (wpAny_comprehension_free (Q:=fun _ s'=>SP X pins Dn .next s') (use:=some (assign (.Name y py) X.env)) rfl hs hclos S.kind S.names (thn (hi pins s σ H _ I h) fun v s1 h1=>thn h1 fun itv s2 h2=>?_)) (fun _ s' hq=>wpAny_pure (wpAny_pure hq)) fun _ _ e=>e)
  obtain ⟨it,fp,tn,J,H2,e,I2,T,st2,f2,loop⟩:=h2
  subst e
  refine Uj (RR:=fun acc C=>compPost (model X.prog X.w) X.A X.xe (some (assign (.Name y py) X.env)) (fun _ s'=>SP X pins Dn .next s') acc C) S hcalm hcl hcl2 (fun C=>hg cl C s2 H2 fp pins) (fun C=>ht cl C s2 H2 fp pins) (fun C=>he cl C s2 H2 fp pins) I2 T st2 f2 loop ?_
  intro D C s' H' acc IX hDn ⟨m,hm⟩ hCn hC fin
  obtain ⟨c0,c1,c2,c3,c4,c5⟩:=hC
  obtain ⟨oC,es,ep,hoC,hdC,hrest⟩:=id hm
  have IP:Inv X (pins ++ [(C,oC)]) σ (upd H' D (.lst acc)) s':=IX.pins_of fun p hp=>by
    rcases List.mem_append.mp hp with z | z
    · exact IX.pin p (List.mem_append_right _ z)
    · have:p = (C,oC):=by simpa using z
      subst this
      exact ⟨hoC,c0,c1,c2,fun v z=>by rw [hdC] at z; cases z⟩
  have hq:Na i (.ref D) σ (upd H' D (.lst acc)) Dn.nx:=fin D hDn
  refine thn (Q6 (i:=i) (pos:=py) hN hiN hx hf (pins ++ [(C,oC)]) s' σ _ (.ref D) (.ref D) Dn.nx IP rfl hq) fun _ s'' ⟨σ'',H'',I'',q''⟩=>?_
  obtain ⟨p1,p2,p3,p4,p5⟩:=I''.pin (C,oC) (List.mem_append_right _ (List.mem_append_right _ (List.mem_singleton.mpr rfl)))
  refine ⟨m,⟨oC,es,ep,p1,hdC,hrest⟩,fun h' hsb=>?_⟩
  exact ⟨σ'',H'',(I''.unpinned).turned (t':=s''.toks) (fun b o hb e=>hsb.2 b hb |>.trans e) p2 p3 c3 c4 c5,q''⟩
end
section
variable {X:Cx} {scope:Scope} {N':List Str} {ix:List (Option Nat)} {elt tg iter c:Expr} {pos:Pos} {fi:FI} {g:FG} {ft:FT} {fe:FE}
theorem Xa {i:Nat} {y:Str} {py spos:Pos} (hN:X.N.Nodup) (S:CompScC X scope N' ix) (hcalm:X.calm = true) (hi:PIF X tg iter fi) (hg:∀ cl C s2 H2 fp pins,PGF (Ii X scope cl C N' s2 H2 fp pins) tg g) (he:∀ cl C s2 H2 fp pins,PEF (Ii X scope cl C N' s2 H2 fp pins) elt fe)
    (hiN:X.N[i]? = some y:=by rfl) (hx:Loc X.env.scope y:=by first | exact Or.inl rfl | exact Or.inr rfl) (hf:X.fn y = true ∨ X.env.scope.names.lookup y = some .local:=by first | exact .inl rfl | exact .inr rfl)
    (hsw:swapsWith (.ListComp elt [⟨tg,iter,[],0⟩] scope pos) (some (.Name y py)) spos.line X.env = pure true:=by rfl)
    (hs:∀ x,foldedSetIterable iter X.env x = pure x:=by intro _; rfl):PSF X (.Assign [.Name y py] (.ListComp elt [⟨tg,iter,[],0⟩] scope pos) spos) (Aw (Bb ix fi g none fe) (gN i)):=
  PS.imp (X9 (i:=i) (g:=lG X.K g) (te:=lE X.K fe) (tt:=Aat) hN hiN hx hf S hcalm hi hg (fun _ _ _ _ _ _=>Lp) he hsw hs) (Ur Kp)
end
end MR
set_option Elab.async false
set_option linter.all false
set_option maxRecDepth 100000
set_option maxHeartbeats 4000000
namespace MR
open PySem PySem.Spec PyProof.Rows L2
section
variable {X:Cx} {tg:Expr}
end
end MR
set_option Elab.async false
set_option linter.all false
set_option maxRecDepth 100000
set_option maxHeartbeats 4000000
namespace ZT
open PySem PySem.Spec PyProof.Rows
open Sem (wp)
section
variable {prog:Program} {w:World} {A:Around} {s:Shared} {R:Result → Shared → Prop}
variable {I:Addr} {fp wr:List Addr} {G:Array GenState → Array GenState → Prop} {n:Nat} {P:Nat → Value → Prop} {St:Nat → Shared → Prop}
end
section
variable {prog:Program} {w:World} {A:Around} {E:Value → Shared → Prop} {s:Shared}
variable {I:Addr} {fp wr:List Addr} {G:Array GenState → Array GenState → Prop} {n:Nat} {P:Nat → Value → Prop} {St:Nat → Shared → Prop}
end
end ZT
set_option Elab.async false
set_option linter.all false
set_option maxRecDepth 100000
set_option maxHeartbeats 4000000
namespace MR
open PySem PySem.Spec PyProof.Rows PySem.Calls L2
section
variable {X:Cx}
end
end MR
set_option Elab.async false
set_option linter.all false
set_option maxRecDepth 100000
set_option maxHeartbeats 4000000
namespace ZT
open PySem PySem.Spec PyProof.Rows HT
section
variable {prog:Program} {w:World} {A:Around} {E:Value → Shared → Prop} {s:Shared}
theorem Jl {t sl:Addr} {items:Array Value} {vl vu:Value} {lo hi:Option Int} {Q:Value → Shared → Prop} (ht:IsTup s.heap t items) (hs:s.heap.IsSliceOf sl vl vu .none) (pl:IsPart vl lo) (pu:IsPart vu hi)
    (hw:sIx items.size 0 lo = 0 ∧ sIx items.size items.size hi = items.size) (h:Q (.ref t) s):wpAny (model prog w) A (getItem (.ref t) (.ref sl)) Q E s:=by
  obtain ⟨os,hos,hcs,hds⟩:=id hs
  have hTs:s.TypeIs (.ref sl) "slice" := ⟨os,hos,hcs⟩
  unfold getItem
  try with_reducible refine wpAny_holding ?_
  first | refine wpAny_bind (wpAny_pure ?_) | skip
  refine wpAny_bind (wpAny_sequenceKey ht.typeIs (by decide) ?_)
  refine wpAny_bind (wpAny_callSpecial?_slot (name:=Str.ofString "__getitem__") ht.typeIs PyProof.Rows.slot_tuple_getitem
    (wpAny_call_entry PyProof.Rows.slot_tuple_getitem ht.typeIs entry_tuple_getitem ?_ (args_tuple_getitem _ _)))
  show wpAny _ _ (Builtin.Tuple.tupleItemsOf (.ref t) >>= _) _ _ s
  refine wpAny_bind (tupleItemsOf_ ht ?_)
  refine wpAny_bind (wpAny_typeOf hTs ?_)
  rw [if_pos (by decide)]
  refine wpAny_bind (Hb hs pl pu ?_)
  have hyes:((((sIx items.size 0 lo:Nat):Int) == 0 && (1:Int) == 1 && (sIx items.size items.size hi - sIx items.size 0 lo) == items.size) = true):=by
    rw [hw.1,hw.2]; simp
  show wpAny _ _ (if (((sIx items.size 0 lo:Nat):Int) == 0 && (1:Int) == 1 && (sIx items.size items.size hi - sIx items.size 0 lo) == items.size) = true then _ else _) _ _ s
  rw [if_pos hyes]
  unfold Builtin.Tuple.tupleIsExact
  refine wpAny_bind (wpAny_bind (wpAny_typeOf ht.typeIs (wpAny_pure ?_)))
  rw [if_pos (by decide)]
  refine wpAny_bind (wpAny_rule ?_)
  first
    | exact wpAny_pure ⟨_,rfl,wpAny_pure h⟩
    | exact wpAny_bind (wpAny_pure ⟨_,rfl,wpAny_pure h⟩)
    | exact wpAny_bind (wpAny_pure (wpAny_pure ⟨_,rfl,wpAny_pure h⟩))
    | trace_state
end
end ZT
namespace MR
open PySem PySem.Spec PyProof.Rows PySem.Calls L2
section
variable {X:Cx} {tg:Expr}
def Afc (K:PySem.W.Frag):V → Option Int → Option Int → Hp → VK → Prop:=fun x lo hi H Q=>∃ a xs,x = .ref a ∧ SqT K H a xs ∧ (HT.sIx xs.length 0 lo = 0 ∧ HT.sIx xs.length xs.length hi = xs.length) ∧ Q (.ref a) H
theorem Yz:SlR X (Afc X.K):=by
  intro pins s σ H x v vl vu lo hi sl Q I rx hs pl pu h
  obtain ⟨a,xs,rfl,hx,hw,q⟩:=h
  cases rx
  obtain ⟨its,r,ht,hz⟩:=I.tuple hx
  have hlen:its.toArray.size = xs.length:=by rw [List.size_toArray]; exact r.length.symm
  refine ⟨"tuple",_,PyProof.Rows.slot_tuple_getitem.lookup,ht.typeIs,?_⟩
  exact ZT.Jl ht hs pl pu (by rw [hlen]; exact hw) ⟨.ref a,H,I,rfl,q⟩
def Ge:SS:=fun u lo hi L=>match u with
  | .tup l=>if HT.sIx l.length 0 lo = 0 ∧ HT.sIx l.length l.length hi = l.length then some (.tup l,L) else some (.tup (Qy l lo hi),L)
  | .ref n=>(Ao L n).map fun l=>(.ref L.length,L ++ [.lst (Qy l lo hi)])
  | _=>none
theorem Ms:SlR X (fun x lo hi H Q=>Wh X.K x lo hi H Q ∨ Afc X.K x lo hi H Q):=Lh.or Yz
theorem M0 {K:PySem.W.Frag}:Vw K (fun x lo hi H Q=>Wh K x lo hi H Q ∨ Afc K x lo hi H Q) Ge:=by
  intro H α L u x lo hi z L' Q A ru e q
  cases u with
  | tup l=>
    by_cases hw:HT.sIx l.length 0 lo = 0 ∧ HT.sIx l.length l.length hi = l.length
    · unfold Ge at e
      simp only at e
      rw [if_pos hw] at e
      cases e
      have ru':=ru
      unfold RepU at ru
      obtain ⟨a,ys,rfl,sq,r2⟩:=ru
      exact .inr ⟨a,ys,rfl,sq,by rw [← r2.length]; exact hw,q _ H α (.refl _ _) A ru'⟩
    · refine .inl (Ix H α L (.tup l) x lo hi z L' Q A ru ?_ q)
      unfold Ge at e
      unfold Eu
      simp only at e ⊢
      rw [if_neg hw] at e ⊢
      exact e
  | ref n=>exact .inl (Ix H α L (.ref n) x lo hi z L' Q A ru e q)
  | _=>cases e
end
end MR
set_option Elab.async false
set_option linter.all false
set_option maxRecDepth 100000
set_option maxHeartbeats 4000000
namespace MR
open PySem PySem.Spec PyProof.Rows PySem.Calls L2
section
variable {X:Cx}
def Aei (K:PySem.W.Frag):R2:=fun x y H Q=>∃ a b ys,x = .ref a ∧ y = .ref b ∧ SqT K H a [] ∧ SqT K H b ys ∧ Q (.ref b) H
theorem Ad9:OpR X (binaryOp .Add) (Aei X.K):=by
  intro pins s σ H x y v u Q I rx ry h
  obtain ⟨a,b,ys,rfl,rfl,ha,hb,q⟩:=h
  cases rx
  cases ry
  obtain ⟨its,r1,p1,_⟩:=I.tuple ha
  obtain ⟨its2,r2,p2,_⟩:=I.tuple hb
  have he:its = []:=r1.nil_iff.mpr rfl
  obtain ⟨⟨cls,dd,data,sl⟩,ho,hc,n,hd⟩:=id p1
  obtain ⟨⟨cls2,dd2,data2,sl2⟩,ho2,hc2,n2,hd2⟩:=id p2
  simp only at hc hd hc2 hd2
  subst hc hd hc2 hd2
  exact concat_meets ⟨_,ho,rfl⟩ ⟨_,ho2,rfl⟩ noFill_tuple_add seq_tuple_add PySem.F.slot_tuple_add PySem.F.entry_tuple_add (PySem.F.args_tuple_add_2 _ _)
    (tuple_addW0 a b its.toArray its2.toArray n n2 dd dd2 sl sl2 (by simp [he])) ⟨ho,ho2,⟨.ref b,H,I,rfl,q⟩⟩
end
def Bd:S2:=fun u w L=>match u,w with
  | .tup [],.tup b=>some (.tup b,L)
  | u,w=>At u w L
def Aek (K:PySem.W.Frag):R2:=fun x y H Q=>Abc K x y H Q ∨ Aei K x y H Q
theorem D0 {X:Cx}:OpR X (binaryOp .Add) (Aek X.K):=B2.or Ad9
theorem C0 {K:PySem.W.Frag}:C4 K (Aek K) Bd:=by
  intro H α L u w x y z L' Q A ru rw e q
  unfold Bd at e
  split at e
  · cases e
    have rw':=rw
    unfold RepU at ru rw
    obtain ⟨a,xs,rfl,sq,r2⟩:=ru
    obtain ⟨b,ys,rfl,sq',r2'⟩:=rw
    unfold RepL at r2
    subst r2
    exact .inr ⟨a,b,ys,rfl,rfl,sq,sq',q _ H α (.refl _ _) A rw'⟩
  · exact .inl (B1 H α L _ _ x y z L' Q A ru rw e q)
@[simp] theorem Aet (i j:Int) (L:UH):Bd (.int i) (.int j) L = some (.int (i + j),L):=rfl
end MR
set_option Elab.async false
set_option linter.all false
set_option maxRecDepth 100000
set_option maxHeartbeats 4000000
namespace MR
open PySem PyProof.Rows L2
section
variable {X:Cx}
def Ah4 (i j:Int):Prop:=0 ≤ j ∧ (Builtin.Int.intBits i:Int) + j ≤ 2 ^ 27
theorem Abx:OpR X (binaryOp .LShift) (rI Ah4 fun i j=>.int (i * 2 ^ j.toNat)):=opI fun _ _ _ _ _ _ _ hc q=>lshift_int hc.1 hc.2 q
def Ae6:V → Option Int → Option Int → Hp → VK → Prop:=fun x lo hi H Q=>∃ a,x = .str a ∧ a.length ≤ sizeLine ∧ Q (.str (Txt.slice a lo hi)) H
theorem Aft:SlR X Ae6:=by
  intro pins s σ H x v vl vu lo hi sl Q I rx hs pl pu h
  obtain ⟨a,rfl,hl,q⟩:=h
  obtain ⟨t,rfl⟩:=rx
  refine ⟨"str",_,F.slot_str_getitem.lookup,typeIs_str _ _ _,?_⟩
  have fin:∀ (t':Tok) (k:Nat),EP X pins σ Q (.str (Txt.slice a lo hi) t') { s with toks:=k }:=fun t' k=>⟨.str (Txt.slice a lo hi),H,I.tok k,⟨_,rfl⟩,q⟩
  have hz:(Txt.slice a lo hi).length ≤ sizeLine:=Nat.le_trans (Txt.slice_le a _ _) hl
  cases pl with
  | none=>
    cases pu with
    | none=>exact wpAny_getItem_str_slice (l:=none) (u:=none) (st:=none) hs rfl (post_val_or_str ⟨hz,fin⟩)
    | int j tj=>exact wpAny_getItem_str_slice (l:=none) (u:=some (j,tj)) (st:=none) hs rfl (post_val_or_str ⟨hz,fin⟩)
  | int i ti=>
    cases pu with
    | none=>exact wpAny_getItem_str_slice (l:=some (i,ti)) (u:=none) (st:=none) hs rfl (post_val_or_str ⟨hz,fin⟩)
    | int j tj=>exact wpAny_getItem_str_slice (l:=some (i,ti)) (u:=some (j,tj)) (st:=none) hs rfl (post_val_or_str ⟨hz,fin⟩)
def Aeq:V → List V → Hp → VK → Prop:=fun x vs H Q=>∃ (a:Str) (l:Addr) (ys:List Str),x = .str a ∧ vs = [.ref l] ∧ H l = some (.lst (ys.map V.str)) ∧ a.length ≤ 16 ∧ (ys.map (·.length)).sum + ys.length ≤ 1048576 ∧ Q (.str (Txt.join a ys)) H
theorem Oj:∀ {its:List Value} {ys:List Str},Vals (ys.map V.str) its → StrsAre its ys
  | its,[],r=>by rw [List.map_nil] at r; cases r; exact .nil
  | its,y :: ys,r=>by
    rw [List.map_cons] at r
    cases r with
    | cons r1 r2=>
      obtain ⟨t',rfl⟩:=r1
      exact .cons _ _ (Oj r2)
theorem Ad4:MtR X "str.join" Aeq:=by
  intro pins s σ H x vs v us Q I rx rv h
  obtain ⟨a,l,ys,rfl,rfl,hH,ha,hw,q⟩:=h
  obtain ⟨t,rfl⟩:=rx
  obtain ⟨u,rfl,ru⟩:=rv.one
  cases ru
  obtain ⟨z,its,n,r,hl,e⟩:=I.lstM hH
  exact join_listW ⟨_,e,rfl,_,rfl⟩ (by simpa using Oj r) ha hw fun t' k=>⟨.str (Txt.join a ys),H,I.tok k,⟨_,rfl⟩,q⟩
end
def R7 (i j:Int):Bool:=decide (0 ≤ j) && decide ((Builtin.Int.intBits i:Int) + j ≤ 2 ^ 27)
def K7:S2:=Xr R7 fun i j=>.int (i * 2 ^ j.toNat)
theorem Aan {K:PySem.W.Frag}:C4 K (rI Ah4 fun i j=>.int (i * 2 ^ j.toNat)) K7:=Vk (fun i j h=>by simp only [R7,Bool.and_eq_true,decide_eq_true_eq] at h; exact h) fun _ _ _ _=>rfl
def Ei:SS:=fun u lo hi L=>match u with
  | .str x=>if B9 x.length = true then some (.str (Txt.slice x lo hi),L) else none
  | u=>Eu u lo hi L
theorem Q0 {X:Cx}:SlR X (fun x lo hi H Q=>Wh X.K x lo hi H Q ∨ Ae6 x lo hi H Q):=Lh.or Aft
theorem Qq {K:PySem.W.Frag}:Vw K (fun x lo hi H Q=>Wh K x lo hi H Q ∨ Ae6 x lo hi H Q) Ei:=by
  intro H α L u x lo hi z L' Q A ru e q
  cases u with
  | str a=>
    unfold Ei at e
    simp only at e
    split at e
    · rename_i hs
      cases e
      unfold RepU at ru
      subst ru
      exact .inr ⟨a,rfl,Dy hs,q _ H α (.refl _ _) A rfl⟩
    · cases e
  | tup l=>exact .inl (Ix H α L (.tup l) x lo hi z L' Q A ru e q)
  | ref n=>exact .inl (Ix H α L (.ref n) x lo hi z L' Q A ru e q)
  | _=>cases e
def toS:U → Option Str
  | .str a=>some a
  | _=>none
theorem Mj {K:PySem.W.Frag} {H:Hp} {α:List Addr}:∀ {us:List U} {xs:List V} {ys:List Str},RepL K H α us xs → mapO toS us = some ys → xs = ys.map V.str
  | [],xs,ys,r,e=>by
    unfold RepL at r
    cases e
    exact r
  | u :: us,xs,ys,r,e=>by
    unfold RepL at r
    obtain ⟨x,xr,rfl,rx,r⟩:=r
    unfold mapO at e
    obtain ⟨y,hy,e⟩:=Option.bind_eq_some_iff.mp e
    obtain ⟨yr,hyr,e⟩:=Option.map_eq_some_iff.mp e
    cases e
    cases u with
    | str a=>
      cases hy
      unfold RepU at rx
      rw [rx,Mj r hyr]; rfl
    | _=>cases hy
def Ho:SM:=fun u us L=>match u,us with
  | .str a,[.ref n]=>(Fc L n).bind fun l=>(mapO toS l).bind fun ys=>if a.length ≤ 16 ∧ (ys.map (·.length)).sum + ys.length ≤ 1048576 then some (.str (Txt.join a ys),L) else none
  | _,_=>none
theorem Aas {K:PySem.W.Frag}:Aaj K Aeq Ho:=by
  intro H α L u us x xs z L' Q A ru r e q
  unfold Ho at e
  split at e
  · obtain ⟨l,hl,e⟩:=Option.bind_eq_some_iff.mp e
    obtain ⟨ys,hys,e⟩:=Option.bind_eq_some_iff.mp e
    split at e
    · rename_i hc
      cases e
      unfold RepU at ru
      subst ru
      obtain ⟨v,rfl,rv⟩:=r.one
      obtain ⟨a',zs,rfl,ea,h,r2⟩:=M8 A hl rv
      rw [Mj r2 hys] at h
      exact ⟨_,a',ys,rfl,rfl,h,hc.1,hc.2,q _ H α (.refl _ _) A rfl⟩
    · cases e
  · cases e
end MR
namespace MR
open PySem PySem.W PyProof.Rows L2
theorem Nq:∀ (ns:List Int) (n:Int),n ∈ ns → Builtin.Int.intBits n ≤ WData.weightAll (ns.map WData.int)
  | [],_,h=>by cases h
  | m :: ns,n,h=>by
    have e:WData.weightAll ((m :: ns).map WData.int) = Builtin.Int.intBits m + 1 + WData.weightAll (ns.map WData.int):=by
      rw [List.map_cons,WData.weightAll,WData.weight]; rfl
    rw [e]
    rcases List.mem_cons.mp h with rfl | h
    · omega
    · have:=Nq ns n h; omega
theorem Pg {ns:List Int} (h:WData.layableAll [WData.list (ns.map WData.int)] = true):∀ n ∈ ns,Builtin.Int.intBits n ≤ 2 ^ 20:=by
  intro n hn
  unfold WData.layableAll at h
  rw [List.all_cons,Bool.and_eq_true] at h
  have h1:=h.1
  unfold WData.layable at h1
  rw [Bool.and_eq_true] at h1
  have h2:=of_decide_eq_true h1.2
  rw [WData.weight] at h2
  exact Nat.le_trans (Nq ns n hn) h2
end MR
namespace Att
open PySem PySem.W PySem.Calls PyProof.Rows L2 MR
theorem Ae8 {l:PySem.W.OpenLaw} {k:Nat} {q:Program} {loose:List Str} {XP:(Str → Option Value) → Heap → Prop} {YP:World → Heap → Prop} {d:DefRec} {K:Params → PySem.W.Frag} {m:FN} {x:Str}
    (hn:l.most = some 63) (hdf:d.params.defaults = []) (hr:Room k callerA) (hY:∀ (w:World) (h:Heap),YP w h → (K w.params).In h)
    (F:∀ (w:World) (mg:Str → Option Value) (fa:Addr) (h:Heap),(K w.params).In h → h.Ns mainGlobals mg → mg d.name = some (.ref fa) →
      ∃ fd:FuncData,(∀ (s:Shared) (u:Value),BindsTo s fd ⟨[u],[]⟩ [(x,u)]) ∧ ∀ base:Heap,(K w.params).In base → base.Ns mainGlobals mg → FnOk l.prog w (K w.params) mg base CX0 k fa fd [x] (spF (K w.params) 1 m))
    (ht:∀ ns:List Int,ns.length ≤ 63 → (∀ n ∈ ns,Builtin.Int.intBits n ≤ 2 ^ 20) → ∃ L',m [.ref 0] [.ro (ns.map U.int)] = some (.bl true,L')) :
    PySem.W.WalkO q loose XP YP l.row.toRowW d [] (fun f vs=>PySem.call f vs):=by
  intro w s₀ s₁ mg mb G Y fa o pm cd doc dV kV ho hd hcd hD hmg hg args vals as hpre hlay hrd hwl hlo
  obtain rfl:dV = .none:=Dflts.none hD hdf
  obtain rfl:kV = .none:=Dflts.noKw hD
  obtain ⟨a,vs,ns,rfl,rfl,hobj,hints,hlen⟩:=Wr hn hpre hwl
  have KX:=hY w _ Y
  obtain ⟨fd,hb,hF⟩:=F w mg fa _ KX G.T.g hmg
  have hwt:=Pg hlay
  have all:=Y6 KX G.T.g G.T.b G.T.builtins G.T.nolimit hg hobj hints (Nat.le_trans hlen (by decide)) hr hF hb (fun H hO hS=>Agp hO hS (ht ns hlen hwt)) fun H e s' z=>z
  refine enter_call (codeAny_mono all fun r s' hq=>?_)
  obtain ⟨rfl,h2,h3,h4⟩:=hq
  exact ⟨.inl ⟨.bool true,.bool true,[],rfl,fun _=>rfl,.bool true,Xt l _,fun _=>⟨List.Pairwise.nil,fun _ hm=>(nomatch hm)⟩⟩,h2,h3,h4⟩
end Att
set_option Elab.async false
set_option linter.all false
set_option maxRecDepth 100000
set_option maxHeartbeats 4000000
namespace MR
open PySem PyProof.Rows L2
def g0 (us ws:List Value):List Value:=match us with | []=>ws | _=>[]
section
variable {X:Cx} {k:Nat} {f:Addr} {fd:FuncData} {p:Str} {ps:List Str} {x:Str} {pp pos kpos:Pos} {e:Expr} {kws:List Keyword} {nm:Option Str}
theorem PK.imp {t t':TA} (h:PK X kws t) (hi:∀ σ H Q,t' σ H Q → t σ H Q):PK X kws t':=fun pos pins s σ H Q I q=>h pos pins s σ H Q I (hi σ H Q q)
end
end MR
set_option Elab.async false
set_option linter.all false
set_option maxRecDepth 100000
set_option maxHeartbeats 4000000
namespace MR
open PySem PySem.Spec PyProof.Rows PySem.Calls L2
section
variable {X:Cx}
end
end MR
set_option Elab.async false
set_option linter.all false
set_option maxRecDepth 100000
set_option maxHeartbeats 4000000
namespace MR
open PySem PySem.Spec PyProof.Rows PySem.Calls L2
section
variable {X:Cx}
end
end MR
set_option Elab.async false
set_option linter.all false
set_option maxRecDepth 100000
set_option maxHeartbeats 4000000
namespace MR
open PySem PyProof.Rows L2
theorem RepL.init {K:PySem.W.Frag} {H:Hp} {α:List Addr}:∀ {us:List U} {xs:List V},RepL K H α us xs → RepL K H α us.dropLast xs.dropLast
  | [],xs,r=>by unfold RepL at r; subst r; exact .nil
  | [u],xs,r=>by
    unfold RepL at r
    obtain ⟨x,xr,rfl,rx,r⟩:=r
    unfold RepL at r
    subst r
    exact .nil
  | u :: w :: us,xs,r=>by
    unfold RepL at r
    obtain ⟨x,xr,rfl,rx,r⟩:=r
    have r':=r
    unfold RepL at r'
    obtain ⟨y,yr,rfl,ry,_⟩:=r'
    exact .cons rx (RepL.init r)
end MR
set_option Elab.async false
set_option linter.all false
set_option maxRecDepth 100000
set_option maxHeartbeats 4000000
namespace MR
open PySem PyProof.Rows L2
def toK:U → Option Key
  | .int i=>some (.inl i)
  | .str x=>some (.inr x)
  | _=>none
theorem Afd {K:PySem.W.Frag} {H:Hp} {α:List Addr} {u:U} {x:V} {k:Key} (r:RepU K H α u x) (h:toK u = some k):x = kV k:=by
  cases u <;> simp only [toK] at h <;> first | (cases h; unfold RepU at r; exact r) | cases h
def Agz (kvs:List (Key × U)) (k:Key):Option U:=(kvs.find? fun kv=>decide (kv.1 = k)).map (·.2)
def Pc (kvs:List (Key × U)) (k:Key) (v:U):List (Key × U):=
  if (kvs.any fun kv=>decide (kv.1 = k)) = true then kvs.map (fun kv=>if kv.1 = k then (kv.1,v) else kv) else kvs ++ [(k,v)]
section
variable {K:PySem.W.Frag} {H:Hp} {α:List Addr}
def RepKV (K:PySem.W.Frag) (H:Hp) (α:List Addr) (kvs:List (Key × U)) (vs:List (Key × V)):Prop:=kvs.map (·.1) = vs.map (·.1) ∧ RepL K H α (kvs.map (·.2)) (vs.map (·.2))
theorem RepKV.nil:RepKV K H α [] []:=⟨rfl,.nil⟩
theorem RepKV.cons {kv:Key × U} {kvs:List (Key × U)} {vs:List (Key × V)} (h:RepKV K H α (kv :: kvs) vs):∃ x vs',vs = (kv.1,x) :: vs' ∧ RepU K H α kv.2 x ∧ RepKV K H α kvs vs':=by
  obtain ⟨h1,h2⟩:=h
  cases vs with
  | nil=>simp at h1
  | cons w vs'=>
    simp only [List.map_cons,List.cons.injEq] at h1
    rw [List.map_cons,List.map_cons] at h2
    unfold RepL at h2
    obtain ⟨x,xr,hx,rx,r⟩:=h2
    injection hx with e1 e2
    subst e1
    refine ⟨w.2,vs',by rw [h1.1],rx,h1.2,?_⟩
    rw [e2]; exact r
theorem RepKV.mk {k:Key} {u:U} {x:V} {kvs:List (Key × U)} {vs:List (Key × V)} (r:RepU K H α u x) (h:RepKV K H α kvs vs):RepKV K H α ((k,u) :: kvs) ((k,x) :: vs):=
  ⟨by simp [h.1],by rw [List.map_cons,List.map_cons]; exact .cons r h.2⟩
theorem RepKV.val {k:Key} {u:U}:∀ {kvs:List (Key × U)} {vs:List (Key × V)},RepKV K H α kvs vs → Agz kvs k = some u → ∃ x,Jk vs k = some x ∧ RepU K H α u x
  | [],vs,_,e=>by simp [Agz] at e
  | kv :: kvs,vs,r,e=>by
    obtain ⟨x,vs',rfl,rx,r'⟩:=r.cons
    unfold Agz at e
    unfold Jk
    rw [List.find?_cons] at e ⊢
    by_cases h:kv.1 = k
    · simp only [h,decide_true,Option.map_some] at e ⊢
      cases e
      exact ⟨x,rfl,rx⟩
    · simp only [h,decide_false] at e ⊢
      exact RepKV.val r' e
theorem RepKV.any {k:Key}:∀ {kvs:List (Key × U)} {vs:List (Key × V)},RepKV K H α kvs vs → (kvs.any fun kv=>decide (kv.1 = k)) = (vs.any fun kv=>decide (kv.1 = k))
  | [],vs,r=>by
    obtain ⟨h1,_⟩:=r
    cases vs with
    | nil=>rfl
    | cons _ _=>simp at h1
  | kv :: kvs,vs,r=>by
    obtain ⟨x,vs',rfl,rx,r'⟩:=r.cons
    rw [List.any_cons,List.any_cons,RepKV.any r']
theorem RepKV.len {kvs:List (Key × U)} {vs:List (Key × V)} (r:RepKV K H α kvs vs):kvs.length = vs.length:=by
  have:=congrArg List.length r.1
  simpa using this
theorem RepKV.upd {k:Key} {u:U} {x:V} (ru:RepU K H α u x):∀ {kvs:List (Key × U)} {vs:List (Key × V)},RepKV K H α kvs vs → RepKV K H α (kvs.map fun kv=>if kv.1 = k then (kv.1,u) else kv) (vs.map fun kv=>if kv.1 = k then (kv.1,x) else kv)
  | [],vs,r=>by
    obtain ⟨h1,_⟩:=r
    cases vs with
    | nil=>exact .nil
    | cons _ _=>simp at h1
  | kv :: kvs,vs,r=>by
    obtain ⟨y,vs',rfl,ry,r'⟩:=r.cons
    rw [List.map_cons,List.map_cons]
    by_cases h:kv.1 = k
    · rw [if_pos h,if_pos h]
      exact .mk ru (RepKV.upd ru r')
    · rw [if_neg h,if_neg h]
      exact .mk ry (RepKV.upd ru r')
theorem RepKV.add {k:Key} {u:U} {x:V} (ru:RepU K H α u x):∀ {kvs:List (Key × U)} {vs:List (Key × V)},RepKV K H α kvs vs → RepKV K H α (kvs ++ [(k,u)]) (vs ++ [(k,x)])
  | [],vs,r=>by
    obtain ⟨h1,_⟩:=r
    cases vs with
    | nil=>exact .mk ru .nil
    | cons _ _=>simp at h1
  | kv :: kvs,vs,r=>by
    obtain ⟨y,vs',rfl,ry,r'⟩:=r.cons
    exact .mk ry (RepKV.add ru r')
theorem RepKV.put {k:Key} {u:U} {x:V} {kvs:List (Key × U)} {vs:List (Key × V)} (ru:RepU K H α u x) (r:RepKV K H α kvs vs):RepKV K H α (Pc kvs k u) (Ik vs k x):=by
  unfold Pc Ik
  rw [r.any]
  split
  · exact r.upd ru
  · exact r.add ru
theorem RepKV.mono {H':Hp} {α':List Addr} {kvs:List (Key × U)} {vs:List (Key × V)} (r:RepKV K H α kvs vs) (g:Gr H α H' α'):RepKV K H' α' kvs vs:=⟨r.1,r.2.mono g⟩
end
def Nv (L:UH) (n:Nat):Option (List (Key × U)):=match L[n]? with
  | some (.dic kvs)=>some kvs
  | _=>none
theorem Ua {L:UH} {n:Nat} {kvs:List (Key × U)} (h:Nv L n = some kvs):L[n]? = some (.dic kvs):=by
  unfold Nv at h
  split at h
  · rename_i e; cases h; exact e
  · cases h
theorem Uv {K:PySem.W.Frag} {H:Hp} {α:List Addr} {L:UH} {n:Nat} {x:V} {kvs:List (Key × U)} (A:Abs K H α L) (h:Nv L n = some kvs) (r:RepU K H α (.ref n) x):∃ a vs,x = .ref a ∧ α[n]? = some a ∧ H a = some (.dK vs) ∧ RepKV K H α kvs vs:=by
  unfold RepU at r
  obtain ⟨a,ea,rfl⟩:=r
  obtain ⟨vs,e,k1,k2⟩:=A.rep n a _ ea (Ua h)
  exact ⟨a,vs,rfl,ea,e,k1,k2⟩
section
variable {X:Cx} {o i value:Expr} {pos pos':Pos} {fo fi fv:FE}
end
end MR
set_option Elab.async false
set_option linter.all false
set_option maxRecDepth 100000
set_option maxHeartbeats 4000000
namespace MR
open PySem PyProof.Rows L2
theorem Ajr {β:Type} {P:List β → Prop} (h:P []) (us:List β) (hl:us.length = 0):P us:=by
  cases us with
  | nil=>exact h
  | cons=>cases hl
theorem Ah1 {β:Type} {n:Nat} {P:List β → Prop} (h:∀ (a:β) (us:List β),us.length = n → P (a :: us)) (us:List β) (hl:us.length = n + 1):P us:=by
  cases us with
  | nil=>cases hl
  | cons a us=>exact h a us (Nat.succ.inj hl)
theorem Ko {β:Type} {P:List β → Prop} (h:∀ a,P [a]):∀ us:List β,us.length = 1 → P us:=Ah1 fun a=>Ajr (h a)
theorem O1 {β:Type} {P:List β → Prop} (h:∀ a b,P [a,b]):∀ us:List β,us.length = 2 → P us:=Ah1 fun a=>Ko (h a)
section
variable {X:Cx} {elts:List Expr} {x1:Nat} {tpos:Pos}
def Nm (g:FA):FI:=fun δ L=>(g δ L).bind fun p=>match p.1 with
  | [.tup us,.tup ws]=>some (.seq (Ea us ws),p.2)
  | _=>none
theorem Sd {a b:Expr} {g:FA} {p pos:Pos} (hg:Gl X "zip") (hm:X.mg "zip" = none) (ha:PAF X [a,b] g) (hs:starEach [a,b] X.env = (false,eval a X.env) :: starEach [b] X.env:=by rfl) (hpl:(backTo pos (starEach [b] X.env)).any (·.1) = false:=by rfl):PIF X (.Tuple elts x1 tpos) (.Call (.Name "zip" p) [a,b] [] pos) (Nm g):=by
  refine PI.imp (U6 hg hm ha hs hpl) ?_
  rintro σ H R ⟨α,δ,L,A,S,i,L3,e,q⟩
  obtain ⟨⟨us,L1⟩,e1,ee⟩:=Option.bind_eq_some_iff.mp e
  simp only at ee
  split at ee
  · cases ee
    refine ⟨α,δ,L,A,S,_,_,e1,fun xs H1 α1 g1 A1 r1=>?_⟩
    obtain ⟨x,y,rfl,rx,ry⟩:=r1.two
    unfold RepU at rx ry
    obtain ⟨a',ys,rfl,sq,r2⟩:=rx
    obtain ⟨b',ys',rfl,sq',r2'⟩:=ry
    exact ⟨a',b',ys,ys',rfl,sq,sq',q _ H1 α1 g1 A1 (S0 sq sq' r2 r2')⟩
  · cases ee
end
end MR
set_option Elab.async false
set_option linter.all false
set_option maxRecDepth 100000
set_option maxHeartbeats 1000000
namespace SO
open PySem PySem.W PyProof.Rows
def On {α:Type} (n:Nat) (lt:Nat → Nat → Bool) (P:α → Prop):KasT α → Prop
  | .ret a=>P a
  | .ask i j k=>i < n ∧ j < n ∧ On n lt P (k (lt i j))
theorem On.bind {α β:Type} {n:Nat} {lt:Nat → Nat → Bool} {P:α → Prop} {Q:β → Prop} {f:α → KasT β} (hf:∀ a,P a → On n lt Q (f a)):∀ {t:KasT α},On n lt P t → On n lt Q (t.bind f)
  | .ret a,h=>hf a h
  | .ask i j k,h=>⟨h.1,h.2.1,On.bind hf h.2.2⟩
theorem On.imp {α:Type} {n:Nat} {lt:Nat → Nat → Bool} {P Q:α → Prop} (hf:∀ a,P a → Q a):∀ {t:KasT α},On n lt P t → On n lt Q t
  | .ret a,h=>hf a h
  | .ask i j k,h=>⟨h.1,h.2.1,On.imp hf h.2.2⟩
theorem On.wp {α:Type} {n:Nat} {lt:Nat → Nat → Bool} {P:α → Prop} {cmp:Nat → Nat → (Bool → Shared → Prop) → Shared → Prop} {s:Shared} {Q:α → Shared → Prop} (hc:∀ i j C,i < n → j < n → C (lt i j) s → cmp i j C s) (hq:∀ a,P a → Q a s):∀ {t:KasT α},On n lt P t → t.kasWp cmp Q s
  | .ret a,h=>hq a h
  | .ask i j k,h=>hc i j _ h.1 h.2.1 (On.wp hc hq h.2.2)
structure Wo (lt:Nat → Nat → Bool):Prop where
  asym:∀ i j,lt i j = true → lt j i = false
  tr:∀ i j k,lt j i = false → lt k j = false → lt k i = false
section
variable {lt:Nat → Nat → Bool} {n:Nat}
def Le (lt:Nat → Nat → Bool) (i j:Nat):Prop:=lt j i = false
def Eqv (lt:Nat → Nat → Bool) (i j:Nat):Prop:=Le lt i j ∧ Le lt j i
theorem Wo.refl (W:Wo lt) (i:Nat):Le lt i i:=by
  unfold Le
  cases h:lt i i with
  | false=>rfl
  | true=>have:=W.asym i i h; rw [h] at this; cases this
theorem Wo.le (W:Wo lt) {i j:Nat} (h:lt i j = true):Le lt i j:=W.asym i j h
theorem Wo.trans (W:Wo lt) {i j k:Nat} (h1:Le lt i j) (h2:Le lt j k):Le lt i k:=W.tr i j k h1 h2
def at0 (p:Array Nat) (i:Nat):Nat:=p.getD i 0
theorem No {p q:Array Nat} {i j:Nat} (h:p[i]? = q[j]?):at0 p i = at0 q j:=by
  unfold at0
  rw [Array.getD_eq_getD_getElem?,Array.getD_eq_getD_getElem?,h]
structure Pm (n:Nat) (p:Array Nat):Prop where
  size:p.size = n
  perm:p.toList.Perm (List.range n)
theorem Pm.bd {p:Array Nat} (h:Pm n p) (h0:0 < n) (i:Nat):at0 p i < n:=by
  unfold at0
  rw [Array.getD_eq_getD_getElem?]
  cases hi:p[i]? with
  | none=>exact h0
  | some x=>
    have:x ∈ p.toList:=by
      rw [← Array.getElem?_toList] at hi
      exact List.mem_of_getElem? hi
    exact List.mem_range.mp (h.perm.mem_iff.mp this)
def Up (lt:Nat → Nat → Bool) (p:Array Nat) (k:Nat):Prop:=∀ i j,i ≤ j → j < k → Le lt (at0 p i) (at0 p j)
def Dn (lt:Nat → Nat → Bool) (p:Array Nat) (k:Nat):Prop:=∀ i j,i ≤ j → j < k → Le lt (at0 p j) (at0 p i)
theorem Up.one (W:Wo lt) (p:Array Nat):Up lt p 1:=fun i j h1 h2=>by
  have:i = j:=by omega
  subst this; exact W.refl _
theorem Up.snoc (W:Wo lt) {p:Array Nat} {m:Nat} (h:Up lt p m) (hm:1 ≤ m) (hl:Le lt (at0 p (m - 1)) (at0 p m)):Up lt p (m + 1):=fun i j h1 h2=>by
  by_cases hj:j < m
  · exact h i j h1 hj
  · have hj:j = m:=by omega
    subst hj
    by_cases hi:i = j
    · subst hi; exact W.refl _
    · exact W.trans (h i (j - 1) (by omega) (by omega)) hl
theorem Dn.snoc (W:Wo lt) {p:Array Nat} {m:Nat} (h:Dn lt p m) (hm:1 ≤ m) (hl:Le lt (at0 p m) (at0 p (m - 1))):Dn lt p (m + 1):=fun i j h1 h2=>by
  by_cases hj:j < m
  · exact h i j h1 hj
  · have hj:j = m:=by omega
    subst hj
    by_cases hi:i = j
    · subst hi; exact W.refl _
    · exact W.trans hl (h i (j - 1) (by omega) (by omega))
theorem Iw {p:Array Nat} {i j:Nat} (hj:j ≤ p.size) (k:Nat):at0 (kas_rev p i j) k = if i ≤ k ∧ k < j then at0 p (i + j - 1 - k) else at0 p k:=by
  have h:=getElem?_mirror_all (xs:=p) (i:=i) hj k
  unfold kas_rev
  split
  · rename_i hc; rw [if_pos hc] at h; exact No h
  · rename_i hc; rw [if_neg hc] at h; exact No h
theorem Pm.rev {p:Array Nat} (h:Pm n p) (i j:Nat):Pm n (kas_rev p i j):=⟨by unfold kas_rev; rw [mirror_size]; exact h.size,(mirror_perm p i j _).toList.trans h.perm⟩
theorem Pm.bub {p:Array Nat} (h:Pm n p) (i j:Nat):Pm n (bubble p i j):=⟨by rw [bubble_size]; exact h.size,(bubble_perm p i j).toList.trans h.perm⟩
theorem Yh {p:Array Nat} {k l:Nat} (hk:k < p.size) (hl:l ≤ k) (i:Nat):at0 (bubble p k (k - l)) i = if i = l then at0 p k else if l < i ∧ i ≤ k then at0 p (i - 1) else at0 p i:=by
  have h:=getElem?_bubble (xs:=p) hk (k - l) (by omega) i
  have e:k - (k - l) = l:=by omega
  rw [e] at h
  split
  · rename_i hc; rw [if_pos hc] at h; exact No h
  · rename_i hc
    rw [if_neg hc] at h
    split
    · rename_i hd; rw [if_pos hd] at h; exact No h
    · rename_i hd; rw [if_neg hd] at h; exact No h
theorem Tp (W:Wo lt) {p:Array Nat} {nrem:Nat} (h0:0 < n) (hp:Pm n p):∀ (f m:Nat),1 ≤ m → m + f = nrem → Up lt p m → On n lt (fun m'=>m ≤ m' ∧ m' ≤ nrem ∧ Up lt p m' ∧ (m' = nrem ∨ lt (at0 p m') (at0 p (m' - 1)) = true)) (kas_asc p f m)
  | 0,m,h1,hf,hu=>⟨Nat.le_refl _,by omega,hu,.inl (by omega)⟩
  | f + 1,m,h1,hf,hu=>by
    refine ⟨hp.bd h0 _,hp.bd h0 _,?_⟩
    show On n lt _ (if lt (at0 p m) (at0 p (m - 1)) = true then KasT.ret m else kas_asc p f (m + 1))
    cases hl:lt (at0 p m) (at0 p (m - 1)) with
    | true=>exact ⟨Nat.le_refl _,by omega,hu,.inr hl⟩
    | false=>
      exact (Tp W h0 hp f (m + 1) (by omega) (by omega) (hu.snoc W h1 hl)).imp fun m' ⟨a,b,c⟩=>⟨by omega,b,c⟩
def Tl (lt:Nat → Nat → Bool) (p:Array Nat) (m q:Nat):Prop:=∀ i,m - (q + 1) ≤ i → i < m → Eqv lt (at0 p i) (at0 p (m - 1))
theorem Tl.rev (W:Wo lt) {p:Array Nat} {m q:Nat} (h:Tl lt p m q) (hq:q < m) (hm:m ≤ p.size) (k:Nat):Eqv lt (at0 (kas_rev p (m - (q + 1)) m) k) (at0 p k):=by
  rw [Iw hm]
  split
  · rename_i hc
    have a:=h (m - (q + 1) + m - 1 - k) (by omega) (by omega)
    have b:=h k hc.1 hc.2
    exact ⟨W.trans a.1 b.2,W.trans b.1 a.2⟩
  · exact ⟨W.refl _,W.refl _⟩
theorem Dn.eqv (W:Wo lt) {p p':Array Nat} {m:Nat} (h:Dn lt p m) (he:∀ k,Eqv lt (at0 p' k) (at0 p k)):Dn lt p' m:=fun i j h1 h2=>W.trans (he j).1 (W.trans (h i j h1 h2) (he i).2)
theorem Mx (W:Wo lt) {nrem:Nat} (h0:0 < n) (hz:nrem ≤ n):∀ (f:Nat) (p:Array Nat) (m q:Nat),Pm n p → 1 ≤ m → m + f = nrem → Dn lt p m → q < m → Tl lt p m q →
    On n lt (fun r=>Pm n r.1 ∧ 1 ≤ r.2.1 ∧ r.2.1 ≤ nrem ∧ Dn lt r.1 r.2.1 ∧ r.2.2 < r.2.1 ∧ Tl lt r.1 r.2.1 r.2.2) (kas_desc f p m q)
  | 0,p,m,q,hp,h1,hf,hd,hq,ht=>⟨hp,h1,(by show m ≤ nrem; omega),hd,hq,ht⟩
  | f + 1,p,m,q,hp,h1,hf,hd,hq,ht=>by
    refine ⟨hp.bd h0 _,hp.bd h0 _,?_⟩
    show On n lt _ (if lt (at0 p m) (at0 p (m - 1)) = true then _ else _)
    have tl0:∀ p':Array Nat,Tl lt p' (m + 1) 0:=fun p' i i1 i2=>by
      have:i = m:=by omega
      subst this
      rw [Nat.add_sub_cancel]; exact ⟨W.refl _,W.refl _⟩
    cases hl:lt (at0 p m) (at0 p (m - 1)) with
    | true=>
      have hms:m ≤ p.size:=by rw [hp.size]; omega
      rw [if_pos rfl]
      by_cases hq0:q > 0
      · rw [if_pos hq0]
        have he:=ht.rev W hq hms
        have hm':at0 (kas_rev p (m - (q + 1)) m) m = at0 p m:=by rw [Iw hms,if_neg (by omega)]
        have hd':=(hd.eqv W he).snoc W h1 (by rw [hm']; exact W.trans (W.le hl) (he (m - 1)).2)
        exact Mx W h0 hz f _ (m + 1) 0 (hp.rev _ _) (by omega) (by omega) hd' (by omega) (tl0 _)
      · rw [if_neg hq0]
        exact Mx W h0 hz f p (m + 1) 0 hp (by omega) (by omega) (hd.snoc W h1 (W.le hl)) (by omega) (tl0 _)
    | false=>
      rw [if_neg (by simp)]
      refine ⟨hp.bd h0 _,hp.bd h0 _,?_⟩
      show On n lt _ (if lt (at0 p (m - 1)) (at0 p m) = true then _ else _)
      cases hl2:lt (at0 p (m - 1)) (at0 p m) with
      | true=>rw [if_pos rfl]; exact ⟨hp,h1,(by show m ≤ nrem; omega),hd,hq,ht⟩
      | false=>
        rw [if_neg (by simp)]
        refine Mx W h0 hz f p (m + 1) (q + 1) hp (by omega) (by omega) (hd.snoc W h1 hl2) (by omega) fun i i1 i2=>?_
        rw [Nat.add_sub_cancel]
        by_cases hi:i = m
        · subst hi; exact ⟨W.refl _,W.refl _⟩
        · have a:=ht i (by omega) (by omega)
          exact ⟨W.trans a.1 hl,W.trans hl2 a.2⟩
theorem V1 (W:Wo lt) {m nrem:Nat} {p:Array Nat} (h0:0 < n) (hz:nrem ≤ n) (hp:Pm n p) (h1:1 ≤ m) (hm:m ≤ nrem) (hd:Dn lt p m):On n lt (fun r=>Pm n r.2 ∧ 1 ≤ r.1 ∧ r.1 ≤ nrem ∧ Up lt r.2 r.1) (kas_tail3 m nrem p):=by
  have hms:m ≤ p.size:=by rw [hp.size]; omega
  have hu:Up lt (kas_rev p 0 m) m:=fun i j i1 i2=>by
    rw [Iw hms,Iw hms,if_pos (by omega),if_pos (by omega)]
    exact hd _ _ (by omega) (by omega)
  unfold kas_tail3
  exact On.bind (fun a ⟨a1,a2,a3,_⟩=>⟨hp.rev _ _,by omega,a2,a3⟩) (Tp (nrem:=nrem) W h0 (hp.rev 0 m) (nrem - m) m h1 (by omega) hu)
theorem Mb (W:Wo lt) {m nrem:Nat} {p:Array Nat} (h0:0 < n) (hz:nrem ≤ n) (hp:Pm n p) (hm:m + 1 ≤ nrem) (hd:Dn lt p (m + 1)):On n lt (fun r=>Pm n r.2 ∧ 1 ≤ r.1 ∧ r.1 ≤ nrem ∧ Up lt r.2 r.1) (kas_descPart m nrem p):=by
  unfold kas_descPart
  have tl0:Tl lt p (m + 1) 0:=fun i i1 i2=>by
    have:i = m:=by omega
    subst this
    rw [Nat.add_sub_cancel]; exact ⟨W.refl _,W.refl _⟩
  refine On.bind (fun r ⟨a1,a2,a3,a4,a5,a6⟩=>?_) (Mx W h0 hz (nrem - (m + 1)) p (m + 1) 0 hp (by omega) (by omega) hd (by omega) tl0)
  have hms:r.2.1 ≤ r.1.size:=by rw [a1.size]; omega
  split
  · exact V1 W h0 hz (a1.rev _ _) a2 a3 (a4.eqv W (a6.rev W a5 hms))
  · exact V1 W h0 hz a1 a2 a3 a4
theorem Abu (W:Wo lt) {nrem:Nat} {p:Array Nat} (h0:0 < n) (hz:nrem ≤ n) (h1:1 ≤ nrem) (hp:Pm n p):On n lt (fun r=>Pm n r.2 ∧ 1 ≤ r.1 ∧ r.1 ≤ nrem ∧ Up lt r.2 r.1) (kas_count nrem p):=by
  unfold kas_count
  refine On.bind (fun m ⟨a1,a2,a3,a4⟩=>?_) (Tp (nrem:=nrem) W h0 hp (nrem - 1) 1 (Nat.le_refl _) (by omega) (Up.one W p))
  by_cases hm:(m == nrem) = true
  · rw [if_pos hm]; exact ⟨hp,by omega,a2,a3⟩
  · rw [if_neg hm]
    have hne:m ≠ nrem:=by simpa using hm
    have hlt:lt (at0 p m) (at0 p (m - 1)) = true:=a4.resolve_left hne
    by_cases hm1:m > 1
    · rw [if_pos hm1]
      refine ⟨hp.bd h0 _,hp.bd h0 _,?_⟩
      show On n lt _ (if lt (at0 p 0) (at0 p (m - 1)) = true then _ else _)
      cases hl:lt (at0 p 0) (at0 p (m - 1)) with
      | true=>rw [if_pos rfl]; exact ⟨hp,by omega,a2,a3⟩
      | false=>
        rw [if_neg (by simp)]
        have hms:m ≤ p.size:=by rw [hp.size]; omega
        have hall:∀ i j,i < m → j < m → Le lt (at0 p i) (at0 p j):=fun i j i1 j1=>W.trans (a3 i (m - 1) (by omega) (by omega)) (W.trans hl (a3 0 j (by omega) j1))
        refine Mb W h0 hz (hp.rev 0 m) (by omega) ?_
        have hd:Dn lt (kas_rev p 0 m) m:=fun i j i1 i2=>by
          rw [Iw hms,Iw hms,if_pos (by omega),if_pos (by omega)]
          exact hall _ _ (by omega) (by omega)
        refine hd.snoc W (by omega) ?_
        rw [Iw hms,Iw hms,if_neg (by omega),if_pos (by omega)]
        exact W.trans (W.le hlt) (hall _ _ (by omega) (by omega))
    · rw [if_neg hm1]
      have:m = 1:=by omega
      subst this
      refine Mb W h0 hz hp (by omega) ?_
      have hd:Dn lt p 1:=fun i j h1 h2=>by
        have:i = j:=by omega
        subst this; exact W.refl _
      exact hd.snoc W (Nat.le_refl _) (W.le hlt)
theorem N2 (W:Wo lt) {p:Array Nat} {k:Nat} (h0:0 < n) (hp:Pm n p) (hu:Up lt p k):∀ (f l r:Nat),l ≤ r → r ≤ k → r - l ≤ f → (∀ i,i < l → Le lt (at0 p i) (at0 p k)) → (∀ i,r ≤ i → i < k → Le lt (at0 p k) (at0 p i)) →
    On n lt (fun l'=>l' ≤ k ∧ (∀ i,i < l' → Le lt (at0 p i) (at0 p k)) ∧ ∀ i,l' ≤ i → i < k → Le lt (at0 p k) (at0 p i)) (kas_place p k f l r)
  | 0,l,r,h1,h2,h3,h4,h5=>⟨by omega,h4,fun i i1 i2=>h5 i (by omega) i2⟩
  | f + 1,l,r,h1,h2,h3,h4,h5=>by
    unfold kas_place
    by_cases hlr:l ≥ r
    · rw [if_pos hlr]; exact ⟨by omega,h4,fun i i1 i2=>h5 i (by omega) i2⟩
    · rw [if_neg hlr]
      refine ⟨hp.bd h0 _,hp.bd h0 _,?_⟩
      show On n lt _ (if lt (at0 p k) (at0 p ((l + r) / 2)) = true then _ else _)
      cases hl:lt (at0 p k) (at0 p ((l + r) / 2)) with
      | true=>
        rw [if_pos rfl]
        exact N2 W h0 hp hu f l ((l + r) / 2) (by omega) (by omega) (by omega) h4 fun i i1 i2=>W.trans (W.le hl) (hu _ _ i1 i2)
      | false=>
        rw [if_neg (by simp)]
        exact N2 W h0 hp hu f ((l + r) / 2 + 1) r (by omega) h2 (by omega) (fun i i1=>W.trans (hu i ((l + r) / 2) (by omega) (by omega)) hl) h5
theorem Abn (W:Wo lt) (h0:0 < n):∀ (f:Nat) (p:Array Nat) (k:Nat),Pm n p → Up lt p k → k + f = n → On n lt (fun p'=>Pm n p' ∧ Up lt p' n) (kas_bin f p k)
  | 0,p,k,hp,hu,hk=>⟨hp,(show k = n by omega) ▸ hu⟩
  | f + 1,p,k,hp,hu,hk=>by
    unfold kas_bin
    refine On.bind (fun l ⟨a1,a2,a3⟩=>?_) (N2 W h0 hp hu k 0 k (by omega) (Nat.le_refl _) (by omega) (fun i h=>by omega) fun i h1 h2=>by omega)
    have hks:k < p.size:=by rw [hp.size]; omega
    refine Abn W h0 f _ (k + 1) (hp.bub _ _) (fun i j i1 i2=>?_) (by omega)
    rw [Yh hks a1,Yh hks a1]
    by_cases hi:i = l
    · rw [if_pos hi]
      by_cases hj:j = l
      · rw [if_pos hj]; exact W.refl _
      · rw [if_neg hj,if_pos (by omega)]; exact a3 _ (by omega) (by omega)
    · rw [if_neg hi]
      by_cases hi2:l < i ∧ i ≤ k
      · rw [if_pos hi2,if_neg (by omega),if_pos (by omega)]
        exact hu _ _ (by omega) (by omega)
      · rw [if_neg hi2]
        by_cases hj:j = l
        · rw [if_pos hj]; exact a2 _ (by omega)
        · rw [if_neg hj]
          by_cases hj2:l < j ∧ j ≤ k
          · rw [if_pos hj2]; exact hu _ _ (by omega) (by omega)
          · rw [if_neg hj2]; exact hu _ _ i1 (by omega)
theorem Q2 (W:Wo lt) (h0:0 < n):On n lt (fun p=>Pm n p ∧ Up lt p n) (kas_sort n):=by
  unfold kas_sort
  have hp:Pm n (List.toArray (List.range n)):=⟨by simp,by simp⟩
  refine On.bind (fun r ⟨a1,a2,a3,a4⟩=>?_) (Abu W h0 (Nat.le_refl n) h0 hp)
  by_cases hr:r.1 < n
  · rw [if_pos hr]
    have hm:max r.1 1 = r.1:=by omega
    rw [hm]
    exact Abn W h0 _ _ _ a1 a4 (by omega)
  · rw [if_neg hr]
    have:r.1 = n:=by omega
    exact ⟨a1,by rw [← this]; exact a4⟩
end
end SO
set_option Elab.async false
set_option linter.all false
set_option maxRecDepth 100000
set_option maxHeartbeats 1000000
namespace SO
open PySem PySem.W PySem.Calls PyProof.Rows
section
variable {P:Program} {w:World} {A:Around} {E:Value → Shared → Prop} {s:Shared} {vs:List Value} {lt:Nat → Nat → Bool} {κ:SortKind}
def Kb (a:Addr) (h h':Heap):Prop:=∀ b o,b ≠ a → h.get? b = some o → h'.get? b = some o
theorem Kb.trans {a:Addr} {h h1 h2:Heap} (x:Kb a h h1) (y:Kb a h1 h2):Kb a h h2:=fun b o hb e=>y b o hb (x b o hb e)
theorem Ql (h:Heap) (a:Addr) (f:Obj → Obj):Kb a h (h.update a f):=fun b o hb e=>((Heap.SameBut.update h a f).2 b hb).trans e
theorem Uy (a:Addr) (h:Heap) (o:Obj):Kb a h (h.push o):=fun _ _ _ e=>Heap.get?_push_of_some _ e
def Ep (vs:List Value) (p:Array Nat):List Value:=p.toList.map fun i=>vs.getD i Value.none
theorem Oe (vs:List Value):Ep vs (List.toArray (List.range vs.length)) = vs:=by
  unfold Ep
  apply List.ext_getElem
  · simp
  · intro i h1 h2
    simp [h2]
theorem Si {a:Addr} {c0:Nat} {F:PySem.Fin → Shared → Prop} (W:Wo lt) (ho:s.heap.get? a = some (seqObj "list" vs.toArray c0)) (h64:vs.length < 64)
    (hkind:2 ≤ vs.length → ∀ (h':Heap) (Q:SortKind → Shared → Prop),Kb a s.heap h' → Q κ { s with heap:=h' } → wpAny (model P w) A (keyKind' vs.toArray) Q E { s with heap:=h' })
    (hask:∀ (h':Heap) (i j:Nat) (C:Bool → Shared → Prop),Kb a s.heap h' → i < vs.length → j < vs.length → C (lt i j) { s with heap:=h' } → kas_ask P w A κ vs i j C { s with heap:=h' })
    (hq:∀ (p:Array Nat) (h':Heap) (c:Nat),Pm vs.length p → Up lt p vs.length → Kb a s.heap h' → h'.get? a = some (seqObj "list" (Ep vs p).toArray c) → F (.done (.ret .none)) { s with heap:=h' }) :
    wpAny (model P w) A (Builtin.«list.sort» ⟨[.ref a],[]⟩) F E s:=by
  obtain ⟨c1,h1⟩:∃ c1,(s.heap.update a (Obj.mapSeq fun _=>(#[]:Array Value))).get? a = some (seqObj "list" #[] c1):=⟨_,get?_update_seq ho fun _=>#[]⟩
  have k1:Kb a s.heap (((s.heap.update a (Obj.mapSeq fun _=>(#[]:Array Value))).push (seqObj "tuple" vs.toArray 0)).push (seqObj "list" #[] 0)):=((Ql _ _ _).trans (Uy _ _ _)).trans (Uy _ _ _)
  have h3:(((s.heap.update a (Obj.mapSeq fun _=>(#[]:Array Value))).push (seqObj "tuple" vs.toArray 0)).push (seqObj "list" #[] 0)).get? a = some (seqObj "list" #[] c1):=Heap.get?_push_of_some _ (Heap.get?_push_of_some _ h1)
  rw [list_sort_plain]
  refine wpAny_bind (listItems_at ho rfl (wpAny_bind (listUpdate_at ho rfl (wpAny_bind (seqEpoch_at h1 rfl (wpAny_bind (wpAny_newTuple (wpAny_bind (wpAny_newList (wpAny_holding ?_) (Nat.zero_le _))) ?z2)))) ?z1 (Nat.zero_le _))))
  case z1=>rw [List.size_toArray,sizeLine_eq]; omega
  case z2=>show vs.length ≤ _; rw [sizeLine_eq]; omega
  show wpAny (model P w) A _ F E ({ s with heap:=((s.heap.update a (Obj.mapSeq fun _=>(#[]:Array Value))).push (seqObj "tuple" vs.toArray 0)).push (seqObj "list" #[] 0) }:Shared)
  generalize ((s.heap.update a (Obj.mapSeq fun _=>(#[]:Array Value))).push (seqObj "tuple" vs.toArray 0)).push (seqObj "list" #[] 0) = hp at k1 h3
  dsimp only
  have fin:∀ (p:Array Nat) (st:SortSt),Pm vs.length p → Up lt p vs.length → (arrOf st).map (·.2) = (Ep vs p).toArray → failedOf st = none → wpAny (model P w) A (do
      let touched:=(← seqEpoch a) != c1
      Builtin.List.listUpdate (.ref a) fun _=>(arrOf st).map (·.2)
      if let some e:=failedOf st then rule "list.sort.comparison-raised"; throw e
      if touched then rule "list.sort.modified"; raiseError "ValueError" "list modified during sort"
      ret .none) F E { s with heap:=hp }:=by
    intro p st hpm hup hout hfail
    have hlen:(Ep vs p).length = vs.length:=by unfold Ep; rw [List.length_map,Array.length_toList,hpm.size]
    obtain ⟨c2,h4⟩:∃ c2,(hp.update a (Obj.mapSeq fun _=>(Ep vs p).toArray)).get? a = some (seqObj "list" (Ep vs p).toArray c2):=⟨_,get?_update_seq h3 fun _=>(Ep vs p).toArray⟩
    rw [hout,hfail]
    refine wpAny_bind (seqEpoch_at h3 rfl (wpAny_bind (listUpdate_at h3 rfl ?_ (Nat.zero_le _) ?z3)))
    case z3=>rw [List.size_toArray,hlen,sizeLine_eq]; omega
    simp only [bne_self_eq_false,Bool.false_eq_true,if_false]
    exact wpAny_pure (hq p _ c2 hpm hup (k1.trans (Ql _ _ _)) h4)
  by_cases hsmall:vs.toArray.size < 2
  · rw [if_pos hsmall,if_pos hsmall]
    have hs2:vs.length < 2:=by simpa using hsmall
    refine wpAny_bind (wpAny_pure ?_)
    rw [StateT.run_pure]
    refine wpAny_bind (wpAny_pure (fin (List.toArray (List.range vs.length)) (SortSt.mk' general' (vs.toArray.zip vs.toArray) #[] 7 none) ⟨by simp,by simp⟩ ?_ ?_ rfl))
    · intro i j hij hj
      have:i = j:=by omega
      subst this; exact W.refl _
    · rw [Oe]
      show (vs.toArray.zip vs.toArray).map (·.2) = vs.toArray
      apply Array.ext
      · simp
      · intro i i1 i2; simp
  · rw [if_neg hsmall,if_neg hsmall]
    have hs2:2 ≤ vs.length:=by simp at hsmall; omega
    refine wpAny_bind (hkind hs2 hp _ k1 ?_)
    have on:=(Q2 (n:=vs.length) W (by omega)).wp (cmp:=kas_ask P w A κ vs) (s:={ s with heap:=hp }) (Q:=fun p s'=>(Pm vs.length p ∧ Up lt p vs.length) ∧ s' = { s with heap:=hp }) (fun i j C hi hj hC=>hask hp i j C k1 hi hj hC) fun p h=>⟨h,rfl⟩
    refine wpAny_bind (wpAny_mono (kat_run (Q:=fun st s'=>∃ p:Array Nat,arrOf st = p.map (kas_item (vs.toArray.zip vs.toArray)) ∧ failedOf st = none ∧ (Pm vs.length p ∧ Up lt p vs.length) ∧ s' = { s with heap:=hp }) rfl hs2 h64 (fun p st s' _ q1 q2 q3=>⟨p,q1,q2,q3⟩) on) ?_ fun _ _ e=>e)
    rintro ⟨⟨⟩,st⟩ s' ⟨p,q1,q2,⟨q3,q4⟩,rfl⟩
    exact fin p st q3 q4 (kat_snds rfl q1) q2
theorem Ws {l:Addr} {Q:Value → Shared → Prop} (W:Wo lt) (hl:s.heap.IsList l vs.toArray) (h64:vs.length < 64)
    (hkind:2 ≤ vs.length → ∀ (h':Heap) (Q:SortKind → Shared → Prop) (E:Value → Shared → Prop),(∀ b o,s.heap.get? b = some o → h'.get? b = some o) → Q κ { s with heap:=h' } → wpAny (model P w) A.in1.in1 (keyKind' vs.toArray) Q E { s with heap:=h' })
    (hask:∀ (h':Heap) (i j:Nat) (C:Bool → Shared → Prop),(∀ b o,s.heap.get? b = some o → h'.get? b = some o) → i < vs.length → j < vs.length → C (lt i j) { s with heap:=h' } → kas_ask P w A.in1.in1 κ vs i j C { s with heap:=h' })
    (hq:∀ (p:Array Nat) (h':Heap) (c:Nat),Pm vs.length p → Up lt p vs.length → (∀ b o,s.heap.get? b = some o → h'.get? b = some o) → h'.get? (s.heap.objs.size + 1) = some (seqObj "list" (Ep vs p).toArray c) → Q (.ref (s.heap.objs.size + 1)) { s with heap:=h' }) :
    wpAny (model P w) A (call (.builtin "sorted") [.ref l]) Q E s:=by
  have e1:((s.heap.push (seqObj "list" #[] 0)).update s.heap.objs.size (Obj.mapSeq (· ++ vs.toArray))).objs.size = s.heap.objs.size + 1:=by rw [Heap.size_update,size_push']
  have e2:(((s.heap.push (seqObj "list" #[] 0)).update s.heap.objs.size (Obj.mapSeq (· ++ vs.toArray))).push (seqObj "list" vs.toArray 0)).get? (s.heap.objs.size + 1) = some (seqObj "list" vs.toArray 0):=by rw [← e1]; exact Heap.get?_push_size _ rfl
  have e3:∀ b o,s.heap.get? b = some o → (((s.heap.push (seqObj "list" #[] 0)).update s.heap.objs.size (Obj.mapSeq (· ++ vs.toArray))).push (seqObj "list" vs.toArray 0)).get? b = some o:=fun b o q=>
    Heap.get?_push_of_some _ (Ql _ _ _ b o (Nat.ne_of_lt (Heap.lt_size q)) (Heap.get?_push_of_some _ q))
  have e4:∀ (h':Heap),Kb (s.heap.objs.size + 1) (((s.heap.push (seqObj "list" #[] 0)).update s.heap.objs.size (Obj.mapSeq (· ++ vs.toArray))).push (seqObj "list" vs.toArray 0)) h' → ∀ b o,s.heap.get? b = some o → h'.get? b = some o:=fun h' k b o q=>
    k b o (Nat.ne_of_lt (Nat.lt_succ_of_lt (Heap.lt_size q))) (e3 b o q)
  refine call_function_entry kind_sorted plain_sorted entry_sorted (args_sorted1 _) ?_
  unfold Builtin.«sorted»
  refine wpAny_bind (m:=checkCount "sorted" 1 1 _) (wpAny_pure (wpAny_bind (collect_list hl (wpAny_bind (wpAny_newList ?_ ?y2)) ?y1)))
  case y1=>rw [sizeLine_eq]; omega
  case y2=>rw [sizeLine_eq]; omega
  show wpAny _ _ _ _ _ ({ s with heap:=((s.heap.push (seqObj "list" #[] 0)).update s.heap.objs.size (Obj.mapSeq (· ++ vs.toArray))).push (seqObj "list" vs.toArray 0) }:Shared)
  rw [e1]
  generalize ((s.heap.push (seqObj "list" #[] 0)).update s.heap.objs.size (Obj.mapSeq (· ++ vs.toArray))).push (seqObj "list" vs.toArray 0) = hp at e2 e3 e4
  refine wpAny_bind (wpAny_holding (wpAny_call_entry slot_list_sort ⟨_,e2,rfl⟩ entry_list_sort (Si (s:={ s with heap:=hp }) W e2 h64 (fun h2 h' Q' k q=>hkind h2 h' Q' _ (e4 h' k) q) (fun h' i j C k=>hask h' i j C (e4 h' k)) fun p h' c a1 a2 a3 a4=>⟨_,rfl,?_⟩) (args_list_sort _)))
  exact wpAny_pure ⟨_,rfl,hq p h' c a1 a2 (e4 h' a3) a4⟩
end
end SO
set_option Elab.async false
set_option linter.all false
set_option maxRecDepth 100000
set_option maxHeartbeats 4000000
namespace MR
open PySem PySem.Spec PyProof.Rows PySem.Calls L2 SO
def ltT:List Int → List Int → Bool
  | _,[]=>false
  | [],_ :: _=>true
  | a :: x,b :: y=>if a == b then ltT x y else decide (a < b)
theorem Iu:∀ x y:List Int,ltT x y = true → ltT y x = false
  | x,[],h=>by unfold ltT at h; cases h
  | [],b :: y,_=>by simp [ltT]
  | a :: x,b :: y,h=>by
    unfold ltT at h ⊢
    by_cases e:a = b
    · subst e
      simp only [beq_self_eq_true,if_true] at h ⊢
      exact Iu x y h
    · have h1:(a == b) = false:=by simpa using e
      have h2:(b == a) = false:=by simpa using fun q=>e q.symm
      simp only [h1,h2,Bool.false_eq_true,if_false,decide_eq_true_eq] at h ⊢
      simp only [decide_eq_false_iff_not]; omega
theorem Nj:∀ x y z:List Int,ltT y x = false → ltT z y = false → ltT z x = false
  | [],_,z,_,_=>by unfold ltT; rfl
  | a :: x,[],z,h,_=>by simp [ltT] at h
  | a :: x,b :: y,[],_,h=>by simp [ltT] at h
  | a :: x,b :: y,c :: z,h1,h2=>by
    unfold ltT at h1 h2 ⊢
    by_cases e1:b = a
    · subst e1
      simp only [beq_self_eq_true,if_true] at h1
      by_cases e2:c = b
      · subst e2
        simp only [beq_self_eq_true,if_true] at h2 ⊢
        exact Nj x y z h1 h2
      · have q:(c == b) = false:=by simpa using e2
        simp only [q,Bool.false_eq_true,if_false] at h2 ⊢
        exact h2
    · have q1:(b == a) = false:=by simpa using e1
      simp only [q1,Bool.false_eq_true,if_false,decide_eq_false_iff_not] at h1
      by_cases e2:c = b
      · subst e2
        simp only [q1,Bool.false_eq_true,if_false,decide_eq_false_iff_not]; exact h1
      · have q2:(c == b) = false:=by simpa using e2
        simp only [q2,Bool.false_eq_true,if_false,decide_eq_false_iff_not] at h2
        have e3:c ≠ a:=by omega
        have q3:(c == a) = false:=by simpa using e3
        simp only [q3,Bool.false_eq_true,if_false,decide_eq_false_iff_not]; omega
theorem Su:∀ x y:List Int,ltT x y = false → ltT y x = false → x = y
  | [],[],_,_=>rfl
  | a :: x,[],_,h=>by simp [ltT] at h
  | [],b :: y,h,_=>by simp [ltT] at h
  | a :: x,b :: y,h1,h2=>by
    unfold ltT at h1 h2
    by_cases e:a = b
    · subst e
      simp only [beq_self_eq_true,if_true] at h1 h2
      rw [Su x y h1 h2]
    · have q1:(a == b) = false:=by simpa using e
      have q2:(b == a) = false:=by simpa using fun q=>e q.symm
      simp only [q1,q2,Bool.false_eq_true,if_false,decide_eq_false_iff_not] at h1 h2
      omega
def leT (x y:List Int):Prop:=ltT y x = false
theorem Ji:∀ {a b:List (List Int)},a.Perm b → a.Pairwise leT → b.Pairwise leT → a = b
  | [],b,p,_,_=>p.nil_eq
  | x :: r,[],p,_,_=>absurd p.length_eq (by simp)
  | x :: r,y :: t,p,ha,hb=>by
    have hx:x ∈ y :: t:=p.mem_iff.mp (List.mem_cons_self ..)
    have hy:y ∈ x :: r:=p.mem_iff.mpr (List.mem_cons_self ..)
    have e:x = y:=by
      rcases List.mem_cons.mp hx with h | h
      · exact h
      · rcases List.mem_cons.mp hy with h' | h'
        · exact h'.symm
        · exact Su x y ((List.pairwise_cons.mp hb).1 x h) ((List.pairwise_cons.mp ha).1 y h')
    subst e
    rw [Ji p.cons_inv (List.pairwise_cons.mp ha).2 (List.pairwise_cons.mp hb).2]
def Wz (x:List Int):List (List Int) → List (List Int)
  | []=>[x]
  | y :: r=>if ltT y x = true then y :: Wz x r else x :: y :: r
theorem Ll (x:List Int):∀ l,(Wz x l).Perm (x :: l)
  | []=>.refl _
  | y :: r=>by
    unfold Wz
    split
    · exact ((Ll x r).cons y).trans (.swap ..)
    · exact .refl _
theorem Lu (x:List Int):∀ l,l.Pairwise leT → (Wz x l).Pairwise leT
  | [],_=>List.pairwise_singleton ..
  | y :: r,h=>by
    obtain ⟨h1,h2⟩:=List.pairwise_cons.mp h
    unfold Wz
    split
    · rename_i hl
      refine List.pairwise_cons.mpr ⟨fun z hz=>?_,Lu x r h2⟩
      rcases List.mem_cons.mp ((Ll x r).mem_iff.mp hz) with e | e
      · subst e; exact Iu _ _ hl
      · exact h1 z e
    · rename_i hl
      have hl:leT x y:=by unfold leT; simpa using hl
      refine List.pairwise_cons.mpr ⟨fun z hz=>?_,h⟩
      rcases List.mem_cons.mp hz with e | e
      · subst e; exact hl
      · exact Nj x y z hl (h1 z e)
def P2:List (List Int) → List (List Int)
  | []=>[]
  | x :: r=>Wz x (P2 r)
theorem E5:∀ l,(P2 l).Perm l
  | []=>.refl _
  | x :: r=>(Ll x _).trans ((E5 r).cons x)
theorem El:∀ l,(P2 l).Pairwise leT
  | []=>.nil
  | x :: r=>Lu x _ (El r)
inductive Tups (K:PySem.W.Frag) (H:Hp):List (List Int) → List V → Prop
  | nil:Tups K H [] []
  | cons {a:Addr} {n:Int} {t:List Int} {ts:List (List Int)} {ys:List V} (h:SqT K H a ((n :: t).map V.int)) (r:Tups K H ts ys):Tups K H ((n :: t) :: ts) (.ref a :: ys)
theorem Tups.len {K:PySem.W.Frag} {H:Hp} {ts:List (List Int)} {ys:List V} (r:Tups K H ts ys):ts.length = ys.length:=by
  induction r with
  | nil=>rfl
  | cons h r ih=>simp [ih]
theorem Tups.at_ {K:PySem.W.Frag} {H:Hp} {ts:List (List Int)} {ys:List V} (r:Tups K H ts ys):∀ i,i < ts.length → ∃ (a:Addr) (n:Int) (t:List Int),ts[i]? = some (n :: t) ∧ ys[i]? = some (.ref a) ∧ SqT K H a ((n :: t).map V.int):=by
  induction r with
  | nil=>intro i h; simp at h
  | @cons a n t ts ys h r ih=>
    intro i hi
    cases i with
    | zero=>exact ⟨a,n,t,rfl,rfl,h⟩
    | succ i=>simpa using ih i (by simpa using hi)
theorem Aap {P:Program} {w:World} {A:Around} {b fin:Bool} {s:Shared} {Q:Bool → Shared → Prop}:∀ (ns ms:List Int) (xs ys:List Value) (i:Nat),Vals (ns.map V.int) xs → Vals (ms.map V.int) ys → fin = decide (ns.length < ms.length) → Q (ltT ns ms) s → PySem.W.KatLex P w A b fin Q (xs.zip ys) i s
  | [],ms,xs,ys,i,rx,ry,hf,q=>by
    rw [List.map_nil] at rx; cases rx
    rw [List.zip_nil_left]
    refine PySem.W.kat_nil ?_
    rw [hf]
    cases ms with
    | nil=>exact q
    | cons m ms=>simpa [ltT] using q
  | n :: ns,[],xs,ys,i,rx,ry,hf,q=>by
    rw [List.map_nil] at ry; cases ry
    rw [List.zip_nil_right]
    refine PySem.W.kat_nil ?_
    rw [hf]
    simpa [ltT] using q
  | n :: ns,m :: ms,xs,ys,i,rx,ry,hf,q=>by
    rw [List.map_cons] at rx ry
    cases rx with
    | cons r1 r2=>
      cases ry with
      | cons s1 s2=>
        obtain ⟨t,rfl⟩:=r1
        obtain ⟨u,rfl⟩:=s1
        rw [List.zip_cons_cons]
        refine PySem.W.kat_cons (PySem.wpAny_eqBool_int ?_)
        unfold ltT at q
        cases e:(n == m) with
        | true=>
          rw [e,if_pos rfl] at q
          exact PySem.W.kat_yes (Aap ns ms _ _ (i + 1) r2 s2 (by rw [hf]; simp) q)
        | false=>
          rw [e,if_neg (by simp)] at q
          refine PySem.W.kat_no ?_
          cases (b && i == 0) with
          | true=>exact oneLt_int q
          | false=>exact PySem.W.kat_one _ _ (lt_int q)
section
variable {X:Cx}
end
def Aa1:U → Option (List Int)
  | .tup l=>mapO toI l
  | _=>none
def Se (l:List Int):U:=.tup (l.map U.int)
theorem Vz:∀ {us:List U} {ts:List (List Int)},mapO Aa1 us = some ts → us = ts.map Se
  | [],ts,e=>by simp only [mapO] at e; cases e; rfl
  | u :: us,ts,e=>by
    simp only [mapO] at e
    obtain ⟨t,e1,e⟩:=Option.bind_eq_some_iff.mp e
    obtain ⟨tr,e2,e⟩:=Option.map_eq_some_iff.mp e
    subst e
    rw [List.map_cons,Vz e2]
    congr 1
    cases u with
    | tup l=>
      have:∀ (l:List U) (t:List Int),mapO toI l = some t → l = t.map U.int:=by
        intro l
        induction l with
        | nil=>intro t e; simp only [mapO] at e; cases e; rfl
        | cons a l ih=>
          intro t e
          simp only [mapO] at e
          obtain ⟨x,x1,e⟩:=Option.bind_eq_some_iff.mp e
          obtain ⟨y,y1,e⟩:=Option.map_eq_some_iff.mp e
          subst e
          rw [List.map_cons,← ih y y1]
          cases a <;> first | (cases x1; rfl) | cases x1
      unfold Se
      rw [this l t e1]
    | _=>cases e1
end MR
set_option Elab.async false
set_option linter.all false
set_option maxRecDepth 100000
set_option maxHeartbeats 4000000
namespace HT
open PySem PyProof.Rows
section
open PySem.SeqAt
open PySem.AutoSeq1 (wpAny_loadPart')
open PySem.MeetsSeq PySem.MeetsSeq2 PySem.MeetsSeq3
end
section
variable {prog:Program} {w:World} {A:Around} {E:Value → Shared → Prop} {s:Shared}
end
end HT
namespace MR
open PySem PyProof.Rows L2
end MR
set_option Elab.async false
set_option linter.all false
set_option maxRecDepth 100000
set_option maxHeartbeats 4000000
namespace DP
open PySem PySem.Spec PyProof.Rows
theorem V3:entryFor table "dict.update.loop" = some Builtin.«dict.update.loop»:=entryFor_of_fast (by kernel_rfl)
theorem Mt:plainId "dict.update.loop" = true:=by decide +kernel
structure PairAt (P:Program) (w:World) (h:Heap) (v:Value) (k:L2.Key) (x:Value):Prop where
  ex:∃ (T:Addr) (key:Value),v = .ref T ∧ h.IsTuple T #[key,x] ∧ (L2.B0 P w).is k key = true
theorem Oz:∀ (ps:List (L2.Key × Value)),(merged ([]:List (L2.Key × Value)) ps).length ≤ ps.length:=by
  have aux:∀ (ps vs:List (L2.Key × Value)),(merged vs ps).length ≤ vs.length + ps.length:=by
    intro ps
    induction ps with
    | nil=>intro vs; exact Nat.le_refl _
    | cons p ps ih=>
      intro vs
      have h1:=ih (stored vs p.1 p.2)
      have h2:(stored vs p.1 p.2).length ≤ vs.length + 1:=by unfold stored; split <;> simp
      show (merged (stored vs p.1 p.2) ps).length ≤ _
      rw [List.length_cons]; omega
  exact fun ps=>by have:=aux ps []; simpa using this
end DP
set_option Elab.async false
set_option linter.all false
set_option maxRecDepth 100000
set_option maxHeartbeats 4000000
namespace MR
open PySem PySem.Spec PyProof.Rows PySem.Calls L2 DP
inductive PairsV (K:PySem.W.Frag) (H:Hp):List (Key × V) → List V → Prop
  | nil:PairsV K H [] []
  | cons {a:Addr} {k:Key} {v:V} {kvs:List (Key × V)} {ys:List V} (h:SqT K H a [kV k,v]) (r:PairsV K H kvs ys):PairsV K H ((k,v) :: kvs) (.ref a :: ys)
theorem PairsV.len {K:PySem.W.Frag} {H:Hp} {kvs:List (Key × V)} {ys:List V} (r:PairsV K H kvs ys):kvs.length = ys.length:=by
  induction r with
  | nil=>rfl
  | cons h r ih=>simp [ih]
section
variable {X:Cx}
end
def T0 (kvs:List (Key × U)):List (Key × U):=kvs.foldl (fun acc kv=>Pc acc kv.1 kv.2) []
theorem Qk {K:PySem.W.Frag} {H:Hp} {α:List Addr}:∀ {more:List (Key × U)} {ms:List (Key × V)} {kvs:List (Key × U)} {vs:List (Key × V)},RepKV K H α more ms → RepKV K H α kvs vs → RepKV K H α (more.foldl (fun acc kv=>Pc acc kv.1 kv.2) kvs) (Iy vs ms)
  | [],ms,kvs,vs,r,r0=>by
    obtain ⟨h1,_⟩:=r
    cases ms with
    | nil=>exact r0
    | cons _ _=>simp at h1
  | kv :: more,ms,kvs,vs,r,r0=>by
    obtain ⟨x,ms',rfl,rx,r'⟩:=r.cons
    show RepKV K H α (more.foldl (fun acc kv=>Pc acc kv.1 kv.2) (Pc kvs kv.1 kv.2)) (Iy (Ik vs kv.1 x) ms')
    exact Qk r' (r0.put rx)
theorem Abs.dict {K:PySem.W.Frag} {H:Hp} {α:List Addr} {L:UH} {p:Addr} {kvs:List (Key × U)} {vs:List (Key × V)} (A:Abs K H α L) (r:RepKV K H α kvs vs) (hp:H p = none) :
    Gr H α (upd H p (.dK vs)) (α ++ [p]) ∧ Abs K (upd H p (.dK vs)) (α ++ [p]) (L ++ [.dic kvs]) ∧ RepU K (upd H p (.dK vs)) (α ++ [p]) (.ref L.length) (.ref p):=by
  have g:Gr H α (upd H p (.dK vs)) (α ++ [p]):=⟨⟨[p],rfl⟩,.new hp _⟩
  obtain ⟨A',_⟩:=A.new (o:=.dK vs) (u:=.dic kvs) hp ⟨vs,Es,(r.mono g).1,(r.mono g).2⟩
  refine ⟨g,A',?_⟩
  unfold RepU
  exact ⟨p,by rw [← A.len]; simp,rfl⟩
def Qg (kb ka:List (Key × Int)):Bool:=ka.all fun p=>match kb.find? fun q=>decide (q.1 = p.1) with | none=>false | some q=>p.2 == q.2
def eqD (ka kb:List (Key × Int)):Bool:=ka.length == kb.length && Qg kb ka
def kiV (kb:List (Key × Int)):List (Key × V):=kb.map fun p=>(p.1,V.int p.2)
theorem Acg (kb:List (Key × Int)) (k:Key):Jk (kiV kb) k = (kb.find? fun q=>decide (q.1 = k)).map fun q=>V.int q.2:=by
  unfold Jk kiV
  induction kb with
  | nil=>rfl
  | cons p kb ih=>
    rw [List.map_cons,List.find?_cons,List.find?_cons]
    by_cases h:p.1 = k
    · simp [h]
    · simp only [h,decide_false]
      exact ih
theorem Vl {A:Around} {s:Shared} {kb:List (Key × Int)} {wb:List (Key × Value)} (hb:KV (kiV kb) wb):∀ {ka:List (Key × Int)} {wa:List (Key × Value)},KV (kiV ka) wa → PySem.W.KeqHits A s wb wa (Qg kb ka)
  | [],wa,r=>by cases r; exact .nil
  | p :: ka,wa,r=>by
    have r':Paired (fun (p:Key × V) (q:Key × Value)=>p.1 = q.1 ∧ L2.RelV p.2 q.2) ((p.1,V.int p.2) :: kiV ka) wa:=r
    cases r' with
    | @cons _ w _ ws h t=>
      obtain ⟨w1,w2⟩:=w
      obtain ⟨e1,⟨tk,e2⟩⟩:=h
      simp only at e1 e2
      subst e1 e2
      have ih:=Vl (A:=A) (s:=s) hb (ka:=ka) t
      have hv:=hb.val p.1
      rw [Acg] at hv
      have hh:Qg kb (p :: ka) = ((match kb.find? fun q=>decide (q.1 = p.1) with | none=>false | some q=>p.2 == q.2) && Qg kb ka):=by unfold Qg; rw [List.all_cons]
      rw [hh]
      cases hf:kb.find? fun q=>decide (q.1 = p.1) with
      | none=>
        rw [hf] at hv
        exact .miss (RelO.none_of hv)
      | some q=>
        rw [hf] at hv
        have:∃ y,valueAt wb p.1 = some y ∧ L2.RelV (V.int q.2) y:=by
          cases hw:valueAt wb p.1 with
          | none=>rw [hw] at hv; cases hv
          | some y=>rw [hw] at hv; exact ⟨y,rfl,hv⟩
        obtain ⟨y,hy,tk2,rfl⟩:=this
        exact .hit hy (SeqAt.EqAt.int_int p.2 tk q.2 tk2) ih
def Afn (neg:Bool):R2:=fun x y H Q=>∃ a b ka kb,x = .ref a ∧ y = .ref b ∧ H a = some (.dK (kiV ka)) ∧ H b = some (.dK (kiV kb)) ∧ Q (.bl (if neg then !eqD ka kb else eqD ka kb)) H
theorem Ahc {X:Cx} (hu:X.A.units < cLine):OpR X (compareOp .NotEq) (Afn true):=by
  intro pins s σ H x y v u Q I rx ry h
  obtain ⟨a,b,ka,kb,rfl,rfl,ha,hb,q⟩:=h
  cases rx
  cases ry
  obtain ⟨_,d1,wa,ra,da⟩:=Aex I.hok ha
  obtain ⟨_,d2,wb,rb,db⟩:=Aex I.hok hb
  have l1:=ra.length
  have l2:=rb.length
  unfold kiV at l1 l2
  rw [List.length_map] at l1 l2
  refine PySem.W.keq_ne d1 d2 da db hu (fun _=>Vl rb ra) ⟨.bl (!eqD ka kb),H,I,?_,q⟩
  unfold eqD
  rw [l1,l2]; rfl
def Aai:Key × U → Option (Key × Int)
  | (k,.int i)=>some (k,i)
  | _=>none
def E3:S2:=fun u w L=>match u,w with
  | .ref n,.ref m=>match Nv L n with
    | some ka=>(Nv L m).bind fun kb=>(mapO Aai ka).bind fun a=>(mapO Aai kb).map fun b=>(.bl (!eqD a b),L)
    | none=>Bx u w L
  | _,_=>Bx u w L
theorem Q5 {K:PySem.W.Frag} {H:Hp} {α:List Addr}:∀ {kvs:List (Key × U)} {vs:List (Key × V)} {a:List (Key × Int)},RepKV K H α kvs vs → mapO Aai kvs = some a → vs = kiV a
  | [],vs,a,r,e=>by
    simp only [mapO] at e; cases e
    obtain ⟨h1,_⟩:=r
    cases vs with
    | nil=>rfl
    | cons _ _=>simp at h1
  | kv :: kvs,vs,a,r,e=>by
    obtain ⟨x,vs',rfl,rx,r'⟩:=r.cons
    simp only [mapO] at e
    obtain ⟨p,e1,e⟩:=Option.bind_eq_some_iff.mp e
    obtain ⟨ar,e2,e⟩:=Option.map_eq_some_iff.mp e
    subst e
    rw [Q5 r' e2]
    obtain ⟨k,v⟩:=kv
    cases v with
    | int i=>
      cases e1
      unfold RepU at rx
      subst rx
      rfl
    | _=>cases e1
theorem Lm {X:Cx} (hu:X.A.units + 64 < cLine):OpR X (compareOp .NotEq) (fun x y H Q=>W7 X.K true x y H Q ∨ Afn true x y H Q):=(Hq hu).or (Ahc (by omega))
theorem Jd {K:PySem.W.Frag}:C4 K (fun x y H Q=>W7 K true x y H Q ∨ Afn true x y H Q) E3:=by
  intro H α L u w x y z L' Q A ru rw e q
  unfold E3 at e
  split at e
  · split at e
    · rename_i n m _ ka hd
      obtain ⟨kb,hb,e⟩:=Option.bind_eq_some_iff.mp e
      obtain ⟨a,ha',e⟩:=Option.bind_eq_some_iff.mp e
      obtain ⟨b,hb',e⟩:=Option.map_eq_some_iff.mp e
      cases e
      obtain ⟨p,vs,rfl,ep,hp,rk⟩:=Uv A hd ru
      obtain ⟨p2,vs2,rfl,ep2,hp2,rk2⟩:=Uv A hb rw
      rw [Q5 rk ha'] at hp
      rw [Q5 rk2 hb'] at hp2
      exact .inr ⟨p,p2,a,b,rfl,rfl,hp,hp2,q _ H α (.refl _ _) A rfl⟩
    · exact .inl (G6 H α L _ _ x y z L' Q A ru rw e q)
  · exact .inl (G6 H α L _ _ x y z L' Q A ru rw e q)
end MR
set_option Elab.async false
set_option linter.all false
set_option maxRecDepth 100000
set_option maxHeartbeats 4000000
namespace ZT
open PySem PySem.Spec PyProof.Rows
open Sem (wp)
theorem Af0 (l1 l2 : Addr) (xs ys : Array Value) : Meets (Builtin.«zip.__new__» ⟨[.type "zip", .ref l1, .ref l2], []⟩) (fun _ R s => s.heap.IsList l1 xs ∧ s.heap.IsTuple l2 ys ∧
      R (.ok (.ret (.ref (zh4 "list_iterator" "tuple_iterator" s.heap l1 l2).objs.size))) { s with heap:=zh5 "list_iterator" "tuple_iterator" s.heap l1 l2 }):=
  .of_wp fun prog w A R s h=>by
    obtain ⟨hp,g,d,tk,os⟩:=s
    obtain ⟨t1,t2,h⟩:=h
    have hsub:=sub_zip
    have T1:Heap.IsList (Shared.heap ⟨hp,g,d,tk,os⟩) l1 xs:=t1
    have T2:Heap.IsTuple (Shared.heap ⟨hp.push { cls:=.type "list_iterator",data:=.fields #[.ref l1,.int 0 0] },g,d,tk,os⟩) l2 ys:=Heap.IsTuple.push t2 _
    wp_walk using wpAny_pyIter_list T1,wpAny_pyIter_tuple T2
    exact ⟨_,rfl,h⟩
section
variable {prog:Program} {w:World} {A:Around} {E:Value → Shared → Prop} {s:Shared}
theorem U8 {l1 l2:Addr} {xs ys:Array Value} {Q:Value → Shared → Prop} (t1:s.heap.IsList l1 xs) (t2:s.heap.IsTuple l2 ys)
    (h:∀ h',IsZip h' (s.heap.objs.size + 4) (s.heap.objs.size + 2) (s.heap.objs.size + 3) .none → IsPair h' (s.heap.objs.size + 2) (.ref s.heap.objs.size) (.ref (s.heap.objs.size + 1)) →
      IsPair h' (s.heap.objs.size + 3) .none .none → ItK true h' s.heap.objs.size l1 0 → ItK false h' (s.heap.objs.size + 1) l2 0 → (∀ c o,s.heap.get? c = some o → h'.get? c = some o) → Q (.ref (s.heap.objs.size + 4)) { s with heap:=h' }) :
    wpAny (model prog w) A (call (.type "zip") [.ref l1,.ref l2]) Q E s:=by
  refine callType_new F.called_zip (by decide) (F.typeCall_zip_2 _ _) (F.newCall_zip_2 _ _) (fun obj=>F.args_object_init_3 obj _ _) F.entry_zip_new (Af0 l1 l2 xs ys) ⟨t1,t2,?_⟩
  have z1:(zh1 "list_iterator" s.heap l1).objs.size = s.heap.objs.size + 1:=Heap.size_push ..
  have z2:(zh2 "list_iterator" "tuple_iterator" s.heap l1 l2).objs.size = s.heap.objs.size + 2:=by rw [Heap.size_push,z1]
  have z3:(zh3 "list_iterator" "tuple_iterator" s.heap l1 l2).objs.size = s.heap.objs.size + 3:=by rw [Heap.size_push,z2]
  have z4:(zh4 "list_iterator" "tuple_iterator" s.heap l1 l2).objs.size = s.heap.objs.size + 4:=by rw [Heap.size_push,z3]
  have q5:(zh5 "list_iterator" "tuple_iterator" s.heap l1 l2).get? (zh4 "list_iterator" "tuple_iterator" s.heap l1 l2).objs.size = some _:=Heap.get?_push_size _ rfl
  have q4:(zh5 "list_iterator" "tuple_iterator" s.heap l1 l2).get? (zh3 "list_iterator" "tuple_iterator" s.heap l1 l2).objs.size = some _:=Heap.get?_push_of_some _ (Heap.get?_push_size _ rfl)
  have q3:(zh5 "list_iterator" "tuple_iterator" s.heap l1 l2).get? (zh2 "list_iterator" "tuple_iterator" s.heap l1 l2).objs.size = some _:=Heap.get?_push_of_some _ (Heap.get?_push_of_some _ (Heap.get?_push_size _ rfl))
  have q2:(zh5 "list_iterator" "tuple_iterator" s.heap l1 l2).get? (zh1 "list_iterator" s.heap l1).objs.size = some _:=Heap.get?_push_of_some _ (Heap.get?_push_of_some _ (Heap.get?_push_of_some _ (Heap.get?_push_size _ rfl)))
  have q1:(zh5 "list_iterator" "tuple_iterator" s.heap l1 l2).get? s.heap.objs.size = some _:=Heap.get?_push_of_some _ (Heap.get?_push_of_some _ (Heap.get?_push_of_some _ (Heap.get?_push_of_some _ (Heap.get?_push_size _ rfl))))
  show _ ∧ _
  rw [z2,z3,z4] at q5; rw [z1,z2] at q3; rw [z3] at q4
  rw [z1] at q2; rw [z4]
  exact ⟨⟨_,q5,rfl⟩,h _ q5 q3 q4 ⟨_,q1,rfl,rfl⟩ ⟨_,q2,rfl,rfl⟩ fun c o q=>Heap.get?_push_of_some _ (Heap.get?_push_of_some _ (Heap.get?_push_of_some _ (Heap.get?_push_of_some _ (Heap.get?_push_of_some _ q))))⟩
end
end ZT
namespace MR
open PySem PySem.Spec PyProof.Rows L2
section
variable {X:Cx} {elts:List Expr} {x1:Nat} {tpos:Pos}
def Ai2 (K:PySem.W.Frag) (ta:TA):TI:=fun σ H R=>ta σ H fun vs H1=>∃ a b xs ys,vs = [.ref a,.ref b] ∧ SqL K H1 a xs ∧ SqT K H1 b ys ∧ R (Yr true false K a b) H1
theorem Acm {a b:Expr} {ta:TA} {p pos:Pos} (hg:Gl X "zip") (hm:X.mg "zip" = none) (ha:PA X [a,b] ta) (hs:starEach [a,b] X.env = (false,eval a X.env) :: starEach [b] X.env:=by rfl) (hpl:(backTo pos (starEach [b] X.env)).any (·.1) = false:=by rfl):PI X (.Tuple elts x1 tpos) (.Call (.Name "zip" p) [a,b] [] pos) (Ai2 X.K ta):=by
  intro pins s σ H R I h
  refine Call_ (Hk I hg hm Kj (PyProof.Rows.callWith_type1 (thn (ha pos pins s σ H _ I h) fun us s1 ⟨vs,H1,I1,r1,q1⟩=>?_) hs hpl))
  obtain ⟨l1,l2,xs,ys,rfl,sq1,sq2,q⟩:=q1
  obtain ⟨u,u',rfl,ru,ru'⟩:=Sn r1
  cases ru; cases ru'
  obtain ⟨its1,hv1,pl1,hz1⟩:=I1.list sq1
  obtain ⟨its2,hv2,pl2,hz2⟩:=I1.tuple sq2
  have lt1:l1 < s1.heap.objs.size:=by obtain ⟨o,_,e,_⟩:=pl1; exact Heap.lt_size e
  have lt2:l2 < s1.heap.objs.size:=by obtain ⟨o,e,_⟩:=pl2; exact Heap.lt_size e
  refine ZT.U8 pl1.isList pl2 fun h' o1 o2 o3 o4 o5 o7=>?_
  have I2:L2.Inv X pins σ H1 { s1 with heap:=h' }:=I1.kept (t':=s1.toks) o7
  refine wpAny_pyIter_zip o1 ⟨_,_,_,_,H1,rfl,I2,Qb (b1:=true) (b2:=false) l1 l2 _ _ _ _ _ (La _ _ _ lt1 lt2),⟨o1,o2,⟨_,_,o3⟩,o4,o5⟩,fun b hb=>?_,q⟩
  have hb':s1.heap.objs.size ≤ b:=by
    simp only [List.mem_cons,List.not_mem_nil,or_false] at hb
    rcases hb with rfl | rfl | rfl | rfl | rfl <;> first | exact Nat.le_add_right _ _ | exact Nat.le_refl _
  exact L2.Inv.fpOk I1 hb' (I1.hok.fresh hb')
theorem Aae {K:PySem.W.Frag} {H:Hp} {α:List Addr} {n:Nat} {a b:Addr} {ws:List U} {ys:List V} (ea:α[n]? = some a) (sb:SqT K H b ys) (rb:RepL K H α ws ys):Os K (Yr true false K a b) (.zipL n ws) H α:=by
  intro H2 α2 L2 g A2 k
  have ea2:=g.at ea
  have mv:∃ zs2,SqT K H2 b zs2 ∧ RepL K H2 α2 ws zs2:=by
    have m:=(show RepU K H α (.tup ws) (.ref b) by unfold RepU; exact ⟨b,ys,rfl,sb,rb⟩).mono g
    unfold RepU at m
    obtain ⟨c',zs2,e,s2,r2⟩:=m
    cases e
    exact ⟨zs2,s2,r2⟩
  obtain ⟨ys2,sb2,rb2⟩:=mv
  refine ⟨fun u eu=>?_,fun eu=>?_⟩
  · obtain ⟨us,hw,eu⟩:=Option.map_eq_some_iff.mp eu
    obtain ⟨xs2,sa2,ra2⟩:=N7 A2 ea2 hw
    cases h1:us[k]? with
    | none=>rw [h1] at eu; simp [H0] at eu
    | some u1=>
      cases h2:ws[k]? with
      | none=>rw [h1,h2] at eu; simp [H0] at eu
      | some u2=>
        rw [h1,h2] at eu
        simp [H0] at eu
        subst eu
        obtain ⟨x,hx,rx⟩:=ra2.get h1
        obtain ⟨y,hy,ry⟩:=rb2.get h2
        refine ⟨⟨xs2,ys2,x,y,sa2,sb2,hx,hy⟩,?_⟩
        rintro z H3 ⟨p,v,v',hp,rfl,rfl,hy1,hy2⟩
        have e1:=hy1 xs2 sa2
        have e2:=hy2 ys2 sb2
        rw [hx] at e1; cases e1
        rw [hy] at e2; cases e2
        exact A2.tup (.cons rx (.cons ry .nil)) hp
  · obtain ⟨us,hw,eu⟩:=Option.map_eq_some_iff.mp eu
    obtain ⟨xs2,sa2,ra2⟩:=N7 A2 ea2 hw
    refine ⟨xs2,ys2,sa2,sb2,?_⟩
    cases h1:us[k]? with
    | none=>left; rw [← ra2.length]; exact List.getElem?_eq_none_iff.mp h1
    | some u1=>
      cases h2:ws[k]? with
      | none=>right; rw [← rb2.length]; exact List.getElem?_eq_none_iff.mp h2
      | some u2=>rw [h1,h2] at eu; simp [H0] at eu
def Lx (g:FA):FI:=fun δ L=>(g δ L).bind fun p=>match p.1 with
  | [.tup us,.tup ws]=>some (.seq (Ea us ws),p.2)
  | [.ref n,.tup ws]=>(Ao p.2 n).map fun _=>(.zipL n ws,p.2)
  | _=>none
theorem So {a b:Expr} {g:FA} {p pos:Pos} (hg:Gl X "zip") (hm:X.mg "zip" = none) (ha:PAF X [a,b] g) (hs:starEach [a,b] X.env = (false,eval a X.env) :: starEach [b] X.env:=by rfl) (hpl:(backTo pos (starEach [b] X.env)).any (·.1) = false:=by rfl):PIF X (.Tuple elts x1 tpos) (.Call (.Name "zip" p) [a,b] [] pos) (Lx g):=by
  refine PI.imp (PI.or (U6 hg hm ha hs hpl) (Acm hg hm ha hs hpl)) ?_
  rintro σ H R ⟨α,δ,L,A,S,i,L3,e,q⟩
  obtain ⟨⟨us,L1⟩,e1,ee⟩:=Option.bind_eq_some_iff.mp e
  simp only at ee
  split at ee
  · cases ee
    refine .inl ⟨α,δ,L,A,S,_,_,e1,fun xs H1 α1 g1 A1 r1=>?_⟩
    obtain ⟨x,y,rfl,rx,ry⟩:=r1.two
    unfold RepU at rx ry
    obtain ⟨a',ys,rfl,sq,r2⟩:=rx
    obtain ⟨b',ys',rfl,sq',r2'⟩:=ry
    exact ⟨a',b',ys,ys',rfl,sq,sq',q _ H1 α1 g1 A1 (S0 sq sq' r2 r2')⟩
  · obtain ⟨l,hl,e3⟩:=Option.map_eq_some_iff.mp ee
    cases e3
    refine .inr ⟨α,δ,L,A,S,_,_,e1,fun xs H1 α1 g1 A1 r1=>?_⟩
    obtain ⟨x,y,rfl,rx,ry⟩:=r1.two
    unfold RepU at ry
    obtain ⟨b',ys',rfl,sq',r2'⟩:=ry
    obtain ⟨a',ys,rfl,sq,r2⟩:=E9 A1 hl rx
    obtain ⟨a2,ea,ha2⟩:=rx.ref_of A1
    cases ha2
    exact ⟨a',b',ys,ys',rfl,sq,sq',q _ H1 α1 g1 A1 (Aae ea sq' r2')⟩
  · cases ee
end
end MR
set_option Elab.async false
set_option linter.all false
set_option maxRecDepth 100000
set_option maxHeartbeats 4000000
namespace ZT
open PySem PySem.Spec PyProof.Rows
open Sem (wp)
abbrev G8 (h:Heap) (z TI TO T:Addr) (f:Bool):Prop:=
  h.get? z = some { cls:=.type "zip",dict:=none,data:=.fields #[rawInt T,.bool f,.bool false,.ref TI,.ref TO],slots:=#[] }
section
variable {prog:Program} {w:World} {A:Around} {E:Value → Shared → Prop} {s:Shared}
theorem Rq {a:Addr} {o:Obj} {Q:Option Obj → Shared → Prop} (ho:s.heap.get? a = some o) (h:Q (some o) s):wpAny (model prog w) A (loadIfAlive a) Q E s:=fun Γ p _=>by
  unfold loadIfAlive
  rw [Sem.wp_loadIfAlive,ho]
  exact h
theorem Vb {z TI TO T:Addr} {f:Bool} {o:Obj} {Q:Bool → Shared → Prop} (hz:G8 s.heap z TI TO T f) (hT:s.heap.get? T = some o)
    (h:∀ h',G8 h' z TI TO T true → Heap.SameBut z s.heap h' → Q false { s with heap:=h' }):wpAny (model prog w) A (Builtin.SmallTypes.ownedTupleIsFree (.ref z)) Q E s:=by
  unfold Builtin.SmallTypes.ownedTupleIsFree
  refine wpAny_bind (wpAny_field hz rfl (x:=rawInt T) rfl ?_)
  show wpAny _ _ (loadIfAlive (Int.toNat (T:Int)) >>= _) _ _ _
  rw [Int.toNat_natCast]
  refine wpAny_bind (Rq hT ?_)
  simp only [Option.isNone_some,Bool.false_eq_true,if_false]
  refine wpAny_bind (wpAny_field hz rfl (x:=.bool f) rfl ?_)
  cases f with
  | true=>
    exact wpAny_pure (h _ hz ⟨rfl,fun _ _=>rfl⟩)
  | false=>
    exact wpAny_bind (wpAny_setField_rec hz (by simp) fun h' z' s'=>wpAny_pure (h h' z' s'))
variable {b1 b2:Bool} {z TI TO T j1 j2 l1 l2:Addr} {k1 k2:Nat} {xs ys:Array Value} {a b:Value} {f:Bool} {oT:Obj}
theorem Yf {x y:Value} {Q:Value → Shared → Prop} (D:ZipApart z TI TO j1 j2 l1 l2) (hz:G8 s.heap z TI TO T f) (hI:IsPair s.heap TI (.ref j1) (.ref j2)) (hT:s.heap.get? T = some oT)
    (h1:ItK b1 s.heap j1 l1 k1) (h2:ItK b2 s.heap j2 l2 k2) (g1:SqK b1 s.heap l1 xs) (g2:SqK b2 s.heap l2 ys) (hx:xs[k1]? = some x) (hy:ys[k2]? = some y)
    (hQ:∀ h',G8 h' z TI TO T true → ItK b1 h' j1 l1 (k1 + 1) → ItK b2 h' j2 l2 (k2 + 1) → IsPair h' s.heap.objs.size x y → h'.objs.size = s.heap.objs.size + 1 →
      (∀ c o,c ≠ z → c ≠ j1 → c ≠ j2 → s.heap.get? c = some o → h'.get? c = some o) → Q (.ref s.heap.objs.size) { s with heap:=h' }) :
    wpAny (model prog w) A (Builtin.«zip.__next__» ⟨[.ref z],[]⟩) (fun fin s'=>∃ v,fin = .done (.ret v) ∧ Q v s') E s:=by
  show wpAny _ _ (field (.ref z) 2 >>= fun q=>_) _ _ _
  refine wpAny_bind (wpAny_field hz rfl (x:=.bool false) rfl ?_); show wpAny _ _ (field (.ref z) 3 >>= _) _ _ _
  refine wpAny_bind (wpAny_field hz rfl (x:=.ref TI) rfl (wpAny_bind (wpAny_seqItems hI rfl ?_)))
  show wpAny _ _ (Builtin.SmallTypes.ownedTupleIsFree (.ref z) >>= fun q=>_) _ _ _
  refine wpAny_bind (Vb hz hT fun p1 z1 s1=>?_)
  simp only [Bool.false_eq_true,if_false]
  refine wpAny_bind ?_
  simp only [← Array.forIn_toList,List.forIn_cons,List.forIn_nil]
  refine wpAny_bind (wpAny_bind (wpAny_holding ?_)); show wpAny _ _ (Builtin.SmallTypes.nextOf (.ref j1) >>= _) _ _ _
  refine wpAny_bind (Nx (h1.but s1.extBut D.i1z) (g1.but s1.extBut D.l1z) hx fun p2 i2 s2=>wpAny_pure (wpAny_pure ?_))
  refine wpAny_bind (wpAny_bind (wpAny_holding ?_)); show wpAny _ _ (Builtin.SmallTypes.nextOf (.ref j2) >>= fun q=>_) _ _ _
  refine wpAny_bind (Nx ((h2.but s1.extBut D.i2z).but s2.extBut D.i12.symm) ((g2.but s1.extBut D.l2z).but s2.extBut D.l2i1) hy fun p4 i4 s4=>wpAny_pure (wpAny_pure (wpAny_pure ?_)))
  refine wpAny_bind (wpAny_newTuple (hsz:=by show 2 ≤ sizeLine; decide) ?_)
  have hsz:p4.objs.size = s.heap.objs.size:=by rw [s4.1,s2.1,s1.1]
  have z4:G8 p4 z TI TO T true:=s4.extBut _ _ D.i2z.symm (s2.extBut _ _ D.i1z.symm z1)
  refine wpAny_pure ⟨_,rfl,?_⟩
  show Q (.ref p4.objs.size) _
  rw [hsz]
  refine hQ _ (Heap.get?_push_of_some _ z4) ((i2.but s4.extBut D.i12).keep fun o e=>Heap.get?_push_of_some _ e) (i4.keep fun o e=>Heap.get?_push_of_some _ e) (by rw [← hsz]; exact Heap.get?_push_size _ rfl) (by rw [Heap.size_push,hsz]) fun c o c1 c3 c4 e=>Heap.get?_push_of_some _ (s4.extBut _ _ c4 (s2.extBut _ _ c3 (s1.extBut _ _ c1 e)))
theorem Acu {Q:Fin → Shared → Prop} (hh:A.handled = none) (D:ZipApart z TI TO j1 j2 l1 l2) (hz:G8 s.heap z TI TO T f) (hI:IsPair s.heap TI (.ref j1) (.ref j2)) (hT:s.heap.get? T = some oT)
    (h1:ItK b1 s.heap j1 l1 k1) (h2:ItK b2 s.heap j2 l2 k2) (g1:SqK b1 s.heap l1 xs) (g2:SqK b2 s.heap l2 ys) (hend:xs[k1]? = none)
    (hE:∀ h' e,(∀ c o,c ≠ z → c ≠ j1 → c ≠ j2 → s.heap.get? c = some o → h'.get? c = some o) → (∃ ob,h'.get? e = some ob ∧ ob.cls = .type "StopIteration") → E (.ref e) { s with heap:=h' }) :
    wpAny (model prog w) A (Builtin.«zip.__next__» ⟨[.ref z],[]⟩) Q E s:=by
  show wpAny _ _ (field (.ref z) 2 >>= fun q=>_) _ _ _
  refine wpAny_bind (wpAny_field hz rfl (x:=.bool false) rfl ?_); show wpAny _ _ (field (.ref z) 3 >>= _) _ _ _
  refine wpAny_bind (wpAny_field hz rfl (x:=.ref TI) rfl (wpAny_bind (wpAny_seqItems hI rfl ?_)))
  show wpAny _ _ (Builtin.SmallTypes.ownedTupleIsFree (.ref z) >>= fun q=>_) _ _ _
  refine wpAny_bind (Vb hz hT fun p1 z1 s1=>?_)
  simp only [Bool.false_eq_true,if_false]
  refine wpAny_bind ?_
  simp only [← Array.forIn_toList,List.forIn_cons,List.forIn_nil]
  refine wpAny_bind (wpAny_bind (wpAny_holding ?_)); show wpAny _ _ (Builtin.SmallTypes.nextOf (.ref j1) >>= _) _ _ _
  exact wpAny_bind (Tk hh (h1.but s1.extBut D.i1z) (g1.but s1.extBut D.l1z) hend fun p2 e s2 he=>hE p2 e (fun c o c1 c3 _ q=>s2 _ _ c3 (s1.extBut _ _ c1 q)) he)
theorem X7 {x y:Value} {Q:Option Value → Shared → Prop} (D:ZipApart z TI TO j1 j2 l1 l2) (hz:G8 s.heap z TI TO T f) (hI:IsPair s.heap TI (.ref j1) (.ref j2)) (hT:s.heap.get? T = some oT)
    (h1:ItK b1 s.heap j1 l1 k1) (h2:ItK b2 s.heap j2 l2 k2) (g1:SqK b1 s.heap l1 xs) (g2:SqK b2 s.heap l2 ys) (hx:xs[k1]? = some x) (hy:ys[k2]? = some y)
    (hQ:∀ h',G8 h' z TI TO T true → ItK b1 h' j1 l1 (k1 + 1) → ItK b2 h' j2 l2 (k2 + 1) → IsPair h' s.heap.objs.size x y → h'.objs.size = s.heap.objs.size + 1 →
      (∀ c o,c ≠ z → c ≠ j1 → c ≠ j2 → s.heap.get? c = some o → h'.get? c = some o) → Q (some (.ref s.heap.objs.size)) { s with heap:=h' }) :
    wpAny (model prog w) A (pyNext (.ref z)) Q E s:=by
  have ty:s.TypeIs (.ref z) "zip" := ⟨_,hz,rfl⟩
  unfold pyNext
  exact wpAny_bind (wpAny_attempt (wpAny_callSpecial?_slot (name:=Str.ofString "__next__") ty F.slot_zip_next (wpAny_call_entry F.slot_zip_next ty F.entry_zip_next (Yf D hz hI hT h1 h2 g1 g2 hx hy fun h' q1 q3 q4 q5 q6 q7=>wpAny_pure (hQ h' q1 q3 q4 q5 q6 q7)) (F.args_zip_next_1 _))))
theorem Ada {Q:Option Value → Shared → Prop} (hh:A.handled = none) (D:ZipApart z TI TO j1 j2 l1 l2) (hz:G8 s.heap z TI TO T f) (hI:IsPair s.heap TI (.ref j1) (.ref j2)) (hT:s.heap.get? T = some oT)
    (h1:ItK b1 s.heap j1 l1 k1) (h2:ItK b2 s.heap j2 l2 k2) (g1:SqK b1 s.heap l1 xs) (g2:SqK b2 s.heap l2 ys) (hend:xs[k1]? = none)
    (hQ:∀ h',(∀ c o,c ≠ z → c ≠ j1 → c ≠ j2 → s.heap.get? c = some o → h'.get? c = some o) → Q none { s with heap:=h' }):wpAny (model prog w) A (pyNext (.ref z)) Q E s:=by
  have ty:s.TypeIs (.ref z) "zip" := ⟨_,hz,rfl⟩
  unfold pyNext
  refine wpAny_bind (wpAny_attempt (wpAny_callSpecial?_slot (name:=Str.ofString "__next__") ty F.slot_zip_next (wpAny_call_entry F.slot_zip_next ty F.entry_zip_next (Acu hh D hz hI hT h1 h2 g1 g2 hend fun h' e hk he=>?_) (F.args_zip_next_1 _))))
  obtain ⟨ob,hob,hcl⟩:=he
  exact wpAny_bind (wpAny_isInstance (T := "StopIteration") (b:=true) ⟨ob,hob,hcl⟩ isSubtype_stop (wpAny_pure (hQ _ hk)))
end
theorem Abl:typeLookup (.type "zip") (Str.ofString "keys") = pure none:=am_miss_of_fast (by kernel_rfl)
theorem Y8:typeLookup (.type "zip") "__getattr__" = pure none:=am_miss_of_fast (by kernel_rfl)
theorem Yx {prog:Program} {w:World} {A:Around} {E:Value → Shared → Prop} {s:Shared} {P:PySem.Fin → Shared → Prop} {a:Addr} {vs:Array Value} {u:Tok} (hA:A.handled = none) (hx:s.heap.get? a = some { cls:=.type "zip",dict:=none,data:=.fields vs,slots:=#[] })
    (h:∀ h' tk e,Heap.NewAttrErr s.heap h' e (.ref a) (Str.ofString "keys") → E (.ref e) { s with heap:=h',toks:=tk }):wpAny (model prog w) A (Builtin.«object.__getattribute__» ⟨[.ref a,.str (Str.ofString "keys") u],[]⟩) P E s:=by
  obtain ⟨hp,g,d,tk,os⟩:=s
  have hT:(⟨hp,g,d,tk,os⟩:Shared).TypeIs (.ref a) "zip" := ⟨_,hx,rfl⟩
  have f1:=Abl
  unfold Builtin.«object.__getattribute__»
  (repeat (any_goals (first | assumption | wp_step))); exact wpAny_raiseAttrError hA h (attrMsg_fits (by decide +kernel) (by decide +kernel))
theorem Q7:entryFor table "zip.__getattribute__" = some Builtin.«object.__getattribute__»:=entryFor_alias (id' := "object.__getattribute__") (by kernel_rfl) (by first | rfl | decide +kernel | (unfold String.splitOn; simp +decide [String.splitOnAux])) (by decide +kernel) (by kernel_rfl)
theorem Uq {prog:Program} {w:World} {A:Around} {E:Value → Shared → Prop} {s:Shared} {Q:Option Value → Shared → Prop} {a:Addr} {vs:Array Value} (hA:A.handled = none) (hx:s.heap.get? a = some { cls:=.type "zip",dict:=none,data:=.fields vs,slots:=#[] })
    (h:∀ h' tk,(∀ b ob,s.heap.get? b = some ob → h'.get? b = some ob) → Q none { s with heap:=h',toks:=tk }):wpAny (model prog w) A (getAttr? (.ref a) (Str.ofString "keys")) Q E s:=by
  obtain ⟨hp,g,d,tk,os⟩:=s
  have hT:(⟨hp,g,d,tk,os⟩:Shared).TypeIs (.ref a) "zip" := ⟨_,hx,rfl⟩
  have f1:=sub_AttributeError
  have f3:=F.slot_zip_getattribute.lookup
  have f4:=F.slot_zip_getattribute.bind (.ref a)
  have f5:=Y8
  unfold getAttr? getAttrBy? getAttrBy
  (repeat (any_goals (first | assumption | wp_step))); refine codeAny_call_builtin F.slot_zip_getattribute.plain Q7 (F.slot_zip_getattribute.check _ _ _ _ _ _ _ _ hT (F.args_zip_getattribute_2 _ _) (Yx (A:=Around.in1 A) hA hx fun h' tk' e hn=>?_))
  obtain ⟨t',u',he⟩:=hn.there
  show wpAny _ _ (getattributeRaised _ _ _ _ _ _ _) _ _ _
  unfold getattributeRaised
  (repeat (any_goals (first | assumption | wp_step))); exact h _ _ hn.keeps
end ZT
set_option Elab.async false
set_option linter.all false
set_option maxRecDepth 100000
set_option maxHeartbeats 4000000
namespace DP
open PySem PySem.Spec PyProof.Rows ZT
def ZS (h:Heap) (z TI TO j1 j2 d:Addr):Prop:=(IsZip h z TI TO .none ∧ ∃ a b,IsPair h TO a b) ∨ ∃ T f o,G8 h z TI TO T f ∧ h.get? T = some o ∧ T ≠ z ∧ T ≠ TO ∧ T ≠ j1 ∧ T ≠ j2 ∧ T ≠ d
section
variable {prog:Program} {w:World} {A:Around} {E:Value → Shared → Prop} {s:Shared} {b1 b2:Bool} {z TI TO j1 j2 l1 l2 d:Addr} {k1 k2:Nat} {xs ys:Array Value}
theorem ZS.at {h h':Heap} (a:ZS h z TI TO j1 j2 d) (kz:d ≠ z) (kT:d ≠ TO) (k:Heap.SameBut d h h'):ZS h' z TI TO j1 j2 d:=by
  rcases a with ⟨a1,u,v,a2⟩ | ⟨T,f,o,a1,a2,n1,n2,n3,n4,n5⟩
  · exact .inl ⟨(k.2 z (Ne.symm kz)).trans a1,u,v,(k.2 TO (Ne.symm kT)).trans a2⟩
  · exact .inr ⟨T,f,o,(k.2 z (Ne.symm kz)).trans a1,(k.2 T n5).trans a2,n1,n2,n3,n4,n5⟩
theorem ZS.obj {h:Heap} (a:ZS h z TI TO j1 j2 d):∃ f0 f1,h.get? z = some { cls:=.type "zip",dict:=none,data:=.fields #[f0,f1,.bool false,.ref TI,.ref TO],slots:=#[] }:=by
  rcases a with ⟨a1,u,v,a2⟩ | ⟨T,f,o,a1,a2,n1,n2,n3,n4,n5⟩
  · exact ⟨_,_,a1⟩
  · exact ⟨_,_,a1⟩
theorem Ads {x y:Value} {oTO:Obj} {Q:Option Value → Shared → Prop} (D:ZipApart z TI TO j1 j2 l1 l2) (hz:ZS s.heap z TI TO j1 j2 d) (hO:s.heap.get? TO = some oTO) (hI:IsPair s.heap TI (.ref j1) (.ref j2)) (hd:d < s.heap.objs.size)
    (h1:ItK b1 s.heap j1 l1 k1) (h2:ItK b2 s.heap j2 l2 k2) (g1:SqK b1 s.heap l1 xs) (g2:SqK b2 s.heap l2 ys) (hx:xs[k1]? = some x) (hy:ys[k2]? = some y)
    (hQ:∀ h',ZS h' z TI TO j1 j2 d → (∃ o,h'.get? TO = some o) → ItK b1 h' j1 l1 (k1 + 1) → ItK b2 h' j2 l2 (k2 + 1) → IsPair h' s.heap.objs.size x y → s.heap.objs.size ≤ h'.objs.size →
      (∀ c o,c ≠ z → c ≠ TO → c ≠ j1 → c ≠ j2 → s.heap.get? c = some o → h'.get? c = some o) → Q (some (.ref s.heap.objs.size)) { s with heap:=h' }) :
    wpAny (model prog w) A (pyNext (.ref z)) Q E s:=by
  have lz:z < s.heap.objs.size:=by obtain ⟨_,_,q⟩:=hz.obj; exact Heap.lt_size q
  have lO:=Heap.lt_size hO
  rcases hz with ⟨a1,u,v,a2⟩ | ⟨T,f,o,a1,a2,n1,n2,n3,n4,n5⟩
  · exact U2 D a1 hI a2 h1 h2 g1 g2 hx hy fun h' q1 q2 q3 q4 q5 q6 q7=>hQ h' (.inr ⟨_,false,_,q1,q5,Nat.ne_of_gt lz,Nat.ne_of_gt lO,Nat.ne_of_gt h1.lt,Nat.ne_of_gt h2.lt,Nat.ne_of_gt hd⟩) ⟨_,q2⟩ q3 q4 q5 (by rw [q6]; exact Nat.le_succ _) q7
  · exact X7 D a1 hI a2 h1 h2 g1 g2 hx hy fun h' q1 q3 q4 q5 q6 q7=>hQ h' (.inr ⟨T,true,o,q1,q7 T o n1 n3 n4 a2,n1,n2,n3,n4,n5⟩) ⟨_,q7 TO oTO D.TOz D.TOi1 D.TOi2 hO⟩ q3 q4 q5 (by rw [q6]; exact Nat.le_succ _) fun c o c1 _ c3 c4 e=>q7 c o c1 c3 c4 e
theorem Agr {Q:Option Value → Shared → Prop} (hh:A.handled = none) (D:ZipApart z TI TO j1 j2 l1 l2) (hz:ZS s.heap z TI TO j1 j2 d) (hI:IsPair s.heap TI (.ref j1) (.ref j2))
    (h1:ItK b1 s.heap j1 l1 k1) (h2:ItK b2 s.heap j2 l2 k2) (g1:SqK b1 s.heap l1 xs) (g2:SqK b2 s.heap l2 ys) (hx:xs[k1]? = none)
    (hQ:∀ h',(∀ c o,c ≠ z → c ≠ TO → c ≠ j1 → c ≠ j2 → s.heap.get? c = some o → h'.get? c = some o) → Q none { s with heap:=h' }) :
    wpAny (model prog w) A (pyNext (.ref z)) Q E s:=by
  rcases hz with ⟨a1,u,v,a2⟩ | ⟨T,f,o,a1,a2,n1,n2,n3,n4,n5⟩
  · exact Aaz hh D a1 hI a2 h1 h2 g1 g2 (.inl hx) hQ
  · exact Ada hh D a1 hI a2 h1 h2 g1 g2 hx fun h' k=>hQ h' fun c o c1 _ c3 c4 e=>k c o c1 c3 c4 e
end
theorem Y0 {prog:Program} {w:World} {A:Around} {s:Shared} {R:Result → Shared → Prop} {d z TI TO j1 j2 l1 l2:Addr} {xs ys:List Value} {ps:List (L2.Key × Value)} {h1:Heap} (hA:A.handled = none) (res:Value) (D:ZipApart z TI TO j1 j2 l1 l2) (dz:d ≠ z) (dTI:d ≠ TI) (dTO:d ≠ TO) (di1:d ≠ j1) (di2:d ≠ j2) (dl1:d ≠ l1) (dl2:d ≠ l2)
    (hlen:xs.length = ps.length) (hle:ps.length ≤ ys.length) (hsz:ps.length ≤ 1000000)
    (hp:∀ (j:Nat) (x y:Value) (p:L2.Key × Value),xs[j]? = some x → ys[j]? = some y → ps[j]? = some p → (L2.B0 prog w).is p.1 x = true ∧ p.2 = y)
    (hI:IsPair h1 TI (.ref j1) (.ref j2)) (g1:SqK true h1 l1 xs.toArray) (g2:SqK false h1 l2 ys.toArray)
    (hR:∀ h' tk,(∀ b o,b ≠ d → b ≠ z → b ≠ TO → b ≠ j1 → b ≠ j2 → h1.get? b = some o → h'.get? b = some o) → h'.DictOf (L2.B0 prog w) d (merged [] ps) → R (.ok (.ret res)) { s with heap:=h',toks:=tk }) :
    ∀ (k i:Nat) (h:Heap) (tk:Nat),ps.length - i = k → i ≤ ps.length → (∀ b o,b ≠ d → b ≠ z → b ≠ TO → b ≠ j1 → b ≠ j2 → h1.get? b = some o → h.get? b = some o) → ZS h z TI TO j1 j2 d → (∃ o,h.get? TO = some o) → ItK true h j1 l1 i → ItK false h j2 l2 i → h.DictOf (L2.B0 prog w) d (merged [] (ps.take i)) →
      codeAny (model prog w) A (.builtin "dict.update.loop" ⟨[.ref d,.ref z,rawInt i,res],[]⟩) R { s with heap:=h,toks:=tk }:=by
  intro k
  induction k with
  | zero=>
    intro i h tk hk hi hkeep hz hO i1 i2 hD
    have hin:i = ps.length:=by omega
    subst hin
    rw [List.take_length] at hD
    refine codeAny_builtin V3 ?_
    rw [Around.under_plainId Mt _]
    show wpAny _ A.in1 (pyNext (.ref z) >>= _) _ _ _
    refine wpAny_bind (Agr (s:={ s with heap:=h,toks:=tk }) (A:=A.in1) hA D hz (hkeep _ _ (Ne.symm dTI) D.TIz D.TITO D.TIi1 D.TIi2 hI) i1 i2 (g1.keep fun o q=>hkeep l1 o (Ne.symm dl1) D.l1z D.l1TO D.l1i1 D.l1i2 q) (g2.keep fun o q=>hkeep l2 o (Ne.symm dl2) D.l2z D.l2TO D.l2i1 D.l2i2 q) (by simp; omega) fun h' he=>?_)
    refine wpAny_bind (wpAny_pure (wpAny_pure (hR h' tk (fun b o x1 x2 x3 x4 x5 e=>he b o x2 x3 x4 x5 (hkeep b o x1 x2 x3 x4 x5 e)) ?_)))
    obtain ⟨o,es,ep,ho,r⟩:=hD
    exact ⟨o,es,ep,he d o dz dTO di1 di2 ho,r⟩
  | succ k ih=>
    intro i h tk hk hi hkeep hz ⟨oTO,hO⟩ i1 i2 hD
    have hlt:i < ps.length:=by omega
    have hlt1:i < xs.length:=by omega
    have hlt2:i < ys.length:=by omega
    obtain ⟨e3,e4⟩:=hp i xs[i] ys[i] ps[i] (List.getElem?_eq_getElem hlt1) (List.getElem?_eq_getElem hlt2) (List.getElem?_eq_getElem hlt)
    have hd:d < h.objs.size:=by obtain ⟨o,es,ep,ho,r⟩:=hD; exact Heap.lt_size ho
    refine codeAny_builtin V3 ?_
    rw [Around.under_plainId Mt _]
    show wpAny _ A.in1 (pyNext (.ref z) >>= _) _ _ _
    refine wpAny_bind (Ads (s:={ s with heap:=h,toks:=tk }) (A:=A.in1) D hz hO (hkeep _ _ (Ne.symm dTI) D.TIz D.TITO D.TIi1 D.TIi2 hI) hd i1 i2 (g1.keep fun o q=>hkeep l1 o (Ne.symm dl1) D.l1z D.l1TO D.l1i1 D.l1i2 q) (g2.keep fun o q=>hkeep l2 o (Ne.symm dl2) D.l2z D.l2TO D.l2i1 D.l2i2 q) (x:=xs[i]) (y:=ys[i]) (by simp [hlt1]) (by simp [hlt2]) fun h' hz' hO' i1' i2' hT hsz' hk'=>?_)
    have hD':h'.DictOf (L2.B0 prog w) d (merged [] (ps.take i)):=by
      obtain ⟨o,es,ep,ho,r⟩:=hD
      exact ⟨o,es,ep,hk' d o dz dTO di1 di2 ho,r⟩
    refine wpAny_bind (wpAny_holding (wpAny_bind (wpAny_tryCatch ?_)))
    unfold Builtin.Dict.pairItems
    refine wpAny_bind (wpAny_typeOf (T := "tuple") ⟨_,hT,rfl⟩ ?_)
    rw [if_pos (by rfl)]
    refine wpAny_bind (show wpAny _ _ (seqItems? (Value.ref h.objs.size)) _ _ _ from ?_)
    unfold seqItems?
    refine wpAny_bind (wpAny_load hT ?_)
    refine wpAny_pure (wpAny_pure (wpAny_holding (wpAny_dictSet_pairs (s:={ s with heap:=h',toks:=tk }) e3 hD' (fun h2 hD2 hs2=>?_) ?zz)))
    case zz=>have:=Oz (ps.take i); rw [sizeLine_eq]; simp at this; omega
    have htk:merged [] (ps.take (i + 1)) = stored (merged [] (ps.take i)) ps[i].1 ps[i].2:=by
      rw [List.take_add_one,List.getElem?_eq_getElem hlt]
      unfold merged
      rw [List.foldl_append]; rfl
    refine wpAny_pure ⟨plainId_quiet Mt _,?_⟩
    have hcast:((i:Int) + 1) = ((i + 1:Nat):Int):=by omega
    rw [hcast]
    obtain ⟨oT,hoT⟩:=hO'
    refine ih (i + 1) h2 _ (by omega) hlt (fun b o x1 x2 x3 x4 x5 e=>(hs2.2 b x1).trans (hk' b o x2 x3 x4 x5 (hkeep b o x1 x2 x3 x4 x5 e))) (hz'.at dz dTO hs2) ⟨oT,(hs2.2 TO (Ne.symm dTO)).trans hoT⟩ (i1'.keep fun o e=>(hs2.2 j1 (Ne.symm di1)).trans e) (i2'.keep fun o e=>(hs2.2 j2 (Ne.symm di2)).trans e) ?_
    rw [htk,e4]; exact hD2
theorem Aba {prog:Program} {w:World} {A:Around} {E:Value → Shared → Prop} {s:Shared} {Q:Value → Shared → Prop} {z TI TO j1 j2 l1 l2:Addr} {xs ys:List Value} {ps:List (L2.Key × Value)} (hA:A.handled = none) (D:ZipApart z TI TO j1 j2 l1 l2)
    (hz:IsZip s.heap z TI TO .none) (hO:IsPair s.heap TO .none .none) (hI:IsPair s.heap TI (.ref j1) (.ref j2)) (i1:ItK true s.heap j1 l1 0) (i2:ItK false s.heap j2 l2 0) (g1:SqK true s.heap l1 xs.toArray) (g2:SqK false s.heap l2 ys.toArray)
    (hlen:xs.length = ps.length) (hle:ps.length ≤ ys.length) (hsz:ps.length ≤ 1000000)
    (hp:∀ (j:Nat) (x y:Value) (p:L2.Key × Value),xs[j]? = some x → ys[j]? = some y → ps[j]? = some p → (L2.B0 prog w).is p.1 x = true ∧ p.2 = y)
    (hQ:∀ h' tk,(∀ b o,b ≠ z → b ≠ TO → b ≠ j1 → b ≠ j2 → s.heap.get? b = some o → h'.get? b = some o) → h'.DictOf (L2.B0 prog w) s.heap.objs.size (merged [] ps) → Q (.ref s.heap.objs.size) { s with heap:=h',toks:=tk }) :
    wpAny (model prog w) A (call (.type "dict") [.ref z]) Q E s:=by
  refine callType_codes (Q₁:=fun obj s₁=>obj = .ref s.heap.objs.size ∧ s₁ = { s with heap:=s.heap.push { cls:=.type "dict",data:=.dict #[] } }) F.kt_called_dict (F.kt_typeCall_dict_1 _) F.entry_dict_init (kt_code_dict_new _ ⟨rfl,rfl⟩) ?_
  rintro _ _ ⟨rfl,rfl⟩
  have new:(s.heap.push { cls:=.type "dict",data:=.dict #[] }).DictOf (L2.B0 prog w) s.heap.objs.size []:=Heap.DictOf.new s.heap
  have kp:∀ b o,s.heap.get? b = some o → (s.heap.push { cls:=.type "dict",data:=.dict #[] }).get? b = some o:=fun b o e=>Heap.get?_push_of_some _ e
  have hz1:=kp _ _ hz
  refine ⟨new.typeIs,F.args_dict_init_2 _ _,?_⟩
  unfold Builtin.«dict.__init__» Builtin.Dict.selfAndRest
  refine wpAny_bind (wpAny_bind (wpAny_notOrdered_dict new.typeIs (show wpAny _ _ (pure (s.heap.objs.size,[Value.ref z])) _ _ _ from wpAny_pure ?_)))
  show wpAny _ _ (Builtin.Dict.updateFrom "dict.__init__" s.heap.objs.size (.ref z) [] .none) _ _ _
  unfold Builtin.Dict.updateFrom
  refine wpAny_bind (wpAny_typeOf (T := "zip") ⟨_,hz1,rfl⟩ ?_)
  rw [if_pos (by decide)]
  refine wpAny_bind (Uq hA hz1 fun h2 tk2 kp2=>?_)
  rw [if_pos (show (none:Option Value).isNone = true from rfl)]
  have kk:∀ b o,s.heap.get? b = some o → h2.get? b = some o:=fun b o e=>kp2 _ _ (kp _ _ e)
  have new2:h2.DictOf (L2.B0 prog w) s.heap.objs.size []:=by
    obtain ⟨o,es,ep,ho,r⟩:=new
    exact ⟨o,es,ep,kp2 _ _ ho,r⟩
  have far:∀ b o,s.heap.get? b = some o → s.heap.objs.size ≠ b:=fun b o e=>Nat.ne_of_gt (Heap.lt_size e)
  have fl1:s.heap.objs.size ≠ l1:=by obtain ⟨o,q,_⟩:=(show s.heap.IsList l1 xs.toArray from g1); exact far _ _ q
  have fl2:s.heap.objs.size ≠ l2:=by obtain ⟨o,q,_⟩:=(show s.heap.IsTuple l2 ys.toArray from g2); exact far _ _ q
  refine wpAny_bind (wpAny_rule (wpAny_bind (wpAny_pyIter_zip (s:={ s with heap:=h2,toks:=tk2 }) (kk _ _ hz) (wpAny_pure ⟨plainId_quiet Mt _,?_⟩))))
  refine Y0 (A:=A.in1) (s:=s) (xs:=xs) (ys:=ys) (ps:=ps) (h1:=h2) hA .none D (far _ _ hz) (far _ _ hI) (far _ _ hO) (Nat.ne_of_gt i1.lt) (Nat.ne_of_gt i2.lt) fl1 fl2 hlen hle hsz hp (kk _ _ hI) (g1.keep fun o q=>kk _ _ q) (g2.keep fun o q=>kk _ _ q) (fun h' tk hk hD=>?_) ps.length 0 _ _ rfl (Nat.zero_le _) (fun b o _ _ _ _ _ e=>e) (.inl ⟨kk _ _ hz,_,_,kk _ _ hO⟩) ⟨_,kk _ _ hO⟩ (i1.keep fun o q=>kk _ _ q) (i2.keep fun o q=>kk _ _ q) new2
  exact ⟨rfl,hQ h' tk (fun b o x1 x2 x3 x4 e=>hk b o (Ne.symm (far b o e)) x1 x2 x3 x4 (kk b o e)) hD⟩
end DP
namespace MR
open PySem PySem.Spec PyProof.Rows PySem.Calls L2 DP
def Aje (K:PySem.W.Frag) (ta:TA):TE:=fun σ H Q=>ta σ H fun vs H1=>∃ (l1 l2:Addr) (ks:List Key) (ys:List V),vs = [.ref l1,.ref l2] ∧ SqL K H1 l1 (ks.map kV) ∧ SqT K H1 l2 ys ∧ ks.length ≤ ys.length ∧ ks.length ≤ 1000000 ∧ ∀ p,H1 p = none → Q (.ref p) (upd H1 p (.dK (Iy [] (ks.zip ys))))
theorem Aam {P:Program} {w:World}:∀ {ks:List Key} {ys:List V} {us vs:List Value},Vals (ks.map kV) us → Vals ys vs → ks.length ≤ ys.length → ∃ ps:List (Key × Value),KV (ks.zip ys) ps ∧ us.length = ps.length ∧ ps.length ≤ vs.length ∧ ∀ (j:Nat) (x y:Value) (p:Key × Value),us[j]? = some x → vs[j]? = some y → ps[j]? = some p → (B0 P w).is p.1 x = true ∧ p.2 = y
  | [],ys,us,vs,r1,r2,hl=>by
    cases r1
    exact ⟨[],by rw [List.zip_nil_left]; exact .nil,rfl,Nat.zero_le _,fun j x y p e=>by simp at e⟩
  | k :: ks,[],us,vs,r1,r2,hl=>by simp at hl
  | k :: ks,v :: ys,us,vs,r1,r2,hl=>by
    cases r1 with
    | @cons _ u _ us' a1 a2=>
      cases r2 with
      | @cons _ v' _ vs' b1 b2=>
        obtain ⟨ps,kv,e1,e2,hp⟩:=Aam (P:=P) (w:=w) a2 b2 (by simpa using hl)
        refine ⟨(k,v') :: ps,.cons ⟨rfl,b1⟩ kv,by simp [e1],by simpa using e2,fun j x y p q1 q2 q3=>?_⟩
        cases j with
        | zero=>
          simp at q1 q2 q3
          subst q1 q2 q3
          exact ⟨Ai5 a1,rfl⟩
        | succ j=>exact hp j x y p (by simpa using q1) (by simpa using q2) (by simpa using q3)
section
variable {X:Cx}
theorem Xy:bootBuiltins "dict" = some (.type "dict"):=by decide +kernel
theorem Ac5 {a b:Expr} {ta:TA} {p1 p2 pos1 pos2:Pos} (hcalm:X.calm = true) (hgd:Gl X "dict") (hmd:X.mg "dict" = none) (hg:Gl X "zip") (hm:X.mg "zip" = none) (ha:PA X [a,b] ta) (hs:starEach [a,b] X.env = (false,eval a X.env) :: starEach [b] X.env:=by rfl) (hpl:(backTo pos2 (starEach [b] X.env)).any (·.1) = false:=by rfl)
    (hs1:starEach [.Call (.Name "zip" p2) [a,b] [] pos2] X.env = (false,eval (.Call (.Name "zip" p2) [a,b] [] pos2) X.env) :: starEach [] X.env:=by rfl) (hpl1:(backTo pos1 (starEach [] X.env)).any (·.1) = false:=by rfl) :
    PE X (.Call (.Name "dict" p1) [.Call (.Name "zip" p2) [a,b] [] pos2] [] pos1) (Aje X.K ta):=by
  intro pins s σ H Q I h
  refine Call_ (Hk I hgd hmd Xy (PyProof.Rows.callWith_type1 ?_ hs1 hpl1))
  rw [hs1]
  show wpAny _ _ (spliced ((false,eval (.Call (.Name "zip" p2) [a,b] [] pos2) X.env) :: backTo pos1 (starEach [] X.env))) _ _ s
  refine Calls.spliced_cons ?_
  refine Call_ (Hk I hg hm Kj (PyProof.Rows.callWith_type1 (thn (ha pos2 pins s σ H _ I h) fun us s1 ⟨vs,H1,I1,r1,q1⟩=>?_) hs hpl))
  obtain ⟨l1,l2,ks,ys,rfl,sq1,sq2,hle,hsz,q⟩:=q1
  obtain ⟨u,u',rfl,ru,ru'⟩:=Sn r1
  cases ru; cases ru'
  obtain ⟨its1,hv1,pl1,hz1⟩:=I1.list sq1
  obtain ⟨its2,hv2,pl2,hz2⟩:=I1.tuple sq2
  have lt1:l1 < s1.heap.objs.size:=by obtain ⟨o,_,e,_⟩:=pl1; exact Heap.lt_size e
  have lt2:l2 < s1.heap.objs.size:=by obtain ⟨o,e,_⟩:=pl2; exact Heap.lt_size e
  have hA:=I1.ok.hd hcalm
  refine ZT.U8 pl1.isList pl2 fun h' o1 o2 o3 o4 o5 o7=>Calls.spliced_nil ?_
  obtain ⟨ps,kv,e1,e2,hp⟩:=Aam (P:=X.prog) (w:=X.w) hv1 hv2 hle
  have hl1:=kv.length
  have hl2:=hv1.length
  have hl3:ps.length = ks.length:=by rw [List.length_map] at hl2; omega
  have g1:ZT.SqK true h' l1 its1.toArray:=(show ZT.SqK true s1.heap l1 its1.toArray from pl1.isList).keep fun o q=>o7 _ _ q
  have g2:ZT.SqK false h' l2 its2.toArray:=(show ZT.SqK false s1.heap l2 its2.toArray from pl2).keep fun o q=>o7 _ _ q
  refine Aba (s:={ s1 with heap:=h' }) (xs:=its1) (ys:=its2) (ps:=ps) hA (La _ _ _ lt1 lt2) o1 o3 o2 o4 o5 g1 g2 e1 e2 (by omega) hp fun h2 tk kp hD=>?_
  have kq:∀ b o,s1.heap.get? b = some o → h2.get? b = some o:=fun b o e=>by
    have lb:=Heap.lt_size e
    exact kp b o (Nat.ne_of_lt (Nat.lt_of_lt_of_le lb (Nat.le_add_right _ _))) (Nat.ne_of_lt (Nat.lt_of_lt_of_le lb (Nat.le_add_right _ _))) (Nat.ne_of_lt lb) (Nat.ne_of_lt (Nat.lt_of_lt_of_le lb (Nat.le_add_right _ _))) (o7 b o e)
  have hle2:s1.heap.objs.size ≤ h'.objs.size:=by
    have:=Heap.lt_size o1
    exact Nat.le_trans (Nat.le_add_right _ 4) (Nat.le_of_lt this)
  have hz2:(Iy [] (ks.zip ys)).length ≤ sizeLine:=by have:=Ju (ks.zip ys) []; rw [sizeLine_eq]; simp at this; omega
  have I2:L2.Inv X pins σ (upd H1 h'.objs.size (.dK (Iy [] (ks.zip ys)))) { s1 with heap:=h2,toks:=tk }:=I1.laid (t':=tk) kq hle2 (Ag7 hz2 (beq_eq_false_iff_ne.mpr (Ne.symm (Nat.ne_of_lt (Nat.lt_of_lt_of_le I1.big hle2)))) (kv.merge .nil) hD)
  exact ⟨.ref h'.objs.size,_,I2,rfl,q _ (I1.hok.fresh hle2)⟩
def Y2 (g:FA):FE:=fun δ L=>(g δ L).bind fun p=>match p.1 with
  | [.ref n,.tup ws]=>(Ao p.2 n).bind fun us=>(mapO toK us).bind fun ks=>if ks.length ≤ ws.length ∧ ks.length ≤ 1000000 then some (.ref p.2.length,p.2 ++ [.dic (T0 (ks.zip ws))]) else none
  | _=>none
theorem Vs {K:PySem.W.Frag} {H:Hp} {α:List Addr}:∀ {us:List U} {xs:List V} {ks:List Key},RepL K H α us xs → mapO toK us = some ks → xs = ks.map kV
  | [],xs,ks,r,e=>by
    unfold RepL at r; subst r
    simp only [mapO] at e; cases e
    rfl
  | u :: us,xs,ks,r,e=>by
    unfold RepL at r
    obtain ⟨x,xr,rfl,r1,r2⟩:=r
    simp only [mapO] at e
    obtain ⟨k,e1,e⟩:=Option.bind_eq_some_iff.mp e
    obtain ⟨kr,e2,e⟩:=Option.map_eq_some_iff.mp e
    subst e
    rw [List.map_cons,← Vs r2 e2,Afd r1 e1]
theorem U3 {K:PySem.W.Frag} {H:Hp} {α:List Addr}:∀ {ks:List Key} {ws:List U} {ys:List V},RepL K H α ws ys → RepKV K H α (ks.zip ws) (ks.zip ys)
  | [],ws,ys,r=>by rw [List.zip_nil_left,List.zip_nil_left]; exact .nil
  | k :: ks,[],ys,r=>by
    unfold RepL at r; subst r
    rw [List.zip_nil_right,List.zip_nil_right]; exact .nil
  | k :: ks,w :: ws,ys,r=>by
    unfold RepL at r
    obtain ⟨x,xr,rfl,r1,r2⟩:=r
    rw [List.zip_cons_cons,List.zip_cons_cons]
    exact .mk r1 (U3 r2)
theorem Acv {a b:Expr} {g:FA} {p1 p2 pos1 pos2:Pos} (hcalm:X.calm = true) (hgd:Gl X "dict") (hmd:X.mg "dict" = none) (hg:Gl X "zip") (hm:X.mg "zip" = none) (ha:PAF X [a,b] g) (hs:starEach [a,b] X.env = (false,eval a X.env) :: starEach [b] X.env:=by rfl) (hpl:(backTo pos2 (starEach [b] X.env)).any (·.1) = false:=by rfl)
    (hs1:starEach [.Call (.Name "zip" p2) [a,b] [] pos2] X.env = (false,eval (.Call (.Name "zip" p2) [a,b] [] pos2) X.env) :: starEach [] X.env:=by rfl) (hpl1:(backTo pos1 (starEach [] X.env)).any (·.1) = false:=by rfl) :
    PEF X (.Call (.Name "dict" p1) [.Call (.Name "zip" p2) [a,b] [] pos2] [] pos1) (Y2 g):=by
  refine PE.imp (Ac5 hcalm hgd hmd hg hm ha hs hpl hs1 hpl1) ?_
  rintro σ H Q ⟨α,δ,L,A,S,z,L3,e,q⟩
  obtain ⟨⟨us,L1⟩,e1,ee⟩:=Option.bind_eq_some_iff.mp e
  simp only at ee
  split at ee
  · obtain ⟨l,hl,ee⟩:=Option.bind_eq_some_iff.mp ee
    obtain ⟨ks,hk,ee⟩:=Option.bind_eq_some_iff.mp ee
    split at ee
    · rename_i hc
      cases ee
      refine ⟨α,δ,L,A,S,_,_,e1,fun xs H1 α1 g1 A1 r1=>?_⟩
      obtain ⟨x,y,rfl,rx,ry⟩:=r1.two
      obtain ⟨a',ys,rfl,sq,r2⟩:=E9 A1 hl rx
      unfold RepU at ry
      obtain ⟨b',ys',rfl,sq',r2'⟩:=ry
      rw [Vs r2 hk] at sq
      refine ⟨a',b',ks,ys',rfl,sq,sq',by rw [← r2'.length]; exact hc.1,hc.2,fun p hp=>?_⟩
      obtain ⟨g2,A2,r3⟩:=A1.dict (Qk (U3 r2') .nil) hp
      exact q _ _ _ (g1.trans g2) A2 r3
    · cases ee
  · cases ee
end
end MR
set_option Elab.async false
set_option linter.all false
set_option maxRecDepth 100000
set_option maxHeartbeats 4000000
namespace SO
open PySem PySem.W PyProof.Rows
def Ti {α:Type} (lt:Nat → Nat → Bool):KasT α → α
  | .ret a=>a
  | .ask i j k=>Ti lt (k (lt i j))
theorem On.run {α:Type} {n:Nat} {lt:Nat → Nat → Bool} {P:α → Prop}:∀ {t:KasT α},On n lt P t → On n lt (fun a=>a = Ti lt t) t
  | .ret a,h=>rfl
  | .ask i j k,h=>⟨h.1,h.2.1,On.run h.2.2⟩
theorem On.holds {α:Type} {n:Nat} {lt:Nat → Nat → Bool} {P:α → Prop}:∀ {t:KasT α},On n lt P t → P (Ti lt t)
  | .ret a,h=>h
  | .ask i j k,h=>by
    show P (Ti lt (k (lt i j)))
    exact On.holds h.2.2
def Fd (lt:Nat → Nat → Bool) (n:Nat):List Nat:=if n < 2 then List.range n else (Ti lt (kas_sort n)).toList
theorem Kc {n:Nat} {lt:Nat → Nat → Bool} (W:Wo lt):(Fd lt n).Perm (List.range n):=by
  unfold Fd
  split
  · exact .refl _
  · exact (Q2 (n:=n) W (by omega)).holds.1.perm
end SO
namespace MR
open PySem PySem.Spec PyProof.Rows PySem.Calls L2 SO
section
variable {X:Cx} {pins:List (Addr × Obj)} {σ:L2.St} {H:Hp} {s:Shared} {h':Heap}
theorem Inv.adopt {a:Addr} {o:HO} {t':Nat} (I:L2.Inv X pins σ H s) (hf:Fu X pins H a) (k:∀ b o,b ≠ a → s.heap.get? b = some o → h'.get? b = some o) (new:ObjOk X.prog X.w (upd H a o) h' a o) :
    L2.Inv X pins σ (upd H a o) { s with heap:=h',toks:=t' }:=by
  have hn:H a = none:=hf.1
  have na:∀ b u,H b = some u → b ≠ a:=fun b u e z=>by rw [z,hn] at e; cases e
  have st:=Stay.new hn o
  refine I.step (g':=s.gens) (d':=s.drawn) (ch:=[a]) (fun b hb=>?_) (fun b o _ _ hc e _=>k b o (fun z=>hc (by simp [z])) e) (fun b o _ _ hc e _=>⟨o.slots,k b o (fun z=>hc (by simp [z])) e⟩) (fun b u hc e n=>?_) (fun b u hc e=>⟨u,k b u (fun z=>hc (by simp [z])) e⟩) st.1 st.2 (fun b ps e=>⟨#[],?_⟩) (fun m hm=>?_) (fun b u e=>?_) I.bare
  · have e:b = a:=by simpa using hb
    subst e
    obtain ⟨_,f1,_,f3,f4,f5⟩:=hf
    exact ⟨f3,f1,f4,f5⟩
  · rw [Az (fun z=>hc (by simp [z]))]; exact n
  · rw [Az (na b _ e),e]; simp
  · obtain ⟨o1,es,ep,ho,r⟩:=hm
    exact ⟨o1,es,ep,k _ o1 (Ne.symm hf.2.1) ho,r⟩
  · by_cases hb:b = a
    · subst hb; rw [Es] at e; cases e; exact new
    · rw [Az hb] at e
      refine (I.hok b u e).stay (fun c v hc q=>k c v ?_ q) (fun c q=>by rw [Az (na c _ q)]; exact q) fun c xs q=>by rw [Az (na c _ q)]; exact q
      rcases hc with z | z
      · rw [z]; exact hb
      · exact na c _ z
theorem Ad1 {A:Around} {k:Nat} {f:Addr} {fd:FuncData} {p:Str} {m:FN} (F:FnOk X.prog X.w X.K X.mg X.base CX0 k f fd [p] (spF X.K 1 m)) (hr:Room k A) (hA:A.frames = X.A.frames) (hb:Binds X.K fd [p] [])
    (I:L2.Inv X pins σ H s) {α:List Addr} {L:UH} {u z:U} {y:V} {x:Value} (Ab:Abs X.K H α L) (ru:RepU X.K H α u y) (rx:L2.RelV y x) (hm:m [u] L = some (z,L)) :
    wpAny (model X.prog X.w) A (call (.ref f) [x]) (EP X pins σ (fun v H'=>∃ α',Gr H α H' α' ∧ Abs X.K H' α' L ∧ RepU X.K H' α' z v)) (fun _ _=>False) s:=by
  have e0:=I.env0
  have e1:Env0 X.prog X.w X.K X.mg X.base A X.stack s H:=⟨hA.trans e0.frames,e0.mod,e0.bs,e0.bsz,e0.funs,e0.frf,e0.hok,e0.bare⟩
  have hsp:spF X.K 1 m [y] H (fun v H'=>∃ α',Gr H α H' α' ∧ Abs X.K H' α' L ∧ RepU X.K H' α' z v) E0:=⟨α,L,[u],Ab,.cons ru .nil,rfl,z,L,hm,fun v H' α' g A' r'=>⟨α',g,A',r'⟩⟩
  have hbt:=hb s [x] I.kIn (by simp)
  refine wpAny_call (codeAny_mono (F.run A X.stack s H ⟨[x],[]⟩ [x] [y] _ E0 hr e1 (by simpa using hbt) (.cons rx .nil) hsp) fun r s' hq=>?_)
  cases r with
  | error e=>exact hq
  | ok fl=>
    cases fl with
    | ret u=>exact I.after hq
    | next=>exact False.elim hq
    | brk=>exact False.elim hq
    | cont=>exact False.elim hq
end
section
variable {X:Cx} {pins:List (Addr × Obj)} {σ:L2.St} {H:Hp} {s:Shared}
theorem Vc:∀ l:List Int,mapO toI (l.map U.int) = some l
  | []=>rfl
  | a :: r=>by simp only [List.map_cons,mapO,toI,Vc r,Option.bind_some,Option.map_some]
def ltK (ks:List (List Int)) (i j:Nat):Bool:=ltT (ks.getD i []) (ks.getD j [])
theorem Qu (ks:List (List Int)):Wo (ltK ks):=⟨fun i j h=>Iu _ _ h,fun i j k h1 h2=>Nj _ _ _ h1 h2⟩
theorem Ag3 {k:Nat} {f a:Addr} {fd:FuncData} {p:Str} {m:FN} {c0:Nat} {vs:List Value} {ys:List V} {us:List U} {ks:List (List Int)} {α:List Addr} {L:UH}
    (F:FnOk X.prog X.w X.K X.mg X.base CX0 k f fd [p] (spF X.K 1 m)) (hr:Room k X.A.in1.in1) (hb:Binds X.K fd [p] []) (I:L2.Inv X pins σ H s) (fa:Fu X pins H a)
    (ho:s.heap.get? a = some (seqObj "list" vs.toArray c0)) (rv:Vals ys vs) (ru:RepL X.K H α us ys) (Ab:Abs X.K H α L) (hl:ks.length = vs.length) (hk1:∀ t ∈ ks,t ≠ [])
    (hk:∀ (i:Nat) (u:U) (t:List Int),us[i]? = some u → ks[i]? = some t → m [u] L = some (Se t,L)) (h64:vs.length < 64) :
    wpAny (model X.prog X.w) X.A.in1.in1 (ksk_tree a (.ref f) false) (fun fin s'=>fin = .done (.ret .none) ∧ ∃ H' α',L2.Inv X pins σ (upd H' a (.lst ((Fd (ltK ks) vs.length).map fun i=>ys.getD i .non))) s' ∧ H' a = none ∧ Gr H α H' α' ∧ Abs X.K H' α' L) X.xe s:=by
  have hyl:=rv.length
  have hul:=ru.length
  have z1:vs.toArray.size ≤ sizeLine:=by rw [List.size_toArray,sizeLine_eq]; omega
  obtain ⟨e1,h1⟩:∃ e1,(s.heap.update a (Obj.mapSeq fun _=>(#[]:Array Value))).get? a = some (seqObj "list" #[] e1):=⟨_,get?_update_seq ho fun _=>#[]⟩
  have hlt:a < s.heap.objs.size:=Heap.lt_size ho
  have sb:=Heap.SameBut.update s.heap a (Obj.mapSeq fun _=>(#[]:Array Value))
  have I1:L2.Inv X pins σ H { s with heap:=s.heap.update a (Obj.mapSeq fun _=>(#[]:Array Value)) }:=I.turned (t':=s.toks) (fun b o hb e=>(sb.2 b hb).trans e) fa.1 fa.2.1 fa.2.2.2.1 fa.2.2.2.2.1 fa.2.2.2.2.2
  have hs1:(s.heap.update a (Obj.mapSeq fun _=>(#[]:Array Value))).objs.size = s.heap.objs.size:=Heap.size_update ..
  generalize hA:s.heap.update a (Obj.mapSeq fun _=>(#[]:Array Value)) = hp1 at h1 I1 hs1
  have I2:L2.Inv X pins σ H { s with heap:=hp1.push { cls:=.type "tuple",data:=.seq vs.toArray } }:=I1.kept (t':=s.toks) fun b o e=>Heap.get?_push_of_some _ e
  have h2:(hp1.push { cls:=.type "tuple",data:=.seq vs.toArray }).get? a = some (seqObj "list" #[] e1):=Heap.get?_push_of_some _ h1
  have hs2:(hp1.push { cls:=.type "tuple",data:=.seq vs.toArray }).objs.size = s.heap.objs.size + 1:=by rw [Heap.size_push,hs1]
  generalize hB:hp1.push { cls:=.type "tuple",data:=.seq vs.toArray } = hp2 at I2 h2 hs2
  have I3:L2.Inv X pins σ H { s with heap:=hp2.push { cls:=.type "list",data:=.seq (List.toArray []) } }:=I2.kept (t':=s.toks) fun b o e=>Heap.get?_push_of_some _ e
  have h3:(hp2.push { cls:=.type "list",data:=.seq (List.toArray []) }).get? a = some (seqObj "list" #[] e1):=Heap.get?_push_of_some _ h2
  have hkS:(hp2.push { cls:=.type "list",data:=.seq (List.toArray []) }).get? hp2.objs.size = some (seqObj "list" #[] 0):=Heap.get?_push_size _ rfl
  have fk:Fu X pins H hp2.objs.size:=I2.fpOk (s:={ s with heap:=hp2 }) (Nat.le_refl _) (I2.hok.fresh (Nat.le_refl _))
  have hne:hp2.objs.size ≠ a:=by rw [hs2]; exact Nat.ne_of_gt (Nat.lt_succ_of_lt hlt)
  generalize hC:hp2.push { cls:=.type "list",data:=.seq (List.toArray []) } = hp3 at I3 h3 hkS
  generalize hS:hp2.objs.size = kS at hkS fk hne
  unfold ksk_tree
  refine wpAny_bind (listItems_at ho rfl (wpAny_bind (listUpdate_at ho rfl ?_ z1 (Nat.zero_le _))))
  rw [hA]
  refine wpAny_bind (seqEpoch_at (s:={ s with heap:=hp1 }) h1 rfl (wpAny_bind (wpAny_newTuple ?_ (by show vs.length ≤ _; rw [sizeLine_eq]; omega))))
  show wpAny _ _ _ _ _ ({ s with heap:=hp1.push { cls:=.type "tuple",data:=.seq vs.toArray } }:Shared)
  rw [hB]
  refine wpAny_bind (wpAny_newList ?_ (Nat.zero_le _))
  show wpAny _ _ _ _ _ ({ s with heap:=hp2.push { cls:=.type "list",data:=.seq (List.toArray []) } }:Shared)
  rw [hC]
  show wpAny _ _ (holding _ (ksk_rest a (.ref f) false vs.toArray e1 (.ref hp2.objs.size))) _ _ _
  rw [hS]
  refine wpAny_holding ?_
  unfold ksk_rest
  refine wpAny_bind (wpAny_rule ?_)
  rw [← Array.forIn_toList]
  have pin2:∀ (kv:List Value) (e:Nat) (H':Hp) (s':Shared),L2.Inv X pins σ H' s' → H' kS = none → H' a = none → s'.heap.get? kS = some (seqObj "list" kv.toArray e) → s'.heap.get? a = some (seqObj "list" #[] e1) → L2.Inv X ((kS,seqObj "list" kv.toArray e) :: (a,seqObj "list" #[] e1) :: pins) σ H' s':=by
    intro kv e H' s' J n1 n2 g1 g2
    refine J.pins_of fun q hq=>?_
    rcases List.mem_cons.mp hq with rfl | hq
    · exact ⟨g1,n1,fk.2.1,fk.2.2.1,fun v z=>by cases z⟩
    · rcases List.mem_cons.mp hq with rfl | hq
      · exact ⟨g2,n2,fa.2.1,fa.2.2.1,fun v z=>by cases z⟩
      · exact J.pin q (List.mem_append_right _ hq)
  refine wpAny_bind (ksk_fold (fun j s'=>∃ (H':Hp) (α':List Addr) (kv:List Value) (kx:List V) (e:Nat),L2.Inv X ((kS,seqObj "list" kv.toArray e) :: (a,seqObj "list" #[] e1) :: pins) σ H' s' ∧ Gr H α H' α' ∧ Abs X.K H' α' L ∧ Vals kx kv ∧ RepL X.K H' α' ((ks.take j).map Se) kx) vs 0 _
    ⟨H,α,[],[],0,pin2 [] 0 H _ I3 fk.1 fa.1 hkS h3,.refl _ _,Ab,.nil,.nil⟩ ?step ?done)
  case step=>
    rintro j x s' hx ⟨H',α',kv,kx,e,J,g,A',rk,rr⟩
    simp only [Nat.zero_add] at rr ⊢
    have hj:j < vs.length:=(List.getElem?_eq_some_iff.mp hx).1
    obtain ⟨t,ht⟩:∃ t,ks[j]? = some t:=⟨ks[j],List.getElem?_eq_getElem (by omega)⟩
    obtain ⟨y,hy⟩:∃ y,ys[j]? = some y:=⟨ys[j],List.getElem?_eq_getElem (by omega)⟩
    obtain ⟨x',hx',rx⟩:=rv.get hy
    rw [hx] at hx'; cases hx'
    obtain ⟨u,hu,ry⟩:=ru.get' hy
    have hkl:=rr.length
    have hkl2:=rk.length
    rw [List.length_map,List.length_take] at hkl
    refine wpAny_bind (wpAny_attempt (wpAny_mono (Ad1 (A:=X.A.in1.in1) F hr rfl hb J A' (ry.mono g) rx (hk j u t hu ht)) (fun v s'' hv=>?_) fun _ _ hF=>hF.elim))
    obtain ⟨v',H2,J2,rv',α2,g2,A2,r2⟩:=hv
    dsimp only
    have p1:=J2.pin (kS,seqObj "list" kv.toArray e) (List.mem_append_right _ (List.mem_cons_self ..))
    have p2:=J2.pin (a,seqObj "list" #[] e1) (List.mem_append_right _ (List.mem_cons_of_mem _ (List.mem_cons_self ..)))
    have J3:L2.Inv X pins σ H2 s'':=J2.pins_of fun q hq=>J2.pin q (List.mem_append_right _ (List.mem_cons_of_mem _ (List.mem_cons_of_mem _ hq)))
    have sb2:=Heap.SameBut.update s''.heap kS (Obj.mapSeq (·.push v))
    obtain ⟨e2,he2⟩:∃ e2,(s''.heap.update kS (Obj.mapSeq (·.push v))).get? kS = some (seqObj "list" (kv.toArray.push v) e2):=⟨_,get?_update_seq p1.1 (·.push v)⟩
    have J4:L2.Inv X pins σ H2 { s'' with heap:=s''.heap.update kS (Obj.mapSeq (·.push v)) }:=J3.turned (t':=s''.toks) (fun b o hb e=>(sb2.2 b hb).trans e) p1.2.1 fk.2.1 fk.2.2.2.1 fk.2.2.2.2.1 fk.2.2.2.2.2
    refine wpAny_bind (listUpdate_at p1.1 rfl ?_ (by rw [List.size_toArray,sizeLine_eq]; omega) (by rw [Array.size_push,List.size_toArray,sizeLine_eq]; omega))
    have hpush:kv.toArray.push v = (kv ++ [v]).toArray:=by simp
    rw [hpush] at he2
    refine wpAny_pure ⟨rfl,H2,α2,kv ++ [v],kx ++ [v'],e2,pin2 (kv ++ [v]) e2 H2 _ J4 p1.2.1 p2.2.1 he2 ((sb2.2 a (Ne.symm hne)).trans p2.1),g.trans g2,A2,rk.append (.cons rv' .nil),?_⟩
    have htk:ks.take (j + 1) = ks.take j ++ [t]:=by rw [List.take_add_one,ht]; rfl
    rw [htk,List.map_append]
    exact (rr.mono g2).append (.cons r2 .nil)
  case done=>
    rintro s' ⟨H',α',kv,kx,e,J,g,A',rk,rr⟩
    have htk:ks.take (0 + vs.length) = ks:=List.take_of_length_le (by omega)
    rw [htk] at rr
    have hkl:=rr.length
    have hkl2:=rk.length
    rw [List.length_map] at hkl
    have hkv:kv.length = vs.length:=by omega
    have p1:=J.pin (kS,seqObj "list" kv.toArray e) (List.mem_append_right _ (List.mem_cons_self ..))
    have p2:=J.pin (a,seqObj "list" #[] e1) (List.mem_append_right _ (List.mem_cons_of_mem _ (List.mem_cons_self ..)))
    have J3:L2.Inv X pins σ H' s':=J.pins_of fun q hq=>J.pin q (List.mem_append_right _ (List.mem_cons_of_mem _ (List.mem_cons_of_mem _ hq)))
    refine wpAny_bind (listItems_at p1.1 rfl ?_)
    have hat:∀ i,i < kv.length → ∃ (b:Addr) (n:Int) (t:List Int) (ws:List Value),kv[i]? = some (.ref b) ∧ ks.getD i [] = n :: t ∧ Vals ((n :: t).map V.int) ws ∧ IsTup s'.heap b ws.toArray:=by
      intro i hi
      obtain ⟨t,ht⟩:∃ t,ks[i]? = some t:=⟨ks[i],List.getElem?_eq_getElem (by omega)⟩
      obtain ⟨y,hy,ry⟩:=rr.get (i:=i) (u:=Se t) (by rw [List.getElem?_map,ht]; rfl)
      obtain ⟨v,hv,rx⟩:=rk.get hy
      unfold Se RepU at ry
      obtain ⟨b,xs,rfl,sq,rl⟩:=ry
      cases rx
      have hxs:=Kg rl (Vc t)
      rw [hxs] at sq
      obtain ⟨ws,r2,it,_⟩:=J3.tuple sq
      cases t with
      | nil=>exact absurd rfl (hk1 [] (List.mem_of_getElem? ht))
      | cons n t=>exact ⟨b,n,t,ws,hv,by rw [List.getD_eq_getElem?_getD,ht]; rfl,r2,it⟩
    have fin:∀ (q:Array Nat) (st:SortSt),q.toList = Fd (ltK ks) vs.length → (arrOf st).map (·.2) = (Ep vs q).toArray → failedOf st = none → wpAny (model X.prog X.w) X.A.in1.in1 (ksk_tail a false e1 (.ref kS) st)
        (fun fin s'=>fin = .done (.ret .none) ∧ ∃ H' α',L2.Inv X pins σ (upd H' a (.lst ((Fd (ltK ks) vs.length).map fun i=>ys.getD i .non))) s' ∧ H' a = none ∧ Gr H α H' α' ∧ Abs X.K H' α' L) X.xe s':=by
      intro q st hq hout hfail
      have hperm:=Kc (n:=vs.length) (Qu ks)
      have hlen:(Ep vs q).length = vs.length:=by unfold Ep; rw [hq,List.length_map,hperm.length_eq,List.length_range]
      have sb1:=Heap.SameBut.update s'.heap kS (Obj.mapSeq fun _=>(#[]:Array Value))
      have J4:L2.Inv X pins σ H' { s' with heap:=s'.heap.update kS (Obj.mapSeq fun _=>(#[]:Array Value)) }:=J3.turned (t':=s'.toks) (fun b o hb e=>(sb1.2 b hb).trans e) p1.2.1 fk.2.1 fk.2.2.2.1 fk.2.2.2.2.1 fk.2.2.2.2.2
      have ga:(s'.heap.update kS (Obj.mapSeq fun _=>(#[]:Array Value))).get? a = some (seqObj "list" #[] e1):=(sb1.2 a (Ne.symm hne)).trans p2.1
      generalize hG:s'.heap.update kS (Obj.mapSeq fun _=>(#[]:Array Value)) = g1 at J4 ga
      have sb3:=Heap.SameBut.update g1 a (Obj.mapSeq fun _=>(Ep vs q).toArray)
      obtain ⟨c2,hc2⟩:∃ c2,(g1.update a (Obj.mapSeq fun _=>(Ep vs q).toArray)).get? a = some (seqObj "list" (Ep vs q).toArray c2):=⟨_,get?_update_seq ga fun _=>(Ep vs q).toArray⟩
      have hlt':∀ k ∈ Fd (ltK ks) vs.length,k < ys.length:=fun k hk=>by
        have:=List.mem_range.mp (hperm.mem_iff.mp hk)
        omega
      have hrel:Vals ((Fd (ltK ks) vs.length).map fun i=>ys.getD i .non) (Ep vs q):=by
        unfold Ep
        rw [hq]
        have:∀ js:List Nat,(∀ k ∈ js,k < ys.length) → Vals (js.map fun i=>ys.getD i .non) (js.map fun i=>vs.getD i Value.none):=by
          intro js
          induction js with
          | nil=>intro _; exact .nil
          | cons k js ih=>
            intro hk
            have hk0:=hk k (List.mem_cons_self ..)
            obtain ⟨v,e3,rr⟩:=rv.get (List.getElem?_eq_getElem hk0)
            refine .cons ?_ (ih fun x hx=>hk x (List.mem_cons_of_mem _ hx))
            show L2.RelV (ys.getD k .non) (vs.getD k Value.none)
            rw [List.getD_eq_getElem?_getD,List.getD_eq_getElem?_getD,List.getElem?_eq_getElem hk0,e3]
            exact rr
        exact this _ hlt'
      have hsz:((Fd (ltK ks) vs.length).map fun i=>ys.getD i .non).length ≤ sizeLine:=by
        rw [List.length_map,hperm.length_eq,List.length_range,sizeLine_eq]; omega
      have J5:L2.Inv X pins σ (upd H' a (.lst ((Fd (ltK ks) vs.length).map fun i=>ys.getD i .non))) { s' with heap:=g1.update a (Obj.mapSeq fun _=>(Ep vs q).toArray) }:=
        Inv.adopt (s:={ s' with heap:=g1 }) (t':=s'.toks) J4 ⟨p2.2.1,fa.2⟩ (fun b o hb e=>(sb3.2 b hb).trans e) ⟨hsz,Ep vs q,c2,hrel,hc2⟩
      unfold ksk_tail
      refine wpAny_bind (listUpdate_at p1.1 rfl ?_ (by rw [List.size_toArray,sizeLine_eq]; omega) (Nat.zero_le _))
      rw [hG]
      refine wpAny_bind (wpAny_letGo (wpAny_bind (seqEpoch_at (s:={ s' with heap:=g1 }) ga rfl ?_)))
      have hout':(if false = true then ((arrOf st).map (·.2)).reverse else (arrOf st).map (·.2)) = (Ep vs q).toArray:=by rw [if_neg (by simp)]; exact hout
      rw [hout',hfail]
      refine wpAny_bind (listUpdate_at (s:={ s' with heap:=g1 }) ga rfl ?_ (Nat.zero_le _) (by rw [List.size_toArray,hlen,sizeLine_eq]; omega))
      simp only [bne_self_eq_false,Bool.false_eq_true,if_false]
      exact wpAny_pure ⟨rfl,H',α',J5,p2.2.1,g,A'⟩
    unfold ksk_end
    simp only [Bool.false_eq_true,if_false]
    by_cases hsmall:vs.toArray.size < 2
    · rw [if_pos hsmall,if_pos hsmall]
      have hs2:vs.length < 2:=by simpa using hsmall
      refine wpAny_bind (wpAny_pure ?_)
      rw [StateT.run_pure]
      refine wpAny_bind (wpAny_pure (fin (List.toArray (List.range vs.length)) (SortSt.mk' general' (kv.toArray.zip vs.toArray) #[] 7 none) ?_ ?_ rfl))
      · unfold Fd; rw [if_pos hs2]
      · rw [Oe]
        show (kv.toArray.zip vs.toArray).map (·.2) = vs.toArray
        apply Array.ext
        · simp; omega
        · intro i i1 i2; simp
    · rw [if_neg hsmall,if_neg hsmall]
      have hs2:2 ≤ vs.length:=by simp at hsmall; omega
      have mk:∀ (m:Nat),m ≤ kv.length → ∃ fs:List Value,PySem.W.KatTups s'.heap (kv.drop (kv.length - m)) fs ∧ fs.length = m ∧ ∀ v ∈ fs,PySem.W.Looks (model X.prog X.w) s'.heap (typeOf v) (.type "int"):=by
        intro m
        induction m with
        | zero=>intro _; exact ⟨[],by rw [Nat.sub_zero,List.drop_length]; exact PySem.W.KatTups.nil,rfl,by simp⟩
        | succ m ih=>
          intro hm
          obtain ⟨fs,k1,k2,k3⟩:=ih (by omega)
          obtain ⟨b,n,t,ws,q1,_,r2,it⟩:=hat (kv.length - (m + 1)) (by omega)
          obtain ⟨o,ho',hcls,nn,hd⟩:=it
          rw [List.map_cons] at r2
          cases r2 with
          | @cons _ v0 _ vr rr rs=>
            obtain ⟨tk,rfl⟩:=rr
            have hdrop:kv.drop (kv.length - (m + 1)) = .ref b :: kv.drop (kv.length - m):=by
              have hlt2:kv.length - (m + 1) < kv.length:=by omega
              rw [List.drop_eq_getElem_cons hlt2]
              have:kv[kv.length - (m + 1)] = .ref b:=by
                rw [List.getElem?_eq_getElem hlt2] at q1; exact Option.some.inj q1
              rw [this]
              congr 2; omega
            refine ⟨.int n tk :: fs,?_,by simp [k2],fun v hv=>?_⟩
            · rw [hdrop]
              exact PySem.W.KatTups.cons ho' hcls hd rfl k1
            · rcases List.mem_cons.mp hv with e | e
              · subst e
                exact PySem.W.Looks.now
              · exact k3 v e
      obtain ⟨fs,k1,k2,k3⟩:=mk kv.length (Nat.le_refl _)
      rw [Nat.sub_self,List.drop_zero] at k1
      refine wpAny_bind (PySem.W.kat_kind k1 (by omega) k3 rfl ?_)
      have ask:∀ (i j:Nat) (C:Bool → Shared → Prop),i < vs.length → j < vs.length → C (ltK ks i j) s' → PySem.W.kas_ask X.prog X.w X.A.in1.in1 (tuples' (Value.type "int" != Value.type "tuple")) kv i j C s':=by
        intro i j C hi hj hC
        obtain ⟨b,n,t,ws,q1,q2,r2,it⟩:=hat i (by omega)
        obtain ⟨b',n',t',ws',q1',q2',r2',it'⟩:=hat j (by omega)
        obtain ⟨o,ho1,_,c1,hd⟩:=it
        obtain ⟨o',ho2,_,c2,hd'⟩:=it'
        have g1:kv.getD i Value.none = .ref b:=by rw [List.getD_eq_getElem?_getD,q1]; rfl
        have g2:kv.getD j Value.none = .ref b':=by rw [List.getD_eq_getElem?_getD,q1']; rfl
        unfold PySem.W.kas_ask
        rw [g1,g2]
        refine PySem.W.kat_lt ho1 hd ho2 hd' ?_
        have hl1:=r2.length
        have hl2:=r2'.length
        rw [List.length_map] at hl1 hl2
        refine Aap (n :: t) (n' :: t') ws ws' 0 r2 r2' ?_ ?_
        · rw [List.size_toArray,List.size_toArray,← hl1,← hl2]
        · rw [← q2,← q2']; exact hC
      have on:=(Q2 (n:=vs.length) (Qu ks) (by omega)).run.wp (cmp:=PySem.W.kas_ask X.prog X.w X.A.in1.in1 (tuples' (Value.type "int" != Value.type "tuple")) kv) (s:=s') (Q:=fun q s2=>q = Ti (ltK ks) (PySem.W.kas_sort vs.length) ∧ s2 = s') (fun i j C hi hj hC=>ask i j C hi hj hC) fun q h=>⟨h,rfl⟩
      refine wpAny_bind (wpAny_mono (PySem.W.kat_run (ks:=kv) (vs:=vs) (Q:=fun st s2=>∃ q:Array Nat,arrOf st = q.map (PySem.W.kas_item (kv.toArray.zip vs.toArray)) ∧ failedOf st = none ∧ q = Ti (ltK ks) (PySem.W.kas_sort vs.length) ∧ s2 = s') hkv hs2 h64 (fun q st s2 _ q1 q2 q3=>⟨q,q1,q2,q3⟩) on) ?_ fun _ _ e=>e)
      rintro ⟨⟨⟩,st⟩ s2 ⟨q,q1,q2,q3,rfl⟩
      refine fin q st ?_ (PySem.W.kat_snds hkv q1) q2
      unfold Fd
      rw [if_neg (by omega),q3]
theorem Acs {k:Nat} {f l:Addr} {fd:FuncData} {p:Str} {m:FN} {ys:List V} {us:List U} {ks:List (List Int)} {α:List Addr} {L:UH} {Q:VK}
    (F:FnOk X.prog X.w X.K X.mg X.base CX0 k f fd [p] (spF X.K 1 m)) (hr:Room (k + 2) X.A) (hb:Binds X.K fd [p] []) (I:L2.Inv X pins σ H s) (hq:SqL X.K H l ys) (ru:RepL X.K H α us ys) (Ab:Abs X.K H α L) (hl:ks.length = ys.length) (hk1:∀ t ∈ ks,t ≠ [])
    (hk:∀ (i:Nat) (u:U) (t:List Int),us[i]? = some u → ks[i]? = some t → m [u] L = some (Se t,L)) (h64:ys.length < 64)
    (q:∀ (b:Addr) (H':Hp) (α':List Addr),H' b = none → Gr H α H' α' → Abs X.K H' α' L → Q (.ref b) (upd H' b (.lst ((Fd (ltK ks) ys.length).map fun i=>ys.getD i .non)))) :
    wpAny (model X.prog X.w) X.A (call (.builtin "sorted") [.ref l] [(Str.ofString "key",.ref f)]) (EP X pins σ Q) X.xe s:=by
  obtain ⟨its,rv,pl,hz⟩:=I.list hq
  have hlen:=rv.length
  have hil:=pl.isList
  have e1:((s.heap.push (seqObj "list" #[] 0)).update s.heap.objs.size (Obj.mapSeq (· ++ its.toArray))).objs.size = s.heap.objs.size + 1:=by rw [Heap.size_update,size_push']
  have e2:(((s.heap.push (seqObj "list" #[] 0)).update s.heap.objs.size (Obj.mapSeq (· ++ its.toArray))).push (seqObj "list" its.toArray 0)).get? (s.heap.objs.size + 1) = some (seqObj "list" its.toArray 0):=by rw [← e1]; exact Heap.get?_push_size _ rfl
  have e0:∀ b o,s.heap.get? b = some o → ((s.heap.push (seqObj "list" #[] 0)).update s.heap.objs.size (Obj.mapSeq (· ++ its.toArray))).get? b = some o:=fun b o q=>Ql _ _ _ b o (Nat.ne_of_lt (Heap.lt_size q)) (Heap.get?_push_of_some _ q)
  have J0:L2.Inv X pins σ H { s with heap:=(s.heap.push (seqObj "list" #[] 0)).update s.heap.objs.size (Obj.mapSeq (· ++ its.toArray)) }:=I.kept (t':=s.toks) e0
  have J1:L2.Inv X pins σ H { s with heap:=((s.heap.push (seqObj "list" #[] 0)).update s.heap.objs.size (Obj.mapSeq (· ++ its.toArray))).push (seqObj "list" its.toArray 0) }:=J0.kept (t':=s.toks) fun b o e=>Heap.get?_push_of_some _ e
  have fp:Fu X pins H (s.heap.objs.size + 1):=by
    rw [← e1]
    exact J0.fpOk (Nat.le_refl _) (J0.hok.fresh (Nat.le_refl _))
  refine call_function_entry_kw kind_sorted plain_sorted entry_sorted (ksk_s1 _ _) ?_
  unfold Builtin.«sorted»
  refine wpAny_bind (m:=checkCount "sorted" 1 1 _) (wpAny_pure (wpAny_bind (collect_list hil (wpAny_bind (wpAny_newList ?_ ?y2)) ?y1)))
  case y1=>rw [sizeLine_eq]; omega
  case y2=>rw [sizeLine_eq]; omega
  show wpAny _ _ _ _ _ ({ s with heap:=((s.heap.push (seqObj "list" #[] 0)).update s.heap.objs.size (Obj.mapSeq (· ++ its.toArray))).push (seqObj "list" its.toArray 0) }:Shared)
  rw [e1]
  refine wpAny_bind (wpAny_holding (wpAny_call_entry_kw slot_list_sort ⟨_,e2,rfl⟩ entry_list_sort ?body (ksk_l1 _ _)))
  case body=>
    show wpAny (model X.prog X.w) X.A.in1.in1 (Builtin.«list.sort» ⟨[.ref (s.heap.objs.size + 1)],[(Str.ofString "key",.ref f)]⟩) _ _ _
    rw [ksk_t1]
    refine wpAny_mono (Ag3 F (hr.in1.in1) hb J1 fp e2 rv ru Ab (by omega) hk1 hk (by omega)) (fun fin s' ⟨hf,H',α',J,hn,g,A'⟩=>?_) fun _ _ e=>e
    subst hf
    refine ⟨_,rfl,wpAny_pure ⟨_,rfl,.ref (s.heap.objs.size + 1),_,J,rfl,?_⟩⟩
    have:=q (s.heap.objs.size + 1) H' α' hn g A'
    rw [hlen] at this
    exact this
end
end MR
set_option Elab.async false
set_option linter.all false
set_option maxRecDepth 100000
set_option maxHeartbeats 4000000
namespace MR
open PySem PySem.Spec PyProof.Rows PySem.Calls L2 SO
open Classical in
noncomputable def Pj (m:FN) (L:UH) (u:U):Option (List Int):=(m [u] L).bind fun r=>if r.2 = L then Aa1 r.1 else none
noncomputable def Oi (m:FN) (f:FE):FE:=fun δ L=>(f δ L).bind fun q=>match q.1 with
  | .ref n=>(Ao q.2 n).bind fun us=>(mapO (Pj m q.2) us).bind fun ks=>if us.length < 64 ∧ (ks.all fun t=>!t.isEmpty) = true then some (.ref q.2.length,q.2 ++ [.lst ((Fd (ltK ks) us.length).map fun i=>us.getD i .non)]) else none
  | _=>none
theorem Aao {m:FN} {L:UH} {u:U} {t:List Int} (h:Pj m L u = some t):m [u] L = some (Se t,L):=by
  unfold Pj at h
  obtain ⟨⟨z,L'⟩,e,h⟩:=Option.bind_eq_some_iff.mp h
  simp only at h
  split at h
  · rename_i hL
    subst hL
    have h1:mapO Aa1 [z] = some [t]:=by
      have h0:Aa1 z = some t:=by assumption
      simp only [mapO,h0,Option.bind_some,Option.map_some]
    have h2:=Vz h1
    simp only [List.map_cons,List.map_nil,List.cons.injEq,and_true] at h2
    rw [e,h2]
  · cases h
theorem Rp {β γ:Type} {f:β → Option γ}:∀ {l:List β} {r:List γ},mapO f l = some r → l.length = r.length
  | [],r,h=>by simp only [mapO] at h; cases h; rfl
  | a :: l,r,h=>by
    simp only [mapO] at h
    obtain ⟨x,_,h⟩:=Option.bind_eq_some_iff.mp h
    obtain ⟨y,hy,h⟩:=Option.map_eq_some_iff.mp h
    subst h
    simp [Rp hy]
theorem Sg {β γ:Type} {f:β → Option γ}:∀ {l:List β} {r:List γ} {i:Nat} {a:β} {b:γ},mapO f l = some r → l[i]? = some a → r[i]? = some b → f a = some b
  | [],r,i,a,b,h,h1,h2=>by simp at h1
  | c :: l,r,i,a,b,h,h1,h2=>by
    simp only [mapO] at h
    obtain ⟨x,hx,h⟩:=Option.bind_eq_some_iff.mp h
    obtain ⟨y,hy,h⟩:=Option.map_eq_some_iff.mp h
    subst h
    cases i with
    | zero=>simp at h1 h2; subst h1; subst h2; exact hx
    | succ i=>exact Sg hy (by simpa using h1) (by simpa using h2)
theorem Yj {X:Cx} {k:Nat} {f:Addr} {fd:FuncData} {pn kf:Str} {m:FN} {e:Expr} {fe:FE} {p kp kpos pos:Pos} (F:FnOk X.prog X.w X.K X.mg X.base CX0 k f fd [pn] (spF X.K 1 m)) (hr:Room (k + 2) X.A) (hb:Binds X.K fd [pn] [])
    (hg:Gl X "sorted") (hm:X.mg "sorted" = none) (hgk:Gl X kf) (hmk:X.mg kf = some (.ref f)) (he:PEF X e fe) (hd:(kf == ("__debug__" : Str)) = false:=by decide)
    (hs:starEach [e] X.env = [(false,eval e X.env)]:=by rfl):PEF X (.Call (.Name "sorted" p) [e] [⟨some (Str.ofString "key"),.Name kf kp,kpos⟩] pos) (Oi m fe):=by
  intro pins s σ H Q I h
  obtain ⟨α,δ,L,A,S,z,L3,ez,q⟩:=h
  unfold Oi at ez
  obtain ⟨⟨u,L1⟩,e1,ez⟩:=Option.bind_eq_some_iff.mp ez
  simp only at ez
  split at ez
  · rename_i n
    obtain ⟨us,hus,ez⟩:=Option.bind_eq_some_iff.mp ez
    obtain ⟨ks,hks,ez⟩:=Option.bind_eq_some_iff.mp ez
    split at ez
    · rename_i hc
      cases ez
      refine wpAny_Call_Name_kw (Hk I hg hm PyProof.Rows.boot_sorted ?_)
      refine callWith_kw ?_ (by rw [hs]; rfl) (by rw [hs]; rfl) (by rfl)
      have hpa:PAF X [e] (Ac fe Af):=Aa he Ae (hs:=by rw [hs]; rfl)
      have hA:(Ac fe Af) δ L = some ([.ref n],L1):=by
        show (fe δ L).bind _ = _
        rw [e1]; rfl
      refine thn (hpa pos pins s σ H (fun vs H1=>∃ α1,Gr H α H1 α1 ∧ Abs X.K H1 α1 L1 ∧ RepL X.K H1 α1 [.ref n] vs) I ⟨α,δ,L,A,S,_,L1,hA,fun vs H1 α1 g1 A1 r1=>⟨α1,g1,A1,r1⟩⟩) fun vs s1 ⟨xs,H1,I1,rx,α1,g1,A1,r1⟩=>?_
      refine thn (Aco (nm:=some (Str.ofString "key")) (kpos:=kpos) (Acl (v:=.ref f) hgk hmk rfl hd) Afv pos pins s1 σ H1 (fun zs H2=>zs = [.ref f] ∧ H2 = H1) I1 ⟨rfl,rfl⟩) fun ws s2 ⟨zs,H2,I2,rz,hz,hH⟩=>?_
      subst hH
      subst hz
      obtain ⟨y,rfl,ry⟩:=r1.one
      obtain ⟨b,ys,rfl,sq,r2⟩:=E9 A1 hus ry
      obtain ⟨v,rfl,rv⟩:=Ia rx
      cases rv
      obtain ⟨v2,rfl,rv2⟩:=Ia rz
      cases rv2
      have hlu:=r2.length
      have hlk:=Rp hks
      refine Acs F hr hb I2 sq r2 A1 (by omega) (fun t ht=>?_) (fun i u t hu ht=>Aao (Sg hks hu ht)) (by omega) fun c H' α' hn g' A'=>?_
      · have:=List.all_eq_true.mp hc.2 t ht
        intro z; rw [z] at this; simp at this
      · have hperm:=Kc (n:=us.length) (Qu ks)
        have rl:RepL X.K H' α' ((Fd (ltK ks) us.length).map fun i=>us.getD i .non) ((Fd (ltK ks) ys.length).map fun i=>ys.getD i .non):=by
          rw [← hlu]
          have:∀ js:List Nat,(∀ j ∈ js,j < us.length) → RepL X.K H' α' (js.map fun i=>us.getD i .non) (js.map fun i=>ys.getD i .non):=by
            intro js
            induction js with
            | nil=>intro _; exact .nil
            | cons j js ih=>
              intro hj
              have hj0:=hj j (List.mem_cons_self ..)
              obtain ⟨x,hx,rx'⟩:=r2.get (List.getElem?_eq_getElem hj0)
              refine .cons ?_ (ih fun x hx=>hj x (List.mem_cons_of_mem _ hx))
              show RepU X.K H' α' (us.getD j .non) (ys.getD j .non)
              rw [List.getD_eq_getElem?_getD,List.getD_eq_getElem?_getD,List.getElem?_eq_getElem hj0,hx]
              exact rx'.mono g'
          exact this _ fun j hj=>List.mem_range.mp (hperm.mem_iff.mp hj)
        obtain ⟨g2,A2,r3⟩:=A'.lst rl hn
        exact q _ _ _ (g1.trans (g'.trans g2)) A2 r3
    · cases ez
  · cases ez
end MR
set_option Elab.async false
set_option linter.all false
set_option maxRecDepth 100000
set_option maxHeartbeats 4000000
namespace MR
open PySem PySem.Spec PyProof.Rows PySem.Calls L2 SO
def G4 (s:Str):List Int:=s.cps.toList.map Int.ofNat
def Lv (l:List Int):Str:=⟨(l.map Int.toNat).toArray⟩
theorem Ty (s:Str):Lv (G4 s) = s:=by
  unfold Lv G4
  rw [List.map_map]
  have:(Int.toNat ∘ Int.ofNat) = id:=by funext x; rfl
  rw [this,List.map_id]
theorem Ra:∀ a b:List Nat,ltT (a.map Int.ofNat) (b.map Int.ofNat) = decide (a < b)
  | a,[]=>by cases a <;> simp [ltT]
  | [],b :: bs=>by simp [ltT]
  | a :: as,b :: bs=>by
    have ih:=Ra as bs
    rw [List.map_cons,List.map_cons]
    unfold ltT
    by_cases e:a = b
    · subst e
      rw [if_pos (by simp),ih]
      simp
    · have h1:(Int.ofNat a == Int.ofNat b) = false:=by rw [beq_eq_false_iff_ne]; exact fun h=>e (Int.ofNat.inj h)
      rw [h1,if_neg (by simp)]
      have:(Int.ofNat a < Int.ofNat b) ↔ a < b:=by simp
      rw [decide_eq_decide,this,List.cons_lt_cons_iff]
      constructor
      · exact .inl
      · rintro (h | ⟨h,_⟩)
        · exact h
        · exact absurd h e
def Bv (ts:List Str):List Str:=(P2 (ts.map G4)).map Lv
theorem Ka (ts:List Str):(Bv ts).Perm ts:=by
  have:=(E5 (ts.map G4)).map Lv
  rw [List.map_map] at this
  have e:ts.map (Lv ∘ G4) = ts:=by
    rw [show (Lv ∘ G4) = id from funext Ty,List.map_id]
  rw [e] at this
  exact this
theorem Sq {a b:List Str} (h:a.Perm b):Bv a = Bv b:=by
  unfold Bv
  rw [Ji (((E5 _).trans (h.map G4)).trans (E5 _).symm) (El _) (El _)]
section
variable {X:Cx}
theorem Us (hc:X.calm = true):CallR X (.builtin "sorted") (fun xs H Q=>∃ (l:Addr) (ts:List Str),xs = [.ref l] ∧ SqL X.K H l (ts.map V.str) ∧ ts.length < 64 ∧
    ∀ (p:Addr),H p = none → Q (.ref p) (upd H p (.lst ((Bv ts).map V.str)))):=by
  intro pins s σ H xs us Q I r h
  obtain ⟨l,ts,rfl,hq,h64,q⟩:=h
  obtain ⟨u,rfl,rx⟩:=Ia r
  cases rx
  obtain ⟨its,rv,pl,hz⟩:=I.list hq
  have hlen:=rv.length
  rw [List.length_map] at hlen
  have hat:∀ i,i < its.length → ∃ t,its[i]? = some (.str (ts.getD i "") t):=by
    intro i hi
    have hi':i < ts.length:=by omega
    obtain ⟨v,e3,rr⟩:=rv.get (i:=i) (x:=V.str (ts[i]'hi')) (by rw [List.getElem?_map,List.getElem?_eq_getElem hi']; rfl)
    obtain ⟨t,rfl⟩:=rr
    exact ⟨t,by rw [e3,List.getD_eq_getElem?_getD,List.getElem?_eq_getElem hi']; rfl⟩
  have W:Wo fun i j=>ltT (G4 (ts.getD i "")) (G4 (ts.getD j "")):=⟨fun i j h=>Iu _ _ h,fun i j k h1 h2=>Nj _ _ _ h1 h2⟩
  refine Ws (κ:=oneType') W pl.isList (by omega) ?kd ?ak ?en
  case kd=>
    intro h2 h' Q' E' kp q'
    refine PySem.W.kas_kind (T:=.type "str") h2 (fun v hv=>?_) rfl rfl q'
    obtain ⟨i,hi,rfl⟩:=List.getElem_of_mem hv
    obtain ⟨t,e⟩:=hat i hi
    rw [List.getElem?_eq_getElem hi] at e
    rw [Option.some.inj e]
    exact PySem.W.Looks.now
  case ak=>
    intro h' i j C kp hi hj hC
    obtain ⟨t,e1⟩:=hat i hi
    obtain ⟨u,f1⟩:=hat j hj
    have g1:its.getD i Value.none = .str (ts.getD i "") t:=by rw [List.getD_eq_getElem?_getD,e1]; rfl
    have g2:its.getD j Value.none = .str (ts.getD j "") u:=by rw [List.getD_eq_getElem?_getD,f1]; rfl
    unfold PySem.W.kas_ask
    rw [g1,g2]
    refine PySem.W.kas_lt_str ?_
    rw [← Ra]
    exact hC
  case en=>
    intro p h' c hp hu kp hl
    have hks:(p.toList.map fun i=>G4 (ts.getD i "")) = P2 (ts.map G4):=by
      refine Ji ?_ ?_ (El _)
      · have e:(List.range its.length).map (fun i=>G4 (ts.getD i "")) = ts.map G4:=by
          apply List.ext_getElem
          · simp; omega
          · intro i h1 h2
            have:i < ts.length:=by simpa using h2
            simp [this]
        exact ((hp.perm.map _).trans (by rw [e])).trans (E5 _).symm
      · rw [List.pairwise_map,List.pairwise_iff_getElem]
        intro i j hi hj hij
        have hz:p.toList.length = its.length:=by rw [Array.length_toList]; exact hp.size
        have:=hu i j (Nat.le_of_lt hij) (by omega)
        have ai:at0 p i = p.toList[i]:=by unfold at0; rw [Array.getD_eq_getD_getElem?,← Array.getElem?_toList,List.getElem?_eq_getElem hi]; rfl
        have aj:at0 p j = p.toList[j]:=by unfold at0; rw [Array.getD_eq_getD_getElem?,← Array.getElem?_toList,List.getElem?_eq_getElem hj]; rfl
        rw [ai,aj] at this
        exact this
    have hlt:∀ k ∈ p.toList,k < its.length:=fun k hk=>List.mem_range.mp (hp.perm.mem_iff.mp hk)
    have hout:(p.toList.map fun i=>V.str (ts.getD i "")) = (Bv ts).map V.str:=by
      unfold Bv
      rw [← hks,List.map_map,List.map_map]
      exact List.map_congr_left fun i _=>by show _ = V.str (Lv (G4 _)); rw [Ty]
    have hrel:Vals ((Bv ts).map V.str) (Ep its p):=by
      rw [← hout]
      unfold Ep
      have:∀ ks:List Nat,(∀ k ∈ ks,k < its.length) → Vals (ks.map fun i=>V.str (ts.getD i "")) (ks.map fun i=>its.getD i Value.none):=by
        intro ks
        induction ks with
        | nil=>intro _; exact .nil
        | cons k ks ih=>
          intro hk
          obtain ⟨t,e⟩:=hat k (hk k (List.mem_cons_self ..))
          refine .cons ?_ (ih fun x hx=>hk x (List.mem_cons_of_mem _ hx))
          show L2.RelV (V.str (ts.getD k "")) (its.getD k Value.none)
          rw [List.getD_eq_getElem?_getD (l:=its),e]
          exact ⟨t,rfl⟩
      exact this _ hlt
    have hsz:((Bv ts).map V.str).length ≤ sizeLine:=by
      rw [List.length_map,(Ka ts).length_eq,sizeLine_eq]; omega
    have I1:Inv X pins σ (upd H (s.heap.objs.size + 1) (.lst ((Bv ts).map V.str))) { s with heap:=h' }:=I.laid (t':=s.toks) kp (Nat.le_succ _) ⟨hsz,Ep its p,c,hrel,hl⟩
    exact ⟨.ref (s.heap.objs.size + 1),_,I1,rfl,q _ (I.hok.fresh (Nat.le_succ _))⟩
end
def Nu:SC:=fun us L=>match us with
  | [.ref n]=>(Ao L n).bind fun l=>(mapO toS l).bind fun ts=>if ts.length < 64 then some (.ref L.length,L ++ [.lst ((Bv ts).map U.str)]) else none
  | _=>none
theorem Xo {K:PySem.W.Frag}:Ld K (fun xs H Q=>∃ (l:Addr) (ts:List Str),xs = [.ref l] ∧ SqL K H l (ts.map V.str) ∧ ts.length < 64 ∧
    ∀ (p:Addr),H p = none → Q (.ref p) (upd H p (.lst ((Bv ts).map V.str)))) Nu:=by
  intro H α L us xs z L' Q A r e q
  unfold Nu at e
  split at e
  · obtain ⟨l,hl,e⟩:=Option.bind_eq_some_iff.mp e
    obtain ⟨ts,hts,e⟩:=Option.bind_eq_some_iff.mp e
    split at e
    · rename_i hc
      cases e
      obtain ⟨x,rfl,rx⟩:=r.one
      obtain ⟨a,ys,rfl,sq,r2⟩:=E9 A hl rx
      rw [Mj r2 hts] at sq
      refine ⟨a,ts,rfl,sq,hc,fun p hp=>?_⟩
      have rl:RepL K H α ((Bv ts).map U.str) ((Bv ts).map V.str):=by
        generalize Bv ts = ws
        induction ws with
        | nil=>exact .nil
        | cons w ws ih=>exact .cons (by unfold RepU; rfl) ih
      obtain ⟨g2,A2,r3⟩:=A.lst rl hp
      exact q _ _ _ g2 A2 r3
    · cases e
  · cases e
end MR
set_option Elab.async false
set_option linter.all false
set_option maxRecDepth 100000
set_option maxHeartbeats 4000000
namespace SO
open PySem PySem.W PySem.Calls PyProof.Rows
section
variable {P:Program} {w:World} {A:Around} {E:Value → Shared → Prop} {s:Shared} {vs:List Value} {lt:Nat → Nat → Bool} {κ:SortKind}
theorem T7 {l:Addr} {Q:Value → Shared → Prop} (W:Wo lt) (hcol:∀ (A':Around) (E':Value → Shared → Prop) (Q':List Value → Shared → Prop),(∀ h1,(∀ b o,s.heap.get? b = some o → h1.get? b = some o) → Q' vs { s with heap:=h1 }) → wpAny (model P w) A' (collect (.ref l)) Q' E' s) (h64:vs.length < 64)
    (hkind:2 ≤ vs.length → ∀ (h':Heap) (Q:SortKind → Shared → Prop) (E:Value → Shared → Prop),(∀ b o,s.heap.get? b = some o → h'.get? b = some o) → Q κ { s with heap:=h' } → wpAny (model P w) A.in1.in1 (keyKind' vs.toArray) Q E { s with heap:=h' })
    (hask:∀ (h':Heap) (i j:Nat) (C:Bool → Shared → Prop),(∀ b o,s.heap.get? b = some o → h'.get? b = some o) → i < vs.length → j < vs.length → C (lt i j) { s with heap:=h' } → kas_ask P w A.in1.in1 κ vs i j C { s with heap:=h' })
    (hq:∀ (h1:Heap),(∀ b o,s.heap.get? b = some o → h1.get? b = some o) → ∀ (p:Array Nat) (h':Heap) (c:Nat),Pm vs.length p → Up lt p vs.length → (∀ b o,h1.get? b = some o → h'.get? b = some o) → h'.get? h1.objs.size = some (seqObj "list" (Ep vs p).toArray c) → Q (.ref h1.objs.size) { s with heap:=h' }) :
    wpAny (model P w) A (call (.builtin "sorted") [.ref l]) Q E s:=by
  refine call_function_entry kind_sorted plain_sorted entry_sorted (args_sorted1 _) ?_
  unfold Builtin.«sorted»
  refine wpAny_bind (m:=checkCount "sorted" 1 1 _) (wpAny_pure (wpAny_bind (hcol _ _ _ fun h1 kp=>wpAny_bind (wpAny_newList ?_ ?y2))))
  case y2=>rw [sizeLine_eq]; omega
  have e2:(h1.push (seqObj "list" vs.toArray 0)).get? h1.objs.size = some (seqObj "list" vs.toArray 0):=Heap.get?_push_size _ rfl
  have e3:∀ b o,h1.get? b = some o → (h1.push (seqObj "list" vs.toArray 0)).get? b = some o:=fun b o q=>Heap.get?_push_of_some _ q
  have e4:∀ (h':Heap),Kb h1.objs.size (h1.push (seqObj "list" vs.toArray 0)) h' → ∀ b o,h1.get? b = some o → h'.get? b = some o:=fun h' k b o q=>
    k b o (Nat.ne_of_lt (Heap.lt_size q)) (e3 b o q)
  show wpAny _ _ _ _ _ ({ s with heap:=h1.push (seqObj "list" vs.toArray 0) }:Shared)
  generalize h1.push (seqObj "list" vs.toArray 0) = hp at e2 e3 e4
  refine wpAny_bind (wpAny_holding (wpAny_call_entry slot_list_sort ⟨_,e2,rfl⟩ entry_list_sort (Si (s:={ s with heap:=hp }) W e2 h64 (fun h2 h' Q' k q=>hkind h2 h' Q' _ (fun b o z=>e4 h' k b o (kp b o z)) q) (fun h' i j C k=>hask h' i j C (fun b o z=>e4 h' k b o (kp b o z))) fun p h' c a1 a2 a3 a4=>⟨_,rfl,?_⟩) (args_list_sort _)))
  exact wpAny_pure ⟨_,rfl,hq h1 kp p h' c a1 a2 (e4 h' a3) a4⟩
end
end SO
namespace MR
open PySem PySem.Spec PyProof.Rows PySem.Calls L2 SO
section
variable {X:Cx}
theorem R4 (hc:X.calm = true):CallR X (.builtin "sorted") (fun xs H Q=>∃ (l:Addr) (ts:List Str),xs = [.ref l] ∧ SqT X.K H l (ts.map V.str) ∧ ts.length < 64 ∧
    ∀ (p:Addr),H p = none → Q (.ref p) (upd H p (.lst ((Bv ts).map V.str)))):=by
  intro pins s σ H xs us Q I r h
  obtain ⟨l,ts,rfl,hq,h64,q⟩:=h
  obtain ⟨u,rfl,rx⟩:=Ia r
  cases rx
  obtain ⟨its,rv,tp,hz⟩:=I.tuple hq
  obtain ⟨o,ho,hcl,cn,hd⟩:=tp
  have hlen:=rv.length
  rw [List.length_map] at hlen
  have hat:∀ i,i < its.length → ∃ t,its[i]? = some (.str (ts.getD i "") t):=by
    intro i hi
    have hi':i < ts.length:=by omega
    obtain ⟨v,e3,rr⟩:=rv.get (i:=i) (x:=V.str (ts[i]'hi')) (by rw [List.getElem?_map,List.getElem?_eq_getElem hi']; rfl)
    obtain ⟨t,rfl⟩:=rr
    exact ⟨t,by rw [e3,List.getD_eq_getElem?_getD,List.getElem?_eq_getElem hi']; rfl⟩
  have W:Wo fun i j=>ltT (G4 (ts.getD i "")) (G4 (ts.getD j "")):=⟨fun i j h=>Iu _ _ h,fun i j k h1 h2=>Nj _ _ _ h1 h2⟩
  refine T7 (κ:=oneType') (vs:=its) W (fun A' E' Q' hQ=>by
    refine wpAny_collect_seq l (.inr rfl) ho hcl hd (fun h1 kp=>?_) (by rw [sizeLine_eq,List.size_toArray]; omega)
    rw [show its.toArray.toList = its from by simp]
    exact hQ h1 kp) (by omega) ?kd ?ak ?en
  case kd=>
    intro h2 h' Q' E' kp q'
    refine PySem.W.kas_kind (T:=.type "str") h2 (fun v hv=>?_) rfl rfl q'
    obtain ⟨i,hi,rfl⟩:=List.getElem_of_mem hv
    obtain ⟨t,e⟩:=hat i hi
    rw [List.getElem?_eq_getElem hi] at e
    rw [Option.some.inj e]
    exact PySem.W.Looks.now
  case ak=>
    intro h' i j C kp hi hj hC
    obtain ⟨t,e1⟩:=hat i hi
    obtain ⟨u,f1⟩:=hat j hj
    have g1:its.getD i Value.none = .str (ts.getD i "") t:=by rw [List.getD_eq_getElem?_getD,e1]; rfl
    have g2:its.getD j Value.none = .str (ts.getD j "") u:=by rw [List.getD_eq_getElem?_getD,f1]; rfl
    unfold PySem.W.kas_ask
    rw [g1,g2]
    refine PySem.W.kas_lt_str ?_
    rw [← Ra]
    exact hC
  case en=>
    intro h1 kp1 p h' c hp hu kp hl
    have J0:L2.Inv X pins σ H { s with heap:=h1 }:=I.kept (t':=s.toks) kp1
    have hks:(p.toList.map fun i=>G4 (ts.getD i "")) = P2 (ts.map G4):=by
      refine Ji ?_ ?_ (El _)
      · have e:(List.range its.length).map (fun i=>G4 (ts.getD i "")) = ts.map G4:=by
          apply List.ext_getElem
          · simp; omega
          · intro i h1 h2
            have:i < ts.length:=by simpa using h2
            simp [this]
        exact ((hp.perm.map _).trans (by rw [e])).trans (E5 _).symm
      · rw [List.pairwise_map,List.pairwise_iff_getElem]
        intro i j hi hj hij
        have hz:p.toList.length = its.length:=by rw [Array.length_toList]; exact hp.size
        have:=hu i j (Nat.le_of_lt hij) (by omega)
        have ai:at0 p i = p.toList[i]:=by unfold at0; rw [Array.getD_eq_getD_getElem?,← Array.getElem?_toList,List.getElem?_eq_getElem hi]; rfl
        have aj:at0 p j = p.toList[j]:=by unfold at0; rw [Array.getD_eq_getD_getElem?,← Array.getElem?_toList,List.getElem?_eq_getElem hj]; rfl
        rw [ai,aj] at this
        exact this
    have hlt:∀ k ∈ p.toList,k < its.length:=fun k hk=>List.mem_range.mp (hp.perm.mem_iff.mp hk)
    have hout:(p.toList.map fun i=>V.str (ts.getD i "")) = (Bv ts).map V.str:=by
      unfold Bv
      rw [← hks,List.map_map,List.map_map]
      exact List.map_congr_left fun i _=>by show _ = V.str (Lv (G4 _)); rw [Ty]
    have hrel:Vals ((Bv ts).map V.str) (Ep its p):=by
      rw [← hout]
      unfold Ep
      have:∀ ks:List Nat,(∀ k ∈ ks,k < its.length) → Vals (ks.map fun i=>V.str (ts.getD i "")) (ks.map fun i=>its.getD i Value.none):=by
        intro ks
        induction ks with
        | nil=>intro _; exact .nil
        | cons k ks ih=>
          intro hk
          obtain ⟨t,e⟩:=hat k (hk k (List.mem_cons_self ..))
          refine .cons ?_ (ih fun x hx=>hk x (List.mem_cons_of_mem _ hx))
          show L2.RelV (V.str (ts.getD k "")) (its.getD k Value.none)
          rw [List.getD_eq_getElem?_getD (l:=its),e]
          exact ⟨t,rfl⟩
      exact this _ hlt
    have hsz:((Bv ts).map V.str).length ≤ sizeLine:=by
      rw [List.length_map,(Ka ts).length_eq,sizeLine_eq]; omega
    have I1:Inv X pins σ (upd H h1.objs.size (.lst ((Bv ts).map V.str))) { s with heap:=h' }:=J0.laid (t':=s.toks) kp (Nat.le_refl _) ⟨hsz,Ep its p,c,hrel,hl⟩
    exact ⟨.ref h1.objs.size,_,I1,rfl,q _ (J0.hok.fresh (Nat.le_refl _))⟩
end
def Eg:SC:=fun us L=>match us with
  | [.tup l]=>(mapO toS l).bind fun ts=>if ts.length < 64 then some (.ref L.length,L ++ [.lst ((Bv ts).map U.str)]) else none
  | [.ref n]=>Nu [.ref n] L
  | _=>none
abbrev Yd (K:PySem.W.Frag):List V → Hp → VK → Prop:=fun xs H Q=>∃ (l:Addr) (ts:List Str),xs = [.ref l] ∧ SqL K H l (ts.map V.str) ∧ ts.length < 64 ∧ ∀ (p:Addr),H p = none → Q (.ref p) (upd H p (.lst ((Bv ts).map V.str)))
abbrev Uw (K:PySem.W.Frag):List V → Hp → VK → Prop:=fun xs H Q=>∃ (l:Addr) (ts:List Str),xs = [.ref l] ∧ SqT K H l (ts.map V.str) ∧ ts.length < 64 ∧ ∀ (p:Addr),H p = none → Q (.ref p) (upd H p (.lst ((Bv ts).map V.str)))
theorem Lz {X:Cx} (hc:X.calm = true):CallR X (.builtin "sorted") (fun xs H Q=>Yd X.K xs H Q ∨ Uw X.K xs H Q):=fun pins s σ H xs us Q I r h=>
  h.elim (fun h=>Us hc pins s σ H xs us Q I r h) (fun h=>R4 hc pins s σ H xs us Q I r h)
theorem Ov {K:PySem.W.Frag}:Ld K (fun xs H Q=>Yd K xs H Q ∨ Uw K xs H Q) Eg:=by
  intro H α L us xs z L' Q A r e q
  unfold Eg at e
  split at e
  · obtain ⟨ts,hts,e⟩:=Option.bind_eq_some_iff.mp e
    split at e
    · rename_i hc
      cases e
      obtain ⟨x,rfl,rx⟩:=r.one
      unfold RepU at rx
      obtain ⟨a,ys,rfl,sq,r2⟩:=rx
      rw [Mj r2 hts] at sq
      refine .inr ⟨a,ts,rfl,sq,hc,fun p hp=>?_⟩
      have rl:RepL K H α ((Bv ts).map U.str) ((Bv ts).map V.str):=by
        generalize Bv ts = ws
        induction ws with
        | nil=>exact .nil
        | cons w ws ih=>exact .cons (by unfold RepU; rfl) ih
      obtain ⟨g2,A2,r3⟩:=A.lst rl hp
      exact q _ _ _ g2 A2 r3
    · cases e
  · exact .inl (Xo H α L _ xs z L' Q A r e q)
  · cases e
end MR
set_option Elab.async false
set_option linter.all false
set_option maxRecDepth 100000
set_option maxHeartbeats 4000000
namespace ZT
open PySem PySem.Spec PyProof.Rows
open Sem (wp)
abbrev C8 (h:Heap) (T:Addr) (a b c:Value):Prop:=h.get? T = some { cls:=.type "tuple",data:=.seq #[a,b,c] }
structure Ap3 (z TI TO j1 j2 j3 l1 l2 l3:Addr):Prop where
  TIz:TI ≠ z
  TOz:TO ≠ z
  j1z:j1 ≠ z
  j2z:j2 ≠ z
  j3z:j3 ≠ z
  TITO:TI ≠ TO
  TIj1:TI ≠ j1
  TIj2:TI ≠ j2
  TIj3:TI ≠ j3
  TOj1:TO ≠ j1
  TOj2:TO ≠ j2
  TOj3:TO ≠ j3
  j12:j1 ≠ j2
  j13:j1 ≠ j3
  j23:j2 ≠ j3
  l1z:l1 ≠ z
  l2z:l2 ≠ z
  l3z:l3 ≠ z
  l2j1:l2 ≠ j1
  l3j1:l3 ≠ j1
  l3j2:l3 ≠ j2
  l2TO:l2 ≠ TO
  l3TO:l3 ≠ TO
theorem ap3 {n l1 l2 l3:Nat} (h1:l1 < n) (h2:l2 < n) (h3:l3 < n):Ap3 (n + 5) (n + 3) (n + 4) n (n + 1) (n + 2) l1 l2 l3:=by
  constructor <;> (intro q; have q:_ = (_:Nat):=q; omega)
section
variable {prog:Program} {w:World} {A:Around} {E:Value → Shared → Prop} {s:Shared}
theorem Q1 {T:Addr} {a b c x:Value} {k:Nat} {Q:Unit → Shared → Prop} (hT:C8 s.heap T a b c)
    (h:∀ h',h'.get? T = some { cls:=.type "tuple",data:=.seq ((#[a,b,c]:Array Value).setIfInBounds k x) } → Heap.SameBut T s.heap h' → Q () { s with heap:=h' }):wpAny (model prog w) A (updateSeq T (·.setIfInBounds k x)) Q E s:=by
  refine wpAny_updateSeq hT rfl (h _ ?_ (Heap.SameBut.update ..))
  rw [Heap.get?_update_self _ hT rfl]
  simp [Obj.mapSeq]
variable {z TI TO j1 j2 j3 l1 l2 l3:Addr} {k1 k2 k3:Nat} {xs ys vs:Array Value} {a b c:Value}
theorem Abe {x y v:Value} {Q:Value → Shared → Prop} (D:Ap3 z TI TO j1 j2 j3 l1 l2 l3) (hz:IsZip s.heap z TI TO .none) (hI:C8 s.heap TI (.ref j1) (.ref j2) (.ref j3)) (hO:C8 s.heap TO a b c)
    (h1:s.heap.IsTupleIter j1 l1 k1) (h2:s.heap.IsTupleIter j2 l2 k2) (h3:s.heap.IsTupleIter j3 l3 k3) (g1:s.heap.IsTuple l1 xs) (g2:s.heap.IsTuple l2 ys) (g3:s.heap.IsTuple l3 vs) (hx:xs[k1]? = some x) (hy:ys[k2]? = some y) (hv:vs[k3]? = some v)
    (hQ:∀ h',IsZip h' z TI TO (rawInt s.heap.objs.size) → C8 h' TO x y v → h'.IsTupleIter j1 l1 (k1 + 1) → h'.IsTupleIter j2 l2 (k2 + 1) → h'.IsTupleIter j3 l3 (k3 + 1) → C8 h' s.heap.objs.size x y v → h'.objs.size = s.heap.objs.size + 1 →
      (∀ c o,c ≠ z → c ≠ TO → c ≠ j1 → c ≠ j2 → c ≠ j3 → s.heap.get? c = some o → h'.get? c = some o) → Q (.ref s.heap.objs.size) { s with heap:=h' }) :
    wpAny (model prog w) A (Builtin.«zip.__next__» ⟨[.ref z],[]⟩) (fun fin s'=>∃ v,fin = .done (.ret v) ∧ Q v s') E s:=by
  show wpAny _ _ (field (.ref z) 2 >>= fun q=>_) _ _ _
  refine wpAny_bind (wpAny_field hz rfl (x:=.bool false) rfl ?_); show wpAny _ _ (field (.ref z) 3 >>= _) _ _ _
  refine wpAny_bind (wpAny_field hz rfl (x:=.ref TI) rfl (wpAny_bind (wpAny_seqItems hI rfl ?_)))
  show wpAny _ _ (Builtin.SmallTypes.ownedTupleIsFree (.ref z) >>= fun q=>_) _ _ _
  refine wpAny_bind ?_; unfold Builtin.SmallTypes.ownedTupleIsFree
  refine wpAny_bind (wpAny_field hz rfl (x:=.none) rfl (wpAny_pure ?_)); simp only [if_true]
  refine wpAny_bind (wpAny_rule (wpAny_bind (wpAny_field hz rfl (x:=.ref TO) rfl (wpAny_bind (wpAny_setField_rec hz (by simp) fun p1 z1 s1=>?_)))))
  replace z1:IsZip p1 z TI TO .ellipsis:=z1
  refine wpAny_bind ?_; simp only [List.zipIdx_cons,List.zipIdx_nil,List.forIn_cons,List.forIn_nil]
  refine wpAny_bind (wpAny_bind (wpAny_onRaise ?_)); show wpAny _ _ (Builtin.SmallTypes.nextOf (.ref j1) >>= _) _ _ _
  refine wpAny_bind (K4 (h1.extBut s1.extBut D.j1z) (g1.extBut s1.extBut D.l1z) hx fun p2 i2 s2=>wpAny_pure ?_)
  have O2:C8 p2 TO a b c:=s2.extBut _ _ D.TOj1 (s1.extBut _ _ D.TOz hO)
  refine wpAny_bind (wpAny_seqItems O2 rfl (wpAny_bind (Q1 O2 fun p3 O3 s3=>?_)))
  replace O3:C8 p3 TO x b c:=O3
  refine wpAny_bind (wpAny_letGo (wpAny_pure ?_)); refine wpAny_bind (wpAny_bind (wpAny_onRaise ?_))
  show wpAny _ _ (Builtin.SmallTypes.nextOf (.ref j2) >>= fun q=>_) _ _ _
  refine wpAny_bind (K4 (((h2.extBut s1.extBut D.j2z).extBut s2.extBut D.j12.symm).extBut s3.extBut D.TOj2.symm) (((g2.extBut s1.extBut D.l2z).extBut s2.extBut D.l2j1).extBut s3.extBut D.l2TO) hy fun p4 i4 s4=>wpAny_pure ?_)
  have O4:C8 p4 TO x b c:=s4.extBut _ _ D.TOj2 O3
  refine wpAny_bind (wpAny_seqItems O4 rfl (wpAny_bind (Q1 O4 fun p5 O5 s5=>?_)))
  replace O5:C8 p5 TO x y c:=O5
  refine wpAny_bind (wpAny_letGo (wpAny_pure ?_)); refine wpAny_bind (wpAny_bind (wpAny_onRaise ?_))
  show wpAny _ _ (Builtin.SmallTypes.nextOf (.ref j3) >>= fun q=>_) _ _ _
  refine wpAny_bind (K4 (((((h3.extBut s1.extBut D.j3z).extBut s2.extBut D.j13.symm).extBut s3.extBut D.TOj3.symm).extBut s4.extBut D.j23.symm).extBut s5.extBut D.TOj3.symm) (((((g3.extBut s1.extBut D.l3z).extBut s2.extBut D.l3j1).extBut s3.extBut D.l3TO).extBut s4.extBut D.l3j2).extBut s5.extBut D.l3TO) hv fun p6 i6 s6=>wpAny_pure ?_)
  have O6:C8 p6 TO x y c:=s6.extBut _ _ D.TOj3 O5
  refine wpAny_bind (wpAny_seqItems O6 rfl (wpAny_bind (Q1 O6 fun p7 O7 s7=>?_)))
  replace O7:C8 p7 TO x y v:=O7
  refine wpAny_bind (wpAny_letGo (wpAny_pure (wpAny_pure ?_))); refine wpAny_bind (wpAny_seqItems O7 rfl (wpAny_bind (wpAny_newTuple ?_)))
  have hsz:p7.objs.size = s.heap.objs.size:=by rw [s7.1,s6.1,s5.1,s4.1,s3.1,s2.1,s1.1]
  have z7:IsZip p7 z TI TO .ellipsis:=s7.extBut _ _ D.TOz.symm (s6.extBut _ _ D.j3z.symm (s5.extBut _ _ D.TOz.symm (s4.extBut _ _ D.j2z.symm (s3.extBut _ _ D.TOz.symm (s2.extBut _ _ D.j1z.symm z1)))))
  have k7:∀ c o,c ≠ z → c ≠ TO → c ≠ j1 → c ≠ j2 → c ≠ j3 → s.heap.get? c = some o → p7.get? c = some o:=fun c o c1 c2 c3 c4 c5 e=>s7.extBut _ _ c2 (s6.extBut _ _ c5 (s5.extBut _ _ c2 (s4.extBut _ _ c4 (s3.extBut _ _ c2 (s2.extBut _ _ c3 (s1.extBut _ _ c1 e))))))
  have i17:p7.IsTupleIter j1 l1 (k1 + 1):=((((i2.extBut s3.extBut D.TOj1.symm).extBut s4.extBut D.j12).extBut s5.extBut D.TOj1.symm).extBut s6.extBut D.j13).extBut s7.extBut D.TOj1.symm
  have i27:p7.IsTupleIter j2 l2 (k2 + 1):=((i4.extBut s5.extBut D.TOj2.symm).extBut s6.extBut D.j23).extBut s7.extBut D.TOj2.symm
  have i37:p7.IsTupleIter j3 l3 (k3 + 1):=i6.extBut s7.extBut D.TOj3.symm
  have zlt:z < p7.objs.size:=Heap.lt_size z7
  show wpAny _ _ (Builtin.SmallTypes.ownedTupleHandOut (.ref z) (.ref p7.objs.size) >>= fun q=>_) _ _ _
  refine wpAny_bind ?_; unfold Builtin.SmallTypes.ownedTupleHandOut
  have z8:IsZip (p7.push { cls:=.type "tuple",data:=.seq #[x,y,v] }) z TI TO .ellipsis:=Heap.get?_push_of_some _ z7
  refine wpAny_bind (wpAny_setField_rec z8 (by simp) fun p9 z9 s9=>?_)
  replace z9:IsZip p9 z TI TO (rawInt p7.objs.size):=z9
  refine wpAny_setField_rec z9 (by simp) fun p10 z10 s10=>?_
  replace z10:IsZip p10 z TI TO (rawInt p7.objs.size):=z10
  have up:∀ c o,c ≠ z → p7.get? c = some o → p10.get? c = some o:=fun c o c1 e=>s10.extBut _ _ c1 (s9.extBut _ _ c1 (Heap.get?_push_of_some _ e))
  have t10:C8 p10 p7.objs.size x y v:=s10.extBut _ _ (Nat.ne_of_gt zlt) (s9.extBut _ _ (Nat.ne_of_gt zlt) (Heap.get?_push_size _ rfl))
  have e10:p10.objs.size = p7.objs.size + 1:=by rw [s10.1,s9.1,Heap.size_push]
  rw [hsz] at z10 t10 e10
  refine wpAny_pure ⟨_,rfl,?_⟩
  show Q (.ref p7.objs.size) _
  rw [hsz]
  exact hQ p10 z10 (up _ _ D.TOz O7) (i17.at fun o e=>up _ o D.j1z e) (i27.at fun o e=>up _ o D.j2z e) (i37.at fun o e=>up _ o D.j3z e) t10 e10 fun c o c1 c2 c3 c4 c5 e=>up c o c1 (k7 c o c1 c2 c3 c4 c5 e)
theorem Acn {Q:Fin → Shared → Prop} (hh:A.handled = none) (D:Ap3 z TI TO j1 j2 j3 l1 l2 l3) (hz:IsZip s.heap z TI TO .none) (hI:C8 s.heap TI (.ref j1) (.ref j2) (.ref j3)) (h1:s.heap.IsTupleIter j1 l1 k1) (g1:s.heap.IsTuple l1 xs) (hx:xs[k1]? = none)
    (hE:∀ h' e,(∀ c o,c ≠ z → c ≠ TO → c ≠ j1 → c ≠ j2 → c ≠ j3 → s.heap.get? c = some o → h'.get? c = some o) → (∃ ob,h'.get? e = some ob ∧ ob.cls = .type "StopIteration") → E (.ref e) { s with heap:=h' }) :
    wpAny (model prog w) A (Builtin.«zip.__next__» ⟨[.ref z],[]⟩) Q E s:=by
  show wpAny _ _ (field (.ref z) 2 >>= fun q=>_) _ _ _
  refine wpAny_bind (wpAny_field hz rfl (x:=.bool false) rfl ?_); show wpAny _ _ (field (.ref z) 3 >>= _) _ _ _
  refine wpAny_bind (wpAny_field hz rfl (x:=.ref TI) rfl (wpAny_bind (wpAny_seqItems hI rfl ?_)))
  show wpAny _ _ (Builtin.SmallTypes.ownedTupleIsFree (.ref z) >>= fun q=>_) _ _ _
  refine wpAny_bind ?_; unfold Builtin.SmallTypes.ownedTupleIsFree
  refine wpAny_bind (wpAny_field hz rfl (x:=.none) rfl (wpAny_pure ?_)); simp only [if_true]
  refine wpAny_bind (wpAny_rule (wpAny_bind (wpAny_field hz rfl (x:=.ref TO) rfl (wpAny_bind (wpAny_setField_rec hz (by simp) fun p1 z1 s1=>?_)))))
  replace z1:IsZip p1 z TI TO .ellipsis:=z1
  refine wpAny_bind ?_; simp only [List.zipIdx_cons,List.zipIdx_nil,List.forIn_cons,List.forIn_nil]
  refine wpAny_bind (wpAny_bind (wpAny_onRaise ?_)); show wpAny _ _ (Builtin.SmallTypes.nextOf (.ref j1) >>= _) _ _ _
  refine wpAny_bind (Rj hh (h1.extBut s1.extBut D.j1z) (g1.extBut s1.extBut D.l1z) hx fun p2 e s2 he=>?_)
  obtain ⟨oe,hoe,hce⟩:=he
  have z2:IsZip p2 z TI TO .ellipsis:=s2 _ _ D.j1z.symm z1
  have hez:e ≠ z:=fun q=>by subst q; rw [z2] at hoe; cases hoe; simp at hce
  refine wpAny_setField_rec z2 (by simp) fun p3 _ s3=>hE p3 e (fun c o c1 _ c3 _ _ q=>s3.extBut _ _ c1 (s2 _ _ c3 (s1.extBut _ _ c1 q))) ⟨oe,s3.extBut _ _ hez hoe,hce⟩
theorem Aaf {x y v:Value} {Q:Option Value → Shared → Prop} (D:Ap3 z TI TO j1 j2 j3 l1 l2 l3) (hz:IsZip s.heap z TI TO .none) (hI:C8 s.heap TI (.ref j1) (.ref j2) (.ref j3)) (hO:C8 s.heap TO a b c)
    (h1:s.heap.IsTupleIter j1 l1 k1) (h2:s.heap.IsTupleIter j2 l2 k2) (h3:s.heap.IsTupleIter j3 l3 k3) (g1:s.heap.IsTuple l1 xs) (g2:s.heap.IsTuple l2 ys) (g3:s.heap.IsTuple l3 vs) (hx:xs[k1]? = some x) (hy:ys[k2]? = some y) (hv:vs[k3]? = some v)
    (hQ:∀ h',IsZip h' z TI TO (rawInt s.heap.objs.size) → C8 h' TO x y v → h'.IsTupleIter j1 l1 (k1 + 1) → h'.IsTupleIter j2 l2 (k2 + 1) → h'.IsTupleIter j3 l3 (k3 + 1) → C8 h' s.heap.objs.size x y v → h'.objs.size = s.heap.objs.size + 1 →
      (∀ c o,c ≠ z → c ≠ TO → c ≠ j1 → c ≠ j2 → c ≠ j3 → s.heap.get? c = some o → h'.get? c = some o) → Q (some (.ref s.heap.objs.size)) { s with heap:=h' }) :
    wpAny (model prog w) A (pyNext (.ref z)) Q E s:=by
  have ty:s.TypeIs (.ref z) "zip" := ⟨_,hz,rfl⟩
  unfold pyNext
  exact wpAny_bind (wpAny_attempt (wpAny_callSpecial?_slot (name:=Str.ofString "__next__") ty F.slot_zip_next (wpAny_call_entry F.slot_zip_next ty F.entry_zip_next (Abe D hz hI hO h1 h2 h3 g1 g2 g3 hx hy hv fun h' q1 q2 q3 q4 q5 q6 q7 q8=>wpAny_pure (hQ h' q1 q2 q3 q4 q5 q6 q7 q8)) (F.args_zip_next_1 _))))
theorem Aef {Q:Option Value → Shared → Prop} (hh:A.handled = none) (D:Ap3 z TI TO j1 j2 j3 l1 l2 l3) (hz:IsZip s.heap z TI TO .none) (hI:C8 s.heap TI (.ref j1) (.ref j2) (.ref j3)) (h1:s.heap.IsTupleIter j1 l1 k1) (g1:s.heap.IsTuple l1 xs) (hx:xs[k1]? = none)
    (hQ:∀ h',(∀ c o,c ≠ z → c ≠ TO → c ≠ j1 → c ≠ j2 → c ≠ j3 → s.heap.get? c = some o → h'.get? c = some o) → Q none { s with heap:=h' }):wpAny (model prog w) A (pyNext (.ref z)) Q E s:=by
  have ty:s.TypeIs (.ref z) "zip" := ⟨_,hz,rfl⟩
  unfold pyNext
  refine wpAny_bind (wpAny_attempt (wpAny_callSpecial?_slot (name:=Str.ofString "__next__") ty F.slot_zip_next (wpAny_call_entry F.slot_zip_next ty F.entry_zip_next (Acn hh D hz hI h1 g1 hx fun h' e hk he=>?_) (F.args_zip_next_1 _))))
  obtain ⟨ob,hob,hcl⟩:=he
  exact wpAny_bind (wpAny_isInstance (T := "StopIteration") (b:=true) ⟨ob,hob,hcl⟩ isSubtype_stop (wpAny_pure (hQ _ hk)))
end
end ZT
set_option Elab.async false
set_option linter.all false
set_option maxRecDepth 100000
set_option maxHeartbeats 4000000
namespace ZT
open PySem PySem.Spec PyProof.Rows
open Sem (wp)
theorem Nt (a b c:Value):checkTypeCall "zip" ⟨[a,b,c],[]⟩ = pure ():=by kernel_rfl
theorem Pf (a b c:Value):checkBuiltinCall "zip.__new__" ⟨[.type "zip",a,b,c],[]⟩ = pure ():=by kernel_rfl
theorem Jz (a b c d:Value):argsOk "object.__init__" ⟨[a,b,c,d],[]⟩:=by
  unfold argsOk; rw [signature?_of (id := "object.__init__") (n:=['_','_','t','i','n','i','_','_']) (o:=['t','c','e','j','b','o']) (by kernel_rfl) PySem.F.owner_object]; kernel_rfl
abbrev yh1 (h:Heap) (l1:Addr):Heap:=h.push { cls:=.type "tuple_iterator",data:=.fields #[.ref l1,.int 0 0] }
abbrev yh2 (h:Heap) (l1 l2:Addr):Heap:=(yh1 h l1).push { cls:=.type "tuple_iterator",data:=.fields #[.ref l2,.int 0 0] }
abbrev yh3 (h:Heap) (l1 l2 l3:Addr):Heap:=(yh2 h l1 l2).push { cls:=.type "tuple_iterator",data:=.fields #[.ref l3,.int 0 0] }
abbrev yh4 (h:Heap) (l1 l2 l3:Addr):Heap:=(yh3 h l1 l2 l3).push { cls:=.type "tuple",data:=.seq #[.ref h.objs.size,.ref (yh1 h l1).objs.size,.ref (yh2 h l1 l2).objs.size] }
abbrev yh5 (h:Heap) (l1 l2 l3:Addr):Heap:=(yh4 h l1 l2 l3).push { cls:=.type "tuple",data:=.seq #[.none,.none,.none] }
abbrev yh6 (h:Heap) (l1 l2 l3:Addr):Heap:=(yh5 h l1 l2 l3).push { cls:=.type "zip",data:=.fields #[.none,.bool false,.bool false,.ref (yh3 h l1 l2 l3).objs.size,.ref (yh4 h l1 l2 l3).objs.size] }
theorem Ab3 (l1 l2 l3 : Addr) (xs ys vs : Array Value) : Meets (Builtin.«zip.__new__» ⟨[.type "zip", .ref l1, .ref l2, .ref l3], []⟩) (fun _ R s => s.heap.IsTuple l1 xs ∧ s.heap.IsTuple l2 ys ∧ s.heap.IsTuple l3 vs ∧
      R (.ok (.ret (.ref (yh5 s.heap l1 l2 l3).objs.size))) { s with heap:=yh6 s.heap l1 l2 l3 }):=
  .of_wp fun prog w A R s h=>by
    obtain ⟨hp,g,d,tk,os⟩:=s
    obtain ⟨t1,t2,t3,h⟩:=h
    have hsub:=sub_zip
    have T1:Heap.IsTuple (Shared.heap ⟨hp,g,d,tk,os⟩) l1 xs:=t1
    have T2:Heap.IsTuple (Shared.heap ⟨hp.push { cls:=.type "tuple_iterator",data:=.fields #[.ref l1,.int 0 0] },g,d,tk,os⟩) l2 ys:=Heap.IsTuple.push t2 _
    have T3:Heap.IsTuple (Shared.heap ⟨(hp.push { cls:=.type "tuple_iterator",data:=.fields #[.ref l1,.int 0 0] }).push { cls:=.type "tuple_iterator",data:=.fields #[.ref l2,.int 0 0] },g,d,tk,os⟩) l3 vs:=Heap.IsTuple.push (Heap.IsTuple.push t3 _) _
    wp_walk using wpAny_pyIter_tuple T1,wpAny_pyIter_tuple T2,wpAny_pyIter_tuple T3
    exact ⟨_,rfl,h⟩
section
variable {prog:Program} {w:World} {A:Around} {E:Value → Shared → Prop} {s:Shared}
theorem Aa9 {l1 l2 l3:Addr} {xs ys vs:Array Value} {Q:Value → Shared → Prop} (t1:s.heap.IsTuple l1 xs) (t2:s.heap.IsTuple l2 ys) (t3:s.heap.IsTuple l3 vs)
    (h:∀ h',IsZip h' (s.heap.objs.size + 5) (s.heap.objs.size + 3) (s.heap.objs.size + 4) .none → C8 h' (s.heap.objs.size + 3) (.ref s.heap.objs.size) (.ref (s.heap.objs.size + 1)) (.ref (s.heap.objs.size + 2)) →
      C8 h' (s.heap.objs.size + 4) .none .none .none → h'.IsTupleIter s.heap.objs.size l1 0 → h'.IsTupleIter (s.heap.objs.size + 1) l2 0 → h'.IsTupleIter (s.heap.objs.size + 2) l3 0 → (∀ c o,s.heap.get? c = some o → h'.get? c = some o) → Q (.ref (s.heap.objs.size + 5)) { s with heap:=h' }) :
    wpAny (model prog w) A (call (.type "zip") [.ref l1,.ref l2,.ref l3]) Q E s:=by
  refine callType_new F.called_zip (by decide) (Nt _ _ _) (Pf _ _ _) (fun obj=>Jz obj _ _ _) F.entry_zip_new (Ab3 l1 l2 l3 xs ys vs) ⟨t1,t2,t3,?_⟩
  have z1:(yh1 s.heap l1).objs.size = s.heap.objs.size + 1:=Heap.size_push ..
  have z2:(yh2 s.heap l1 l2).objs.size = s.heap.objs.size + 2:=by rw [Heap.size_push,z1]
  have z3:(yh3 s.heap l1 l2 l3).objs.size = s.heap.objs.size + 3:=by rw [Heap.size_push,z2]
  have z4:(yh4 s.heap l1 l2 l3).objs.size = s.heap.objs.size + 4:=by rw [Heap.size_push,z3]
  have z5:(yh5 s.heap l1 l2 l3).objs.size = s.heap.objs.size + 5:=by rw [Heap.size_push,z4]
  have q6:(yh6 s.heap l1 l2 l3).get? (yh5 s.heap l1 l2 l3).objs.size = some _:=Heap.get?_push_size _ rfl
  have q5:(yh6 s.heap l1 l2 l3).get? (yh4 s.heap l1 l2 l3).objs.size = some _:=Heap.get?_push_of_some _ (Heap.get?_push_size _ rfl)
  have q4:(yh6 s.heap l1 l2 l3).get? (yh3 s.heap l1 l2 l3).objs.size = some _:=Heap.get?_push_of_some _ (Heap.get?_push_of_some _ (Heap.get?_push_size _ rfl))
  have q3:(yh6 s.heap l1 l2 l3).get? (yh2 s.heap l1 l2).objs.size = some _:=Heap.get?_push_of_some _ (Heap.get?_push_of_some _ (Heap.get?_push_of_some _ (Heap.get?_push_size _ rfl)))
  have q2:(yh6 s.heap l1 l2 l3).get? (yh1 s.heap l1).objs.size = some _:=Heap.get?_push_of_some _ (Heap.get?_push_of_some _ (Heap.get?_push_of_some _ (Heap.get?_push_of_some _ (Heap.get?_push_size _ rfl))))
  have q1:(yh6 s.heap l1 l2 l3).get? s.heap.objs.size = some _:=Heap.get?_push_of_some _ (Heap.get?_push_of_some _ (Heap.get?_push_of_some _ (Heap.get?_push_of_some _ (Heap.get?_push_of_some _ (Heap.get?_push_size _ rfl)))))
  show _ ∧ _
  rw [z3,z4,z5] at q6; rw [z1,z2,z3] at q4; rw [z4] at q5
  rw [z2] at q3; rw [z1] at q2; rw [z5]
  exact ⟨⟨_,q6,rfl⟩,h _ q6 q4 q5 ⟨_,q1,rfl,rfl⟩ ⟨_,q2,rfl,rfl⟩ ⟨_,q3,rfl,rfl⟩ fun c o q=>Heap.get?_push_of_some _ (Heap.get?_push_of_some _ (Heap.get?_push_of_some _ (Heap.get?_push_of_some _ (Heap.get?_push_of_some _ (Heap.get?_push_of_some _ q)))))⟩
end
end ZT
namespace MR
open PySem PySem.Spec PyProof.Rows L2
def Agc (K:PySem.W.Frag) (a b d:Addr):It:=
  ⟨fun i H=>∃ xs ys ws x y v,SqT K H a xs ∧ SqT K H b ys ∧ SqT K H d ws ∧ xs[i]? = some x ∧ ys[i]? = some y ∧ ws[i]? = some v,
    fun i H z H'=>∃ p x y v,H p = none ∧ z = .ref p ∧ H' = upd H p (.tup [x,y,v]) ∧ (∀ xs,SqT K H a xs → xs[i]? = some x) ∧ (∀ ys,SqT K H b ys → ys[i]? = some y) ∧ ∀ ws,SqT K H d ws → ws[i]? = some v,
    fun i H=>∃ xs,SqT K H a xs ∧ xs.length ≤ i⟩
theorem N9 {h:Heap} {jt l:Addr} {k:Nat} (x:h.IsTupleIter jt l k):∃ o,h.get? jt = some o ∧ o.data = .fields #[.ref l,.int k 0]:=by
  obtain ⟨o,ho,_,r⟩:=x; exact ⟨o,ho,r⟩
theorem Wx {P:Program} {w:World} {K:PySem.W.Frag} {elts:List Expr} {x1} {pos:Pos} (a b d z TI TO i1 i2 i3:Addr) (D:ZT.Ap3 z TI TO i1 i2 i3 a b d):Turn P w K (.Tuple elts x1 pos) (Agc K a b d) [z,TI,TO,i1,i2,i3] z
    (fun i h=>IsZip h z TI TO .none ∧ ZT.C8 h TI (.ref i1) (.ref i2) (.ref i3) ∧ (∃ u v t,ZT.C8 h TO u v t) ∧ h.IsTupleIter i1 a i ∧ h.IsTupleIter i2 b i ∧ h.IsTupleIter i3 d i) where
  mem:=by simp
  obj:=fun i h st c hb=>by
    obtain ⟨h1,h2,⟨u,v,t,h3⟩,h4',h5',h6'⟩:=st
    obtain ⟨o4,h4,d4⟩:=N9 h4'
    obtain ⟨o5,h5,d5⟩:=N9 h5'
    obtain ⟨o6,h6,d6⟩:=N9 h6'
    simp only [List.mem_cons,List.not_mem_nil,or_false] at hb
    rcases hb with rfl | rfl | rfl | rfl | rfl | rfl
    · exact ⟨_,h1,fun v z=>by simp at z⟩
    · exact ⟨_,h2,fun v z=>by simp at z⟩
    · exact ⟨_,h3,fun v z=>by simp at z⟩
    · exact ⟨_,h4,fun v z=>by rw [d4] at z; cases z⟩
    · exact ⟨_,h5,fun v z=>by rw [d5] at z; cases z⟩
    · exact ⟨_,h6,fun v z=>by rw [d6] at z; cases z⟩
  keep:=fun i h h' st k=>by
    obtain ⟨h1,h2,⟨u,v,t,h3⟩,h4,h5,h6⟩:=st
    exact ⟨k z (by simp) _ h1,k TI (by simp) _ h2,⟨u,v,t,k TO (by simp) _ h3⟩,h4.at (k i1 (by simp)),h5.at (k i2 (by simp)),h6.at (k i3 (by simp))⟩
  item:=by
    intro X hP hw hK hc i pins s σ H E I hf st hg
    subst hP hw hK
    obtain ⟨h1,h2,⟨u0,v0,t0,h3⟩,h4,h5,h6⟩:=st
    obtain ⟨xs,ys,ws,x,y,v,sq1,sq2,sq3,hx,hy,hv⟩:=hg
    obtain ⟨its1,hv1,pl1,hz1⟩:=I.tuple sq1
    obtain ⟨its2,hv2,pl2,hz2⟩:=I.tuple sq2
    obtain ⟨its3,hv3,pl3,hz3⟩:=I.tuple sq3
    obtain ⟨u,hu,r⟩:=hv1.get hx
    obtain ⟨u',hu',r'⟩:=hv2.get hy
    obtain ⟨u'',hu'',r''⟩:=hv3.get hv
    refine ZT.Aaf D h1 h2 h3 h4 h5 h6 pl1 pl2 pl3 (by simpa using hu) (by simpa using hu') (by simpa using hu'') fun h' o1 o2 o3 o4 o5 o6 o7 o8=>?_
    refine ⟨_,rfl,?_⟩
    have hfr:H s.heap.objs.size = none:=I.hok.fresh (Nat.le_refl _)
    have I1:L2.Inv X pins σ (upd H s.heap.objs.size (.tup [x,y,v])) { s with heap:=h',toks:=s.toks }:=
      Inv.turnNew (ch:=[z,TI,TO,i1,i2,i3]) I hf (fun c o hb q=>o8 c o (fun z=>hb (by simp [z])) (fun z=>hb (by simp [z])) (fun z=>hb (by simp [z])) (fun z=>hb (by simp [z])) (fun z=>hb (by simp [z])) q) (Nat.le_refl _)
        (show ObjOk X.prog X.w _ h' _ (.tup [x,y,v]) from ⟨by show 3 ≤ sizeLine; decide,[u,u',u''],.cons r (.cons r' (.cons r'' .nil)),⟨_,o6,rfl,_,rfl⟩⟩)
    refine wpAny_letOwnedTupleGo_zip o1 fun h9 e2 sb2=>?_
    have hlt:∀ c ∈ [z,TI,TO,i1,i2,i3],c < s.heap.objs.size:=fun c hb=>by
      simp only [List.mem_cons,List.not_mem_nil,or_false] at hb
      rcases hb with rfl | rfl | rfl | rfl | rfl | rfl
      · exact Heap.lt_size h1
      · exact Heap.lt_size h2
      · exact Heap.lt_size h3
      · obtain ⟨o,q,_⟩:=h4; exact Heap.lt_size q
      · obtain ⟨o,q,_⟩:=h5; exact Heap.lt_size q
      · obtain ⟨o,q,_⟩:=h6; exact Heap.lt_size q
    have hnone:∀ c ∈ [z,TI,TO,i1,i2,i3],(upd H s.heap.objs.size (.tup [x,y,v])) c = none:=fun c hb=>by rw [Az (Nat.ne_of_lt (hlt c hb))]; exact (hf c hb).1
    obtain ⟨f0,f1,f2,f3,f4,f5⟩:=hf z (by simp)
    have I2:=I1.turned (t':=s.toks) (h':=h9) (it:=z) (fun c o hb q=>sb2.2 c hb |>.trans q) (hnone z (by simp)) f1 f3 f4 f5
    have hTI:ZT.C8 h' TI (.ref i1) (.ref i2) (.ref i3):=o8 TI _ D.TIz D.TITO D.TIj1 D.TIj2 D.TIj3 h2
    refine ⟨.ref s.heap.objs.size,_,I2,rfl,⟨_,x,y,v,hfr,rfl,rfl,fun ys sq'=>?_,fun ys sq'=>?_,fun ys sq'=>?_⟩,⟨e2,(sb2.2 TI D.TIz).trans hTI,⟨_,_,_,(sb2.2 TO D.TOz).trans o2⟩,o3.at (fun o q=>(sb2.2 i1 D.j1z).trans q),o4.at (fun o q=>(sb2.2 i2 D.j2z).trans q),o5.at (fun o q=>(sb2.2 i3 D.j3z).trans q)⟩,hnone⟩
    · rw [I.tuple_inj sq' sq1]; exact hx
    · rw [I.tuple_inj sq' sq2]; exact hy
    · rw [I.tuple_inj sq' sq3]; exact hv
  done:=by
    intro X hP hw hK hc i pins s σ H E I hf st hg
    subst hP hw hK
    obtain ⟨h1,h2,⟨u0,v0,t0,h3⟩,h4,h5,h6⟩:=st
    obtain ⟨xs,sq1,hx⟩:=hg
    obtain ⟨its1,hv1,pl1,hz1⟩:=I.tuple sq1
    have hl1:=hv1.length
    refine ZT.Aef (I.ok.hd hc) D h1 h2 h4 pl1 (by simp; omega) fun h' k=>⟨rfl,?_⟩
    have nch:∀ b u,H b = some u → b ∉ [z,TI,TO,i1,i2,i3]:=fun b u e hb=>by rw [(hf b hb).1] at e; cases e
    have k':∀ b o,b ∉ [z,TI,TO,i1,i2,i3] → s.heap.get? b = some o → h'.get? b = some o:=fun c o hb q=>k c o (fun z=>hb (by simp [z])) (fun z=>hb (by simp [z])) (fun z=>hb (by simp [z])) (fun z=>hb (by simp [z])) (fun z=>hb (by simp [z])) q
    refine I.step (g':=s.gens) (d':=s.drawn) (t':=s.toks) (ch:=[z,TI,TO,i1,i2,i3]) (fun b hb=>?_) (fun b o _ _ hc e _=>k' b o hc e) (fun b o _ _ hc e _=>⟨o.slots,k' b o hc e⟩) (fun _ _ _ _ n=>n) (fun b u hc e=>⟨u,k' b u hc e⟩) (fun _ _ e=>e) (fun _ _ _ e=>e) (fun b ps e=>⟨#[],by rw [e]; simp⟩) (fun m hm=>?_) (fun b u e=>?_) I.bare
    · obtain ⟨_,f1,_,f3,f4,f5⟩:=hf b hb
      exact ⟨f3,f1,f4,f5⟩
    · obtain ⟨o1,es,ep,ho,r⟩:=hm
      exact ⟨o1,es,ep,k' _ o1 (fun z=>(hf _ z).2.1 rfl) ho,r⟩
    · refine (I.hok b u e).stay (fun c v hc q=>k' c v ?_ q) (fun _ q=>q) fun _ _ q=>q
      rcases hc with z | z
      · rw [z]; exact nch b u e
      · exact nch c _ z
  self:=fun _ _ _ _ _ st h=>wpAny_pyIter_zip st.1 h
section
variable {X:Cx} {elts:List Expr} {x1:Nat} {tpos:Pos}
theorem Ahq {x y z:V} {us:List Value} (r:Vals [x,y,z] us):∃ u v w,us = [u,v,w] ∧ RelV x u ∧ RelV y v ∧ RelV z w:=by
  cases r with
  | cons r1 r2=>
    obtain ⟨v,w,rfl,a,b⟩:=Sn r2
    exact ⟨_,v,w,rfl,r1,a,b⟩
theorem RepL.three {K:PySem.W.Frag} {H:Hp} {α:List Addr} {u w t:U} {xs:List V} (h:RepL K H α [u,w,t] xs):∃ x y z,xs = [x,y,z] ∧ RepU K H α u x ∧ RepU K H α w y ∧ RepU K H α t z:=by
  unfold RepL at h
  obtain ⟨x,r,e,h1,h2⟩:=h
  obtain ⟨y,z,e2,h3,h4⟩:=h2.two
  subst e2
  exact ⟨x,y,z,e,h1,h3,h4⟩
def Ajb (K:PySem.W.Frag) (ta:TA):TI:=fun σ H R=>ta σ H fun vs H1=>∃ a b d xs ys ws,vs = [.ref a,.ref b,.ref d] ∧ SqT K H1 a xs ∧ SqT K H1 b ys ∧ SqT K H1 d ws ∧ R (Agc K a b d) H1
theorem Ab2 {a b d:Expr} {ta:TA} {p pos:Pos} (hg:Gl X "zip") (hm:X.mg "zip" = none) (ha:PA X [a,b,d] ta) (hs:starEach [a,b,d] X.env = (false,eval a X.env) :: starEach [b,d] X.env:=by rfl) (hpl:(backTo pos (starEach [b,d] X.env)).any (·.1) = false:=by rfl):PI X (.Tuple elts x1 tpos) (.Call (.Name "zip" p) [a,b,d] [] pos) (Ajb X.K ta):=by
  intro pins s σ H R I h
  refine Call_ (Hk I hg hm Kj (PyProof.Rows.callWith_type1 (thn (ha pos pins s σ H _ I h) fun us s1 ⟨vs,H1,I1,r1,q1⟩=>?_) hs hpl))
  obtain ⟨l1,l2,l3,xs,ys,ws,rfl,sq1,sq2,sq3,q⟩:=q1
  obtain ⟨u,u',u'',rfl,ru,ru',ru''⟩:=Ahq r1
  cases ru; cases ru'; cases ru''
  obtain ⟨its1,hv1,pl1,hz1⟩:=I1.tuple sq1
  obtain ⟨its2,hv2,pl2,hz2⟩:=I1.tuple sq2
  obtain ⟨its3,hv3,pl3,hz3⟩:=I1.tuple sq3
  have lt1:l1 < s1.heap.objs.size:=by obtain ⟨o,e,_⟩:=pl1; exact Heap.lt_size e
  have lt2:l2 < s1.heap.objs.size:=by obtain ⟨o,e,_⟩:=pl2; exact Heap.lt_size e
  have lt3:l3 < s1.heap.objs.size:=by obtain ⟨o,e,_⟩:=pl3; exact Heap.lt_size e
  refine ZT.Aa9 pl1 pl2 pl3 fun h' o1 o2 o3 o4 o5 o6 o7=>?_
  have I2:L2.Inv X pins σ H1 { s1 with heap:=h' }:=I1.kept (t':=s1.toks) o7
  refine wpAny_pyIter_zip o1 ⟨_,_,_,_,H1,rfl,I2,Wx l1 l2 l3 _ _ _ _ _ _ (ZT.ap3 lt1 lt2 lt3),⟨o1,o2,⟨_,_,_,o3⟩,o4,o5,o6⟩,fun b hb=>?_,q⟩
  have hb':s1.heap.objs.size ≤ b:=by
    simp only [List.mem_cons,List.not_mem_nil,or_false] at hb
    rcases hb with rfl | rfl | rfl | rfl | rfl | rfl <;> first | exact Nat.le_add_right _ _ | exact Nat.le_refl _
  exact L2.Inv.fpOk I1 hb' (I1.hok.fresh hb')
def K1 (us ws ts:List U):List U:=(us.zip (ws.zip ts)).map fun p=>.tup [p.1,p.2.1,p.2.2]
theorem Ye {K:PySem.W.Frag} {H:Hp} {α:List Addr} {a b d:Addr} {us ws ts:List U} {xs ys zs:List V} (hl:us.length = ws.length ∧ us.length = ts.length) (sa:SqT K H a xs) (sb:SqT K H b ys) (sd:SqT K H d zs) (ra:RepL K H α us xs) (rb:RepL K H α ws ys) (rd:RepL K H α ts zs):Os K (Agc K a b d) (.seq (K1 us ws ts)) H α:=by
  intro H2 α2 L2 g A2 k
  have mv:∀ (c:Addr) (vs:List U) (zs:List V),SqT K H c zs → RepL K H α vs zs → ∃ zs2,SqT K H2 c zs2 ∧ RepL K H2 α2 vs zs2:=fun c vs zs s r=>by
    have m:=(show RepU K H α (.tup vs) (.ref c) by unfold RepU; exact ⟨c,zs,rfl,s,r⟩).mono g
    unfold RepU at m
    obtain ⟨c',zs2,e,s2,r2⟩:=m
    cases e
    exact ⟨zs2,s2,r2⟩
  obtain ⟨xs2,sa2,ra2⟩:=mv a us xs sa ra
  obtain ⟨ys2,sb2,rb2⟩:=mv b ws ys sb rb
  obtain ⟨zs2,sd2,rd2⟩:=mv d ts zs sd rd
  refine ⟨fun u eu=>?_,fun eu=>?_⟩
  · have eu:(K1 us ws ts)[k]? = some u:=by simpa [IU.at] using eu
    unfold K1 at eu
    rw [List.getElem?_map] at eu
    obtain ⟨⟨u1,u2,u3⟩,hz,rfl⟩:=Option.map_eq_some_iff.mp eu
    obtain ⟨h1,h23⟩:=List.getElem?_zip_eq_some.mp hz
    obtain ⟨h2,h3⟩:=List.getElem?_zip_eq_some.mp h23
    obtain ⟨x,hx,rx⟩:=ra2.get h1
    obtain ⟨y,hy,ry⟩:=rb2.get h2
    obtain ⟨v,hv,rv⟩:=rd2.get h3
    refine ⟨⟨xs2,ys2,zs2,x,y,v,sa2,sb2,sd2,hx,hy,hv⟩,?_⟩
    rintro z H3 ⟨p,x',y',v',hp,rfl,rfl,k1,k2,k3⟩
    have e1:=k1 xs2 sa2
    have e2:=k2 ys2 sb2
    have e3:=k3 zs2 sd2
    rw [hx] at e1; cases e1
    rw [hy] at e2; cases e2
    rw [hv] at e3; cases e3
    exact A2.tup (.cons rx (.cons ry (.cons rv .nil))) hp
  · have eu:(K1 us ws ts)[k]? = none:=by simpa [IU.at] using eu
    have:=List.getElem?_eq_none_iff.mp eu
    unfold K1 at this
    rw [List.length_map,List.length_zip,List.length_zip] at this
    refine ⟨xs2,sa2,?_⟩
    rw [← ra2.length]
    omega
def Wd (g:FA):FI:=fun δ L=>(g δ L).bind fun p=>match p.1 with
  | [.tup us,.tup ws,.tup ts]=>if us.length = ws.length ∧ us.length = ts.length then some (.seq (K1 us ws ts),p.2) else none
  | _=>none
theorem Y4 {a b d:Expr} {g:FA} {p pos:Pos} (hg:Gl X "zip") (hm:X.mg "zip" = none) (ha:PAF X [a,b,d] g) (hs:starEach [a,b,d] X.env = (false,eval a X.env) :: starEach [b,d] X.env:=by rfl) (hpl:(backTo pos (starEach [b,d] X.env)).any (·.1) = false:=by rfl):PIF X (.Tuple elts x1 tpos) (.Call (.Name "zip" p) [a,b,d] [] pos) (Wd g):=by
  refine PI.imp (Ab2 hg hm ha hs hpl) ?_
  rintro σ H R ⟨α,δ,L,A,S,i,L3,e,q⟩
  obtain ⟨⟨us,L1⟩,e1,ee⟩:=Option.bind_eq_some_iff.mp e
  simp only at ee
  split at ee
  · split at ee
    · rename_i hl
      cases ee
      refine ⟨α,δ,L,A,S,_,_,e1,fun xs H1 α1 g1 A1 r1=>?_⟩
      obtain ⟨x,y,z,rfl,rx,ry,rz⟩:=r1.three
      unfold RepU at rx ry rz
      obtain ⟨a',ys,rfl,sq,r2⟩:=rx
      obtain ⟨b',ys',rfl,sq',r2'⟩:=ry
      obtain ⟨d',ys'',rfl,sq'',r2''⟩:=rz
      exact ⟨a',b',d',ys,ys',ys'',rfl,sq,sq',sq'',q _ H1 α1 g1 A1 (Ye hl sq sq' sq'' r2 r2' r2'')⟩
    · cases ee
  · cases ee
end
end MR
set_option Elab.async false
set_option linter.all false
set_option maxRecDepth 100000
set_option maxHeartbeats 4000000
namespace UL
open PySem PySem.Spec PyProof.Rows
section
variable {prog:Program} {w:World} {A:Around} {E:Value → Shared → Prop} {s:Shared}
theorem P5 {it l:Addr} {items:Array Value} (hne:l ≠ it):∀ (n i:Nat) (s:Shared) (Q:List Value → Shared → Prop),s.heap.IsListIter it l i → s.heap.IsList l items → i + n ≤ items.size →
    (∀ h',h'.IsListIter it l (i + n) → Heap.SameBut it s.heap h' → Q ((items.toList.drop i).take n) { s with heap:=h' }) → wpAny (model prog w) A (draw (.ref it) n) Q E s
  | 0,i,s,Q,hit,_,_,hQ=>by
    show wpAny _ _ (pure []) Q E s
    exact wpAny_pure (by simpa using hQ s.heap hit (Heap.SameBut.refl ..))
  | n + 1,i,s,Q,hit,ht,hle,hQ=>by
    have hlt:i < items.size:=by omega
    show wpAny _ _ (pyNext (.ref it) >>= _) Q E s
    refine wpAny_bind (wpAny_pyNext_list_item hit ht (x:=items[i]) (by simp [hlt]) fun h₁ hit₁ hs₁=>?_)
    refine wpAny_bind (wpAny_holding (P5 hne n (i + 1) _ _ hit₁ (ht.extBut hs₁.extBut hne) (by omega) fun h₂ hit₂ hs₂=>wpAny_pure ?_))
    have hd:items.toList.drop i = items[i] :: items.toList.drop (i + 1):=by simp [List.drop_eq_getElem_cons,hlt]
    have:=hQ h₂ (by rw [show i + (n + 1) = i + 1 + n by omega]; exact hit₂) (hs₁.trans hs₂)
    rw [hd,List.take_succ_cons] at this
    exact this
theorem Lq {t:Addr} {items:Array Value} {Q:List Value → Shared → Prop} (hh:A.handled = none) (ht:s.heap.IsList t items)
    (hQ:∀ h',Heap.ExtBut s.heap.objs.size s.heap h' → Q items.toList { s with heap:=h' }):wpAny (model prog w) A (unpackItems (.ref t) items.size none) Q E s:=by
  have hlt:t ≠ s.heap.objs.size:=by obtain ⟨o,ho,_⟩:=ht; exact Nat.ne_of_lt (Heap.lt_size ho)
  have ty:s.TypeIs (.ref t) "list" := by obtain ⟨o,ho,hc,_⟩:=ht; exact ⟨o,ho,hc⟩
  unfold unpackItems
  refine wpAny_bind ?_
  · unfold notIterableAtAll
    refine wpAny_bind (wpAny_specialOf ty F.slot_list_iter.lookup ?_)
    refine wpAny_pure ?_
    simp only [Bool.false_eq_true,if_false]
    refine wpAny_bind (wpAny_holding (wpAny_pyIter_list ht ?_))
    refine wpAny_bind (wpAny_holding (P5 hlt items.size 0 _ _ ⟨_,Heap.get?_push_size _ rfl,rfl,rfl⟩ (ht.push _) (by omega) fun h₁ hit₁ hs₁=>?_))
    have hall:List.take items.size (List.drop 0 items.toList) = items.toList:=by
      rw [List.drop_zero]; exact List.take_of_length_le (by simp)
    rw [hall]
    rw [if_neg (by simp)]
    have ht₁:h₁.IsList t items:=(ht.push _).extBut hs₁.extBut hlt
    refine wpAny_bind (wpAny_holding (wpAny_pyNext_list_end hh hit₁ ht₁ (by simp) fun h₂ he₂=>?_))
    simp only [Option.isSome_none,Bool.false_eq_true,if_false]
    refine wpAny_pure (hQ h₂ fun b o hb e=>he₂ b o hb (hs₁.extBut b o hb (Heap.get?_push_of_some _ e)))
theorem assign_Tuple_list {env:Env} {elts:List Expr} {x1} {pos:Pos} {t:Addr} {items:Array Value} {Q:Unit → Shared → Prop} (hh:A.handled = none) (ht:s.heap.IsList t items)
    (hn:(assignEach elts env).length = items.size) (hstar:(assignEach elts env).findIdx? (·.1) = none)
    (h:∀ h',Heap.ExtBut s.heap.objs.size s.heap h' → wpAny (model prog w) A (assignInOrder ((assignEach elts env).map (·.2)) items.toList) Q E { s with heap:=h' }) :
    wpAny (model prog w) A (assign (.Tuple elts x1 pos) env (.ref t)) Q E s:=by
  rw [assign_Tuple]
  refine wpAny_bind (wpAny_standAt ?_)
  unfold unpack
  rw [hn,hstar]
  exact wpAny_bind (wpAny_holding (Lq hh ht h))
end
end UL
namespace MR
open PySem PySem.Spec PyProof.Rows PySem.Calls L2
section
variable {X:Cx} {es:List Expr} {pos:Pos}
def Aid (K:PySem.W.Frag) (n:Nat) (t:TGs):TG:=fun v σ H Q=>∃ a xs,v = .ref a ∧ SqL K H a xs ∧ xs.length = n ∧ t xs σ H Q
theorem Adt {k:Nat} {t:TGs} {n:Nat} (hc:X.calm = true) (h:PGs X es t)
    (hn:(assignEach es X.env).length = n:=by rfl) (hst:(assignEach es X.env).findIdx? (·.1) = none:=by rfl):PG X (.Tuple es k pos) (Aid X.K n t):=by
  intro pins s σ H v u Q I r hw
  obtain ⟨a,xs,e1,hq,hl,hw⟩:=hw
  subst e1
  cases r
  obtain ⟨its,rv,ht,hz⟩:=I.list hq
  refine UL.assign_Tuple_list (I.ok.hd hc) ht.isList (by simp [hn,← hl,rv.length]) hst fun h' hx=>?_
  have I1:L2.Inv X pins σ H { s with heap:=h' }:=I.kept (t':=s.toks) fun b o e=>hx b o (Nat.ne_of_lt (Heap.lt_size e)) e
  exact h pins _ σ H xs _ Q I1 (by simpa using rv) hw
def Qd (n:Nat) (g:FGs):FG:=fun u δ L=>match u with
  | .ref m=>(Ao L m).bind fun us=>if us.length = n then g us δ L else none
  | u=>MR.gTup n g u δ L
theorem Abr {k:Nat} {g:FGs} {n:Nat} (hc:X.calm = true) (h:Aak X es g) (hn:(assignEach es X.env).length = n:=by rfl) (hst:(assignEach es X.env).findIdx? (·.1) = none:=by rfl):PGF X (.Tuple es k pos) (Qd n g):=by
  intro pins s σ H v u Q I r hw
  obtain ⟨α,δ,L,w,A,S,rw,δ',L',e,q⟩:=hw
  cases w with
  | ref m=>
    unfold Qd at e
    simp only at e
    obtain ⟨us,hus,e⟩:=Option.bind_eq_some_iff.mp e
    split at e
    · rename_i hl
      obtain ⟨a,ys,rfl,sq,r2⟩:=E9 A hus rw
      exact Adt hc h hn hst pins s σ H _ u Q I r ⟨a,ys,rfl,sq,by rw [← r2.length]; exact hl,α,δ,L,us,A,S,r2,δ',L',e,q⟩
    · cases e
  | tup us=>exact Gx (k:=k) (pos:=pos) hc h hn hst pins s σ H v u Q I r ⟨α,δ,L,.tup us,A,S,rw,δ',L',e,q⟩
  | _=>simp [Qd,MR.gTup] at e
end
end MR
set_option Elab.async false
set_option linter.all false
set_option maxRecDepth 100000
set_option maxHeartbeats 1000000
namespace MR
open PySem L2
@[simp] theorem fVar_eq (i:Nat) (δ:UE) (L:UH):Ad i δ L = (δ[i]?).join.map fun u=>(u,L):=rfl
@[simp] theorem fC_eq (u:U) (δ:UE) (L:UH):fC u δ L = some (u,L):=rfl
@[simp] theorem f2_eq (s:S2) (a b:FE) (δ:UE) (L:UH):f2 s a b δ L = (a δ L).bind fun p=>(b δ p.2).bind fun q=>s p.1 q.1 q.2:=rfl
@[simp] theorem fTest_eq (f:FE) (δ:UE) (L:UH):Bk f δ L = (f δ L).bind fun p=>match p.1 with | .bl k=>some (k,p.2) | _=>none:=rfl
@[simp] theorem Mw (f g:FT) (δ:UE) (L:UH):Om f g δ L = (f δ L).bind fun p=>if p.1 = true then g δ p.2 else some (false,p.2):=rfl
@[simp] theorem Afp (f g:FT) (δ:UE) (L:UH):fOr f g δ L = (f δ L).bind fun p=>if p.1 = true then some (true,p.2) else g δ p.2:=rfl
@[simp] theorem Aec (f:FT) (δ:UE) (L:UH):Xs f δ L = (f δ L).map fun p=>(!p.1,p.2):=rfl
@[simp] theorem Np (f g:FE) (δ:UE) (L:UH):U1 f g δ L = (f δ L).bind fun p=>match p.1 with | .bl k=>if k = true then g δ p.2 else some (.bl false,p.2) | _=>none:=rfl
@[simp] theorem Acp (f g:FE) (δ:UE) (L:UH):Afx f g δ L = (f δ L).bind fun p=>match p.1 with | .bl k=>if k = true then some (.bl true,p.2) else g δ p.2 | _=>none:=rfl
@[simp] theorem Ajc (f:FE) (δ:UE) (L:UH):Ajd f δ L = (f δ L).bind fun p=>match p.1 with | .bl k=>some (.bl (!k),p.2) | _=>none:=rfl
@[simp] theorem Akc (c:FT) (f g:FE) (δ:UE) (L:UH):fIf c f g δ L = (c δ L).bind fun p=>if p.1 = true then f δ p.2 else g δ p.2:=rfl
@[simp] theorem fNil_eq (δ:UE) (L:UH):Af δ L = some ([],L):=rfl
@[simp] theorem fCons_eq (f:FE) (g:FA) (δ:UE) (L:UH):Ac f g δ L = (f δ L).bind fun p=>(g δ p.2).map fun q=>(p.1 :: q.1,q.2):=rfl
@[simp] theorem Jf (g:FA) (δ:UE) (L:UH):Em g δ L = (g δ L).bind fun p=>if B9 p.1.length = true then some (.tup p.1,p.2) else none:=rfl
@[simp] theorem fLst_eq (g:FA) (δ:UE) (L:UH):C5 g δ L = (g δ L).bind fun p=>if B9 p.1.length = true then some (.ref p.2.length,p.2 ++ [.lst p.1]) else none:=rfl
@[simp] theorem fCall_eq (s:SC) (g:FA) (δ:UE) (L:UH):A8 s g δ L = (g δ L).bind fun p=>s p.1 p.2:=rfl
@[simp] theorem fOwn_eq (n:Nat) (F:FN) (g:FA) (δ:UE) (L:UH):Av n F g δ L = (g δ L).bind fun p=>if p.1.length = n then F p.1 p.2 else none:=rfl
@[simp] theorem fMeth_eq (T:String) (s:SM) (f:FE) (g:FA) (δ:UE) (L:UH):Fn T s f g δ L = (f δ L).bind fun p=>if tyU T p.1 p.2 = true then (g δ p.2).bind fun q=>s p.1 q.1 q.2 else none:=rfl
@[simp] theorem fPart_eq (f:FE) (δ:UE) (L:UH):B7 f δ L = (f δ L).bind fun p=>match p.1 with | .int i=>some (some i,p.2) | _=>none:=rfl
@[simp] theorem fNoPart_eq (δ:UE) (L:UH):Bl δ L = some (none,L):=rfl
@[simp] theorem fSl_eq (s:SS) (f:FE) (l h:FO) (δ:UE) (L:UH):fSl s f l h δ L = (f δ L).bind fun p=>(l δ p.2).bind fun q=>(h δ q.2).bind fun r=>s p.1 q.1 r.1 r.2:=rfl
@[simp] theorem Ajq (f:FE) (δ:UE) (L:UH):X6 f δ L = (f δ L).bind fun p=>match p.1 with | .int i=>some (.int (-i),p.2) | _=>none:=rfl
@[simp] theorem Acx (f:FE) (δ:UE) (L:UH):O0 f δ L = (f δ L).bind fun p=>(Op p.1 p.2).map fun k=>(k,p.2):=rfl
@[simp] theorem Ajn (c:String) (f:FE) (δ:UE) (L:UH):Akd c f δ L = (f δ L).bind fun p=>(Y3 p.1 p.2).map fun t=>(.bl (isT t c),p.2):=rfl
@[simp] theorem N4 (δ:UE) (L:UH):Du δ L = some (.nx δ,L):=rfl
@[simp] theorem fSeq_eq (f g:FS) (δ:UE) (L:UH):Ay f g δ L = (f δ L).bind fun p=>match p.1 with | .nx δ'=>g δ' p.2 | fl=>some (fl,p.2):=rfl
@[simp] theorem fRet_eq (f:FE) (δ:UE) (L:UH):Bz f δ L = (f δ L).map fun p=>(.rt p.1,p.2):=rfl
@[simp] theorem Oh (f:FE) (δ:UE) (L:UH):Jm f δ L = (f δ L).map fun p=>(.nx δ,p.2):=rfl
@[simp] theorem Aji (δ:UE) (L:UH):Ahv δ L = some (.rt .non,L):=rfl
@[simp] theorem E8 (c:FT) (f g:FS) (δ:UE) (L:UH):Fw c f g δ L = (c δ L).bind fun p=>if p.1 = true then f δ p.2 else g δ p.2:=rfl
@[simp] theorem gN_eq (i:Nat) (u:U) (δ:UE) (L:UH):gN i u δ L = some (δ.set i (some u),L):=rfl
@[simp] theorem Ad5 (δ:UE) (L:UH):MR.gNil [] δ L = some (δ,L):=rfl
@[simp] theorem Aaa (f:FG) (g:FGs) (u:U) (r:List U) (δ:UE) (L:UH):MR.gCons f g (u :: r) δ L = (f u δ L).bind fun p=>g r p.1 p.2:=rfl
@[simp] theorem Ajm (n:Nat) (g:FGs) (us:List U) (δ:UE) (L:UH):MR.gTup n g (.tup us) δ L = if us.length = n then g us δ L else none:=rfl
@[simp] theorem gSub_eq (a b:FE) (v:U) (δ:UE) (L:UH):MR.gSub a b v δ L = (a δ L).bind fun p=>(b δ p.2).bind fun q=>match p.1,q.1 with
  | .ref n,.int k=>(Fc q.2 n).bind fun l=>(ixN l.length k).map fun j=>(δ,q.2.set n (.lst (l.set j v)))
  | _,_=>none:=rfl
@[simp] theorem fAsg_eq (f:FE) (g:FG) (δ:UE) (L:UH):Aw f g δ L = (f δ L).bind fun p=>(g p.1 δ p.2).map fun q=>(.nx q.1,q.2):=rfl
@[simp] theorem V7 (fi:FI) (g:FG) (b:FS) (δ:UE) (L:UH):Kq fi g b δ L = (fi δ L).bind fun p=>K5 p.1 g b (p.1.size p.2 + 1) 0 δ p.2:=rfl
@[simp] theorem Hi (f:FE) (δ:UE) (L:UH):Bm f δ L = (f δ L).bind fun p=>(Sm p.1 p.2).map fun i=>(i,p.2):=rfl
@[simp] theorem Abd (g:FA) (δ:UE) (L:UH):C6 g δ L = (g δ L).bind fun p=>match p.1 with
  | [.int j]=>if -(2 ^ 62) ≤ j ∧ j < 2 ^ 62 then some (.seq (Cc 0 j.toNat),p.2) else none
  | _=>none:=rfl
@[simp] theorem semAdd_int (i j:Int) (L:UH):At (.int i) (.int j) L = some (.int (i + j),L):=rfl
@[simp] theorem Ae2 (i j:Int) (L:UH):Gn (.int i) (.int j) L = some (.int (i - j),L):=rfl
@[simp] theorem Af7 (i j:Int) (L:UH):Bj (.int i) (.int j) L = if Gs i j = true then some (.int (i * j),L) else none:=rfl
@[simp] theorem Agq (i j:Int) (L:UH):Gi (.int i) (.int j) L = if P9 i j = true then some (.int (i / j),L) else none:=rfl
@[simp] theorem Afo (i j:Int) (L:UH):C2 (.int i) (.int j) L = if decide (0 < j) = true then some (.int (i % j),L) else none:=rfl
@[simp] theorem Aez (i j:Int) (L:UH):Fm (.int i) (.int j) L = if Pn i j = true then some (.int (i ^ j.toNat),L) else none:=rfl
@[simp] theorem Aho (i j:Int) (L:UH):Abk (.int i) (.int j) L = some (.bl (decide (i ≤ j)),L):=rfl
@[simp] theorem Ahp (i j:Int) (L:UH):Abg (.int i) (.int j) L = some (.bl (decide (i < j)),L):=rfl
@[simp] theorem W1 (i j:Int) (L:UH):Sf (.int i) (.int j) L = some (.bl (decide (j < i)),L):=rfl
@[simp] theorem Xk (i j:Int) (L:UH):Kl (.int i) (.int j) L = some (.bl (decide (j ≤ i)),L):=rfl
@[simp] theorem semEq_int (i j:Int) (L:UH):Co (.int i) (.int j) L = some (.bl (i == j),L):=rfl
@[simp] theorem Ps (i j:Int) (L:UH):Bx (.int i) (.int j) L = some (.bl (!(i == j)),L):=rfl
@[simp] theorem Aim (i j:Bool) (L:UH):Co (.bl i) (.bl j) L = some (.bl (i == j),L):=rfl
@[simp] theorem Aa7 (i j:Bool) (L:UH):Bx (.bl i) (.bl j) L = some (.bl (!(i == j)),L):=rfl
@[simp] theorem Ah8 (i j:Bool) (L:UH):Aix false (.bl i) (.bl j) L = some (.bl (i == j),L):=rfl
@[simp] theorem P0 (l:List U) (i:Int) (L:UH):Ar (.tup l) (.int i) L = (L2.atI l i).map fun z=>(z,L):=rfl
@[simp] theorem semIx_ref (n:Nat) (i:Int) (L:UH):Ar (.ref n) (.int i) L = (Ao L n).bind fun l=>(L2.atI l i).map fun z=>(z,L):=rfl
@[simp] theorem Ajo (b:Bool) (L:UH):Op (.bl b) L = some b:=rfl
theorem Aq {L:UH} {n:Nat} {us:List U} (h:L[n]? = some (.lst us)):Ao L n = some us:=by unfold Ao; rw [h]
theorem Dd {L:UH} {n:Nat} {us:List U} (h:L[n]? = some (.lst us)):Fc L n = some us:=by unfold Fc; rw [h]
theorem small_of {n:Nat} (h:n ≤ 16777216):B9 n = true:=by unfold B9 sizeLine; exact decide_eq_true (by omega)
theorem Lj {β:Type} {l:List β} {i:Int} (h0:0 ≤ i) (h:i < l.length):L2.atI l i = l[i.toNat]?:=by
  unfold L2.atI ixN
  rw [if_pos h0,if_pos h]; rfl
theorem Kk {i j:Int} (h1:-1000000000000000000 ≤ i) (h2:i ≤ 1000000000000000000):Gs i j = true:=by
  unfold Gs; simp only [Bool.or_eq_true,Bool.and_eq_true,decide_eq_true_eq]; left; constructor <;> omega
theorem Ku {i j:Int} (h1:-1000000000000000000 ≤ j) (h2:j ≤ 1000000000000000000):Gs i j = true:=by
  unfold Gs; simp only [Bool.or_eq_true,Bool.and_eq_true,decide_eq_true_eq]; right; constructor <;> omega
theorem Nr {i j:Int} (h1:0 < j) (h2:j < 1152921504606846976):P9 i j = true:=by
  unfold P9; simp only [Bool.and_eq_true,decide_eq_true_eq]; exact ⟨h1,h2⟩
end MR
set_option Elab.async false
set_option linter.all false
set_option maxRecDepth 100000
set_option maxHeartbeats 1000000
namespace MR
open PySem L2
def Uc (g:FG) (body:FS) (u:U) (δ:UE) (L:UH) (R:UE → UH → Prop):Prop:=∃ δ1 L1,g u δ L = some (δ1,L1) ∧ ∃ δ2 L2,(body δ1 L1 = some (.nx δ2,L2) ∨ body δ1 L1 = some (.ct δ2,L2)) ∧ R δ2 L2
theorem Oq {it:IU} {g:FG} {body:FS} {us:List U} (P:Nat → UE → UH → Prop) (hat:∀ k δ L,k ≤ us.length → P k δ L → it.at k L = some us[k]?)
    (step:∀ k u δ L,us[k]? = some u → P k δ L → Uc g body u δ L (P (k + 1))) :
    ∀ (m k:Nat) (δ:UE) (L:UH),us.length < m + k → k ≤ us.length → P k δ L → ∃ δ' L',K5 it g body m k δ L = some (.nx δ',L') ∧ P us.length δ' L'
  | 0,k,δ,L,h1,h2,_=>by omega
  | m + 1,k,δ,L,h1,h2,hP=>by
    have hk:=hat k δ L h2 hP
    unfold K5
    rw [hk]
    cases hu:us[k]? with
    | none=>
      have:k = us.length:=by have:=List.getElem?_eq_none_iff.mp hu; omega
      subst this
      exact ⟨δ,L,rfl,hP⟩
    | some u=>
      have hlt:k < us.length:=(List.getElem?_eq_some_iff.mp hu).1
      obtain ⟨δ1,L1,e1,δ2,L2,e2,hP2⟩:=step k u δ L hu hP
      obtain ⟨δ',L',e3,hP3⟩:=Oq P hat step m (k + 1) δ2 L2 (by omega) (by omega) hP2
      refine ⟨δ',L',?_,hP3⟩
      rcases e2 with e2 | e2
      · simp only [e1,Option.bind_some,e2,e3]
      · simp only [e1,Option.bind_some,e2,e3]
theorem Ks {fi:FI} {g:FG} {body:FS} {us:List U} {δ:UE} {L L0:UH} (P:Nat → UE → UH → Prop) (hi:fi δ L = some (.seq us,L0)) (h0:P 0 δ L0) (step:∀ k u δ L,us[k]? = some u → P k δ L → Uc g body u δ L (P (k + 1))) :
    ∃ δ' L',Kq fi g body δ L = some (.nx δ',L') ∧ P us.length δ' L':=by
  obtain ⟨δ',L',e,h⟩:=Oq (it:=.seq us) (g:=g) (body:=body) (us:=us) P (fun _ _ _ _ _=>rfl) step (us.length + 1) 0 δ L0 (by omega) (by omega) h0
  exact ⟨δ',L',by rw [V7,hi]; exact e,h⟩
theorem V8 {fi:FI} {g:FG} {body:FS} {us:List U} {n:Nat} {δ:UE} {L L0:UH} (P:Nat → UE → UH → Prop) (hi:fi δ L = some (.ref n,L0)) (h0:P 0 δ L0) (hl:∀ k δ L,P k δ L → Ao L n = some us) (step:∀ k u δ L,us[k]? = some u → P k δ L → Uc g body u δ L (P (k + 1))) :
    ∃ δ' L',Kq fi g body δ L = some (.nx δ',L') ∧ P us.length δ' L':=by
  have hat:∀ k δ L,k ≤ us.length → P k δ L → (IU.ref n).at k L = some us[k]?:=fun k δ L _ hp=>by
    have:=hl k δ L hp
    unfold Ao at this
    unfold IU.at
    simp only
    split at this
    · rename_i e; cases this; first | rw [e] | rfl
    · rename_i e; cases this; first | rw [e] | rfl
    · cases this
  have hsz:(IU.ref n).size L0 = us.length:=by
    have:=hl 0 δ L0 h0
    unfold Ao at this
    unfold IU.size
    simp only
    split at this
    · rename_i e; cases this; first | rw [e] | rfl
    · rename_i e; cases this; first | rw [e] | rfl
    · cases this
  obtain ⟨δ',L',e,h⟩:=Oq (it:=.ref n) (g:=g) (body:=body) (us:=us) P hat step (us.length + 1) 0 δ L0 (by omega) (by omega) h0
  exact ⟨δ',L',by rw [V7,hi]; simp only [Option.bind_some,hsz]; exact e,h⟩
theorem Jb {L:UH} {n:Nat} {us:List U} (h:Ao L n = some us):Sm (.ref n) L = some (.ref n):=by
  unfold Ao at h
  unfold Sm
  simp only
  split at h
  · rename_i e; first | rw [e] | rfl
  · rename_i e; first | rw [e] | rfl
  · cases h
theorem Go {lo:Int} {n k:Nat} {u:U} (h:(Cc lo n)[k]? = some u):k < n ∧ u = .int (lo + k):=by
  unfold Cc at h
  rw [List.getElem?_map] at h
  by_cases hk:k < n
  · rw [List.getElem?_range hk] at h
    simp at h
    exact ⟨hk,h.symm⟩
  · rw [List.getElem?_eq_none (by simpa using hk)] at h
    simp at h
theorem Hm {lo:Int} {n:Nat}:(Cc lo n).length = n:=by simp [Cc]
end MR
set_option Elab.async false
set_option linter.all false
set_option maxRecDepth 100000
set_option maxHeartbeats 1000000
namespace MR
open PySem L2
@[simp] theorem Ah2 (g:FA) (δ:UE) (L:UH):Ahu g δ L = (g δ L).bind fun p=>match p.1 with
  | [.ref n]=>(Ao p.2 n).map fun _=>(.enm n,p.2)
  | _=>none:=rfl
@[simp] theorem Ajp (g:FA) (δ:UE) (L:UH):Aka g δ L = (g δ L).bind fun p=>match p.1 with
  | [.ref n,.ref m]=>(Ao p.2 n).bind fun _=>(Ao p.2 m).map fun _=>(.zip2 n m,p.2)
  | _=>none:=rfl
@[simp] theorem Adu (f:FE) (δ:UE) (L:UH):Abh f δ L = (f δ L).bind fun p=>match p.1 with | .ref n=>(Ao p.2 n).map fun l=>(.ref p.2.length,p.2 ++ [.lst l.reverse]) | .tup l=>some (.tup l.reverse,p.2) | _=>none:=rfl
@[simp] theorem Ah5 (g:FA) (δ:UE) (L:UH):Aew g δ L = (g δ L).bind fun p=>match p.1 with
  | [.int i,.int j]=>if (-(2 ^ 62) ≤ i ∧ i < 2 ^ 62) ∧ (-(2 ^ 62) ≤ j ∧ j < 2 ^ 62) then some (.seq (Cc i (j - i).toNat),p.2) else none
  | _=>none:=by first | rfl | (unfold Aew; rfl)
theorem Ol {it:IU} {g:FG} {tt:Option FT} {fe:FE} {us:List U} (P:Nat → List U → UE → UH → Prop) (hat:∀ k acc δ L,k ≤ us.length → P k acc δ L → it.at k L = some us[k]?)
    (step:∀ k u acc δ L,us[k]? = some u → P k acc δ L → ∃ δ1 L1,g u δ L = some (δ1,L1) ∧ ∃ b L2,Oo tt δ1 L1 = some (b,L2) ∧ (b = true → ∃ r L3,fe δ1 L2 = some (r,L3) ∧ acc.length < 16777216 ∧ P (k + 1) (acc ++ [r]) δ1 L3) ∧ (b = false → P (k + 1) acc δ1 L2)) :
    ∀ (m k:Nat) (acc:List U) (δ:UE) (L:UH),us.length < m + k → k ≤ us.length → P k acc δ L → ∃ ys δ' L',Kr it g tt fe m k acc δ L = some (ys,L') ∧ P us.length ys δ' L'
  | 0,k,acc,δ,L,h1,h2,_=>by omega
  | m + 1,k,acc,δ,L,h1,h2,hP=>by
    have hk:=hat k acc δ L h2 hP
    unfold Kr
    rw [hk]
    cases hu:us[k]? with
    | none=>
      have:k = us.length:=by have:=List.getElem?_eq_none_iff.mp hu; omega
      subst this
      exact ⟨acc,δ,L,rfl,hP⟩
    | some u=>
      have hlt:k < us.length:=(List.getElem?_eq_some_iff.mp hu).1
      obtain ⟨δ1,L1,e1,b,L2,e2,h3,h4⟩:=step k u acc δ L hu hP
      cases b with
      | true=>
        obtain ⟨r,L3,e3,hl,hP2⟩:=h3 rfl
        obtain ⟨ys,δ',L',e4,hP3⟩:=Ol P hat step m (k + 1) (acc ++ [r]) δ1 L3 (by omega) (by omega) hP2
        refine ⟨ys,δ',L',?_,hP3⟩
        have hz:decide (acc.length < sizeLine) = true:=decide_eq_true (by unfold sizeLine; omega)
        simp only [e1,Option.bind_some,e2,e3,if_true,hz,e4]
      | false=>
        obtain ⟨ys,δ',L',e4,hP3⟩:=Ol P hat step m (k + 1) acc δ1 L2 (by omega) (by omega) (h4 rfl)
        refine ⟨ys,δ',L',?_,hP3⟩
        simp only [e1,Option.bind_some,e2,e4,Bool.false_eq_true,if_false]
theorem Vv {ix:List (Option Nat)} {fi:FI} {it:IU} {g:FG} {tt:Option FT} {fe:FE} {us:List U} {δ:UE} {L L0:UH} (P:Nat → List U → UE → UH → Prop) (hi:fi δ L = some (it,L0)) (hsz:us.length ≤ it.size L0) (h0:P 0 [] (Ht ix δ) L0)
    (hat:∀ k acc δ L,k ≤ us.length → P k acc δ L → it.at k L = some us[k]?)
    (step:∀ k u acc δ L,us[k]? = some u → P k acc δ L → ∃ δ1 L1,g u δ L = some (δ1,L1) ∧ ∃ b L2,Oo tt δ1 L1 = some (b,L2) ∧ (b = true → ∃ r L3,fe δ1 L2 = some (r,L3) ∧ acc.length < 16777216 ∧ P (k + 1) (acc ++ [r]) δ1 L3) ∧ (b = false → P (k + 1) acc δ1 L2)) :
    ∃ ys δ' L',Bb ix fi g tt fe δ L = some (.ref L'.length,L' ++ [.lst ys]) ∧ P us.length ys δ' L':=by
  obtain ⟨ys,δ',L',e,h⟩:=Ol P hat step (it.size L0 + 1) 0 [] (Ht ix δ) L0 (by omega) (by omega) h0
  refine ⟨ys,δ',L',?_,h⟩
  unfold Bb
  simp only [hi,Option.bind_some,e,Option.map_some]
theorem Yv {n k:Nat} {L:UH} {us:List U} (h:Ao L n = some us):(IU.ref n).at k L = some us[k]?:=by
  unfold Ao at h
  unfold IU.at
  simp only
  split at h
  · rename_i e; cases h; first | rw [e] | rfl
  · rename_i e; cases h; first | rw [e] | rfl
  · cases h
theorem Ru {n:Nat} {L:UH} {us:List U} (h:Ao L n = some us):(IU.ref n).size L = us.length:=by
  unfold Ao at h
  unfold IU.size
  simp only
  split at h
  · rename_i e; cases h; first | rw [e] | rfl
  · rename_i e; cases h; first | rw [e] | rfl
  · cases h
theorem Ez {β:Type} {ix:List (Option Nat)} {fi:FI} {it:IU} {g:FG} {tt:Option FT} {fe:FE} {δ:UE} {L L0:UH} (as:List β) (rep:β → U) (f:β → Bool) (e:β → U) (E:UE → Prop) (hi:fi δ L = some (it,L0)) (hsz:as.length ≤ it.size L0) (hl:as.length < 16777216) (h0:E (Ht ix δ))
    (hat:∀ k x,it.at k (L0 ++ x) = some (as.map rep)[k]?)
    (step:∀ (a:β) δ x,a ∈ as → E δ → ∃ δ1,g (rep a) δ (L0 ++ x) = some (δ1,L0 ++ x) ∧ E δ1 ∧ ∃ y,Oo tt δ1 (L0 ++ x) = some (f a,L0 ++ x ++ y) ∧ (f a = true → ∃ z,fe δ1 (L0 ++ x ++ y) = some (e a,L0 ++ x ++ y ++ z))) :
    ∃ x,Bb ix fi g tt fe δ L = some (.ref (L0 ++ x).length,L0 ++ x ++ [.lst ((as.filter f).map e)]):=by
  obtain ⟨ys,δ',L',e1,⟨h1,h2,x,rfl⟩,h3⟩:=Vv (us:=as.map rep) (ix:=ix) (tt:=tt) (g:=g) (fe:=fe) (δ:=δ) (fun k acc δ L=>(acc = ((as.take k).filter f).map e ∧ E δ ∧ ∃ x,L = L0 ++ x) ∧ acc.length ≤ k) hi (by simpa using hsz) ⟨⟨rfl,h0,[],by simp⟩,by simp⟩
    (fun k acc δ L _ ⟨⟨_,_,x,hx⟩,_⟩=>by rw [hx]; exact hat k x)
    (fun k u acc δ L hu ⟨⟨ha,hE,x,hx⟩,hlen⟩=>by
      subst hx
      rw [List.getElem?_map] at hu
      obtain ⟨a,hk,rfl⟩:=Option.map_eq_some_iff.mp hu
      have hk':=(List.getElem?_eq_some_iff.mp hk).1
      obtain ⟨δ1,g1,E1,y,t1,r1⟩:=step a δ x (List.mem_of_getElem? hk) hE
      have ht:as.take (k + 1) = as.take k ++ [a]:=by
        rw [List.take_add_one,hk]; rfl
      refine ⟨δ1,_,g1,f a,_,t1,fun hf=>?_,fun hf=>?_⟩
      · obtain ⟨z,q⟩:=r1 hf
        refine ⟨_,_,q,by omega,⟨?_,E1,x ++ y ++ z,by simp⟩,by simp; omega⟩
        rw [ha,ht]; simp [hf]
      · refine ⟨⟨?_,E1,x ++ y,by simp⟩,by omega⟩
        rw [ha,ht]; simp [hf])
  refine ⟨x,?_⟩
  rw [e1,h1]
  simp
theorem Jg {L x:UH} {n:Nat} {us:List U} (h:Ao L n = some us):Ao (L ++ x) n = some us:=by
  unfold Ao at h ⊢
  cases hn:L[n]? with
  | none=>rw [hn] at h; cases h
  | some o=>rw [List.getElem?_append_left (List.getElem?_eq_some_iff.mp hn).1,hn]; rw [hn] at h; exact h
end MR
set_option Elab.async false
set_option linter.all false
set_option maxRecDepth 100000
set_option maxHeartbeats 1000000
namespace MR
open PySem L2
def Pl:Nat → U → Prop
  | _,.non=>True
  | _,.int _=>True
  | _,.str x=>PyData.strOk x = true
  | n + 1,.tup l=>∀ u ∈ l,Pl n u
  | _,_=>False
mutual
def pd:U → PyData
  | .non=>.none
  | .bl b=>.bool b
  | .int i=>.int i
  | .str x=>.str x
  | .tup l=>.tuple (pds l)
  | .ref _=>.none
def pds:List U → List PyData
  | []=>[]
  | u :: r=>pd u :: pds r
end
theorem E6 {n:Nat} {l:List U}:Pl (n + 1) (.tup l) ↔ ∀ u ∈ l,Pl n u:=by rw [Pl]
theorem My {L:UH} {n m:Nat} (ih:∀ u,Pl n u → toP L m u = some (pd u)):∀ l:List U,(∀ u ∈ l,Pl n u) → mapO (toP L m) l = some (pds l)
  | [],_=>rfl
  | u :: r,h=>by
    simp only [mapO,ih u (h u (List.mem_cons_self ..)),My ih r (fun x hx=>h x (List.mem_cons_of_mem _ hx)),Option.bind_some,Option.map_some,pds]
theorem Oc (L:UH):∀ (n m:Nat) (u:U),n < m → Pl n u → toP L m u = some (pd u)
  | n,0,u,h,_=>by omega
  | n,m + 1,.non,_,_=>rfl
  | n,m + 1,.int _,_,_=>rfl
  | n,m + 1,.str _,_,_=>rfl
  | n,m + 1,.bl _,_,h=>by cases n <;> exact absurd h (by simp [Pl])
  | n,m + 1,.ref _,_,h=>by cases n <;> exact absurd h (by simp [Pl])
  | 0,m + 1,.tup l,_,h=>absurd h (by simp [Pl])
  | n + 1,m + 1,.tup l,hm,h=>by
    have:=My (L:=L) (n:=n) (m:=m) (fun u hu=>Oc L n m u (by omega) hu) l (E6.mp h)
    show (mapO (toP L m) l).map PyData.tuple = _
    rw [this]
    rfl
theorem Mi {n:Nat} (ih:∀ u,Pl n u → PyData.canLay0 (pd u) = true ∧ PyData.depth (pd u) ≤ n):∀ l:List U,(∀ u ∈ l,Pl n u) → PyData.canLayAll0 (pds l) = true ∧ PyData.depthAll (pds l) ≤ n
  | [],_=>⟨rfl,Nat.zero_le _⟩
  | u :: r,h=>by
    obtain ⟨a1,a2⟩:=ih u (h u (List.mem_cons_self ..))
    obtain ⟨b1,b2⟩:=Mi ih r (fun x hx=>h x (List.mem_cons_of_mem _ hx))
    refine ⟨by simp [pds,PyData.canLayAll0,a1,b1],?_⟩
    simp only [pds,PyData.depthAll]
    omega
theorem M9:∀ (n:Nat) (u:U),Pl n u → PyData.canLay0 (pd u) = true ∧ PyData.depth (pd u) ≤ n
  | n,.non,_=>by simp [pd,PyData.canLay0,PyData.depth]
  | n,.int _,_=>by simp [pd,PyData.canLay0,PyData.depth]
  | n,.str x,h=>by
    have h':PyData.strOk x = true:=by cases n <;> simpa [Pl] using h
    simp [pd,PyData.canLay0,PyData.depth,h']
  | n,.bl _,h=>by cases n <;> exact absurd h (by simp [Pl])
  | n,.ref _,h=>by cases n <;> exact absurd h (by simp [Pl])
  | 0,.tup l,h=>absurd h (by simp [Pl])
  | n + 1,.tup l,h=>by
    obtain ⟨a,b⟩:=Mi (fun u hu=>M9 n u hu) l (E6.mp h)
    simp only [pd,PyData.canLay0,PyData.depth]
    exact ⟨a,by omega⟩
theorem Jx {n:Nat} (ih:∀ u w,Pl n u → Pl n w → (PyData.eqv (pd u) (pd w) = true ↔ u = w)):∀ l m:List U,(∀ u ∈ l,Pl n u) → (∀ u ∈ m,Pl n u) → (PyData.eqvAll (pds l) (pds m) = true ↔ l = m)
  | [],[],_,_=>by simp [pds,PyData.eqvAll]
  | [],_ :: _,_,_=>by simp [pds,PyData.eqvAll]
  | _ :: _,[],_,_=>by simp [pds,PyData.eqvAll]
  | u :: l,w :: m,h1,h2=>by
    simp only [pds,PyData.eqvAll,Bool.and_eq_true,ih u w (h1 u (List.mem_cons_self ..)) (h2 w (List.mem_cons_self ..)),Jx ih l m (fun x hx=>h1 x (List.mem_cons_of_mem _ hx)) (fun x hx=>h2 x (List.mem_cons_of_mem _ hx)),List.cons.injEq]
theorem Qp:∀ (n:Nat) (u w:U),Pl n u → Pl n w → (PyData.eqv (pd u) (pd w) = true ↔ u = w)
  | n,.bl _,_,h,_=>by cases n <;> exact absurd h (by simp [Pl])
  | n,.ref _,_,h,_=>by cases n <;> exact absurd h (by simp [Pl])
  | n,_,.bl _,_,h=>by cases n <;> exact absurd h (by simp [Pl])
  | n,_,.ref _,_,h=>by cases n <;> exact absurd h (by simp [Pl])
  | 0,.tup _,_,h,_=>absurd h (by simp [Pl])
  | 0,_,.tup _,_,h=>absurd h (by simp [Pl])
  | n + 1,.tup l,.tup m,h1,h2=>by
    simp only [pd,PyData.eqv,U.tup.injEq]
    exact Jx (fun u w=>Qp n u w) l m (E6.mp h1) (E6.mp h2)
  | n,.non,.non,_,_=>by simp [pd,PyData.eqv]
  | n,.non,.int _,_,_=>by simp [pd,PyData.eqv]
  | n,.non,.str _,_,_=>by simp [pd,PyData.eqv]
  | n + 1,.non,.tup _,_,_=>by simp [pd,PyData.eqv]
  | n,.int _,.non,_,_=>by simp [pd,PyData.eqv]
  | n,.int _,.int _,_,_=>by simp [pd,PyData.eqv]
  | n,.int _,.str _,_,_=>by simp [pd,PyData.eqv]
  | n + 1,.int _,.tup _,_,_=>by simp [pd,PyData.eqv]
  | n,.str _,.non,_,_=>by simp [pd,PyData.eqv]
  | n,.str _,.int _,_,_=>by simp [pd,PyData.eqv]
  | n,.str _,.str _,_,_=>by simp [pd,PyData.eqv]
  | n + 1,.str _,.tup _,_,_=>by simp [pd,PyData.eqv]
  | n + 1,.tup _,.non,_,_=>by simp [pd,PyData.eqv]
  | n + 1,.tup _,.int _,_,_=>by simp [pd,PyData.eqv]
  | n + 1,.tup _,.str _,_,_=>by simp [pd,PyData.eqv]
def eqB (u w:U):Bool:=PyData.eqv (pd u) (pd w)
theorem Qs {u w:U} (h1:Pl 6 u) (h2:Pl 6 w):eqB u w = true ↔ u = w:=Qp 6 u w h1 h2
theorem R9 {u:U} (h1:Pl 6 u):eqB u u = true:=(Qs h1 h1).mpr rfl
theorem Y9 {u w:U} (L:UH) (h1:Pl 6 u) (h2:Pl 6 w):eqP u w L = some (eqB u w):=by
  obtain ⟨a1,a2⟩:=M9 6 u h1
  obtain ⟨b1,b2⟩:=M9 6 w h2
  have s1:SeqAt.shaped (pd u) = true:=by unfold SeqAt.shaped; rw [a1]; simp; omega
  have s2:SeqAt.shaped (pd w) = true:=by unfold SeqAt.shaped; rw [b1]; simp; omega
  unfold eqP
  simp only [Oc L 6 8 u (by decide) h1,Oc L 6 8 w (by decide) h2,Option.bind_some,s1,s2,and_self,if_true,eqB]
theorem Rz {u w:U} (L:UH) (h1:Pl 6 u) (h2:Pl 6 w):Co u w L = some (.bl (eqB u w),L):=by unfold Co; rw [Y9 L h1 h2]; rfl
theorem Ni {u w:U} (L:UH) (h1:Pl 6 u) (h2:Pl 6 w):Bx u w L = some (.bl (!eqB u w),L):=by unfold Bx; rw [Y9 L h1 h2]; rfl
def X4 (us ws:List U):Bool:=PyData.eqvAll (pds us) (pds ws)
theorem S6 {us ws:List U} (h1:∀ u ∈ us,Pl 6 u) (h2:∀ u ∈ ws,Pl 6 u):X4 us ws = true ↔ us = ws:=Jx (fun u w=>Qp 6 u w) us ws h1 h2
theorem Ad3 {n m:Nat} {us ws:List U} {L:UH} (e1:Ao L n = some us) (e2:Ao L m = some ws) (h1:∀ u ∈ us,Pl 6 u) (h2:∀ u ∈ ws,Pl 6 u):eqP (.ref n) (.ref m) L = some (X4 us ws):=by
  obtain ⟨a1,a2⟩:=Mi (M9 6) us h1
  obtain ⟨b1,b2⟩:=Mi (M9 6) ws h2
  have s1:SeqAt.shaped (.list (pds us)) = true:=by unfold SeqAt.shaped; simp [PyData.canLay0,PyData.depth,a1]; omega
  have s2:SeqAt.shaped (.list (pds ws)) = true:=by unfold SeqAt.shaped; simp [PyData.canLay0,PyData.depth,b1]; omega
  have t1:toP L 8 (.ref n) = some (.list (pds us)):=by
    show (Ao L n).bind (fun l=>(mapO (toP L 7) l).map PyData.list) = _
    rw [e1]
    simp only [Option.bind_some,My (fun u hu=>Oc L 6 7 u (by decide) hu) us h1,Option.map_some]
  have t2:toP L 8 (.ref m) = some (.list (pds ws)):=by
    show (Ao L m).bind (fun l=>(mapO (toP L 7) l).map PyData.list) = _
    rw [e2]
    simp only [Option.bind_some,My (fun u hu=>Oc L 6 7 u (by decide) hu) ws h2,Option.map_some]
  unfold eqP
  simp only [t1,t2,Option.bind_some,s1,s2,and_self,if_true,PyData.eqv,X4]
theorem P7 {n m:Nat} {us ws:List U} {L:UH} (e1:Ao L n = some us) (e2:Ao L m = some ws) (h1:∀ u ∈ us,Pl 6 u) (h2:∀ u ∈ ws,Pl 6 u):Bx (.ref n) (.ref m) L = some (.bl (!X4 us ws),L):=by unfold Bx; rw [Ad3 e1 e2 h1 h2]; rfl
theorem Pl.int (n:Nat) (i:Int):Pl n (.int i):=by cases n <;> exact trivial
theorem Adz {g:FA} {δ:UE} {L L':UH} {j:Int} (hg:g δ L = some ([.int j],L')) (h0:0 ≤ j) (h1:j < 1000000):C6 g δ L = some (.seq (Cc 0 j.toNat),L'):=by
  rw [Abd,hg]
  simp only [Option.bind_some]
  rw [if_pos ⟨by omega,by omega⟩]
theorem I0 {g:FA} {δ:UE} {L L':UH} {n:Nat} (hg:g δ L = some ([.int n],L')) (h1:n < 1000000):C6 g δ L = some (.seq (Cc 0 n),L'):=by
  have:=Adz hg (by omega) (by omega)
  rwa [Int.toNat_natCast] at this
end MR
set_option Elab.async false
set_option linter.all false
set_option maxRecDepth 100000
set_option maxHeartbeats 1000000
namespace Lw
open PySem L2 MR
end Lw
set_option Elab.async false
set_option linter.all false
set_option maxRecDepth 100000
set_option maxHeartbeats 1000000
namespace Lw
open PySem L2 MR
structure Ex (d:Nat) (L L':UH):Prop where
  le:L.length ≤ L'.length
  at_:∀ i,i < L.length → i ≠ d → L'[i]? = L[i]?
theorem Ex.refl (d:Nat) (L:UH):Ex d L L:=⟨Nat.le_refl _,fun _ _ _=>rfl⟩
theorem Ex.trans {d:Nat} {L L1 L2:UH} (a:Ex d L L1) (b:Ex d L1 L2):Ex d L L2:=
  ⟨Nat.le_trans a.le b.le,fun i h1 h2=>by rw [b.at_ i (Nat.lt_of_lt_of_le h1 a.le) h2,a.at_ i h1 h2]⟩
theorem Ex.new (d:Nat) (L:UH) (x:List HU):Ex d L (L ++ x):=⟨by simp,fun i h _=>by rw [List.getElem?_append_left h]⟩
theorem Ex.put (d:Nat) (L:UH) (o:HU):Ex d L (L.set d o):=⟨by simp,fun i _ h=>by rw [List.getElem?_set_ne (Ne.symm h)]⟩
theorem Ex.set {d:Nat} {L L':UH} (h:Ex d L L') {n:Nat} (hn:L.length ≤ n) (o:HU):Ex d L (L'.set n o):=
  ⟨by rw [List.length_set]; exact h.le,fun i h1 h2=>by rw [List.getElem?_set_ne (by omega)]; exact h.at_ i h1 h2⟩
theorem Ex.get {d:Nat} {L L':UH} {i:Nat} {o:HU} (h:Ex d L L') (e:L[i]? = some o) (hi:i ≠ d):L'[i]? = some o:=by
  rw [h.at_ i (List.getElem?_eq_some_iff.mp e).1 hi]; exact e
def Gw (L L':UH):Prop:=∃ x,L' = L ++ x
theorem Gw.refl (L:UH):Gw L L:=⟨[],by simp⟩
theorem Gw.trans {L L1 M:UH} (a:Gw L L1) (b:Gw L1 M):Gw L M:=by obtain ⟨x,rfl⟩:=a; obtain ⟨y,rfl⟩:=b; exact ⟨x ++ y,by simp⟩
theorem Gw.new (L x:UH):Gw L (L ++ x):=⟨x,rfl⟩
theorem Gw.set {L L':UH} (h:Gw L L') {n:Nat} (hn:L.length ≤ n) (o:HU):Gw L (L'.set n o):=by
  obtain ⟨x,rfl⟩:=h
  exact ⟨x.set (n - L.length) o,by rw [List.set_append_right _ _ hn]⟩
theorem Gw.le {L L':UH} (h:Gw L L'):L.length ≤ L'.length:=by obtain ⟨x,rfl⟩:=h; simp
theorem Gw.get {L L':UH} (h:Gw L L') {n:Nat} {o:HU} (e:L[n]? = some o):L'[n]? = some o:=by
  obtain ⟨x,rfl⟩:=h
  rw [List.getElem?_append_left (List.getElem?_eq_some_iff.mp e).1]; exact e
theorem Gw.seq {L L':UH} (h:Gw L L') {n:Nat} {us:List U} (e:Ao L n = some us):Ao L' n = some us:=by
  obtain ⟨x,rfl⟩:=h; exact Jg e
theorem Gw.ex {L L':UH} (h:Gw L L') (d:Nat):Ex d L L':=by obtain ⟨x,rfl⟩:=h; exact Ex.new d L x
theorem Lr {L:UH} {n:Nat} {l:List U} (u:U) (h:L[n]? = some (.lst l)) (hl:l.length < 16777216):Cr (.ref n) [u] L = some (.non,L.set n (.lst (l ++ [u]))):=by
  show (Fc L n).bind _ = _
  rw [Dd h]
  simp only [Option.bind_some]
  rw [if_pos (decide_eq_true (by unfold sizeLine; omega))]
theorem Mq {L:UH} {n:Nat} {l:List U} (h:L[n]? = some (.lst l)):tyU "list" (.ref n) L = true:=by simp [tyU,h]
theorem Mv {L:UH} {n:Nat} {l:List U} (h:L[n]? = some (.lst l)):Cm [.ref n] L = some (.int l.length,L):=by simp [Cm,lenU,Aq h]
theorem Al {f g:FS} {δ δ':UE} {L L':UH} (h:f δ L = some (.nx δ',L')):Ay f g δ L = g δ' L':=by rw [fSeq_eq,h]; rfl
theorem Ex.seq {d:Nat} {L L':UH} (h:Ex d L L') {n:Nat} {us:List U} (hn:n ≠ d) (e:Ao L n = some us):Ao L' n = some us:=by
  unfold Ao at e ⊢
  cases hq:L[n]? with
  | none=>rw [hq] at e; cases e
  | some o=>rw [h.get hq hn]; rw [hq] at e; exact e
def Hr:FS:=(Fw (Bk (f2 Kl (A8 Lf (Ac (Ad 3) Af)) (f2 Fm (fC (.int 10)) (fC (.int 18))))) (Aw (f2 At (f2 K7 (Ad 1) (fC (.int 205))) (A8 Lf (Ac (Ad 3) Af))) (gN 1)) (Aw (f2 C2 (f2 At (f2 Bj (Ad 2) (fC (.int 43))) (Ad 3)) (fC (.int 1999999871))) (gN 2)))
def b_l_deck:FS:=(Ay (Aw (fC (.int 0)) (gN 1)) (Ay (Aw (f2 At (f2 Bj (fC (.int 17)) (A8 Cm (Ac (Ad 0) Af))) (fC (.int 11))) (gN 2)) (Ay (Kq (Bm (fSl Eu (Ad 0) Bl (B7 (fC (.int 63))))) (gN 3) Hr) (Bz (C5 (Ac (Ad 1) (Ac (Ad 2) (Ac (fC (.int 0)) Af))))))))
def K3:FN:=fnU 4 1 b_l_deck
def b_l_draw:FS:=(Ay (Aw (f2 At (f2 Ar (Ad 0) (fC (.int 2))) (fC (.int 1))) (MR.gSub (Ad 0) (fC (.int 2)))) (Ay (Fw (Bk (f2 Sf (f2 Ar (Ad 0) (fC (.int 0))) (fC (.int 0)))) (Ay (Aw (f2 C2 (f2 Ar (Ad 0) (fC (.int 0))) (Ad 1)) (gN 2)) (Ay (Aw (f2 Gi (f2 Ar (Ad 0) (fC (.int 0))) (Ad 1)) (MR.gSub (Ad 0) (fC (.int 0)))) (Bz (Ad 2)))) Du) (Ay (Aw (f2 Ar (Ad 0) (fC (.int 2))) (gN 3)) (Ay (Aw (f2 C2 (f2 At (f2 At (f2 Ar (Ad 0) (fC (.int 1))) (f2 Bj (f2 Bj (fC (.int 70003)) (Ad 3)) (Ad 3))) (f2 Bj (fC (.int 5003)) (Ad 3))) (fC (.int 2147483543))) (gN 4)) (Ay (Aw (f2 C2 (f2 Bj (Ad 4) (Ad 4)) (fC (.int 2147483497))) (gN 4)) (Bz (f2 C2 (f2 Gi (f2 C2 (f2 At (f2 Bj (Ad 4) (fC (.int 38333))) (f2 Bj (Ad 3) (fC (.int 67)))) (fC (.int 2147483477))) (fC (.int 13))) (Ad 1))))))))
def An:FN:=fnU 5 2 b_l_draw
def Er:FE:=(Fn "list" Lk (Ad 1) (Ac (Av 2 An (Ac (Ad 2) (Ac (A8 Cm (Ac (Ad 1) Af)) Af))) Af))
def Ee:FS:=(Ay (Aw (f2 Ar (Ad 2) (f2 C2 (f2 At (Ad 4) (Ad 8)) (fC (.int 26)))) (gN 9)) (Jm (Fn "list" Cr (Ad 3) (Ac (f2 Ar (C5 (Ac (f2 At (Ad 9) (f2 Bj (f2 Ar (fC (.str "qjx")) (f2 Gi (Ad 8) (fC (.int 26)))) (f2 At (fC (.int 1)) (f2 C2 (Ad 8) (fC (.int 7)))))) (Ac (f2 At (f2 At (f2 At (fSl Ei (Ad 5) Bl (B7 (Ad 6))) (Ad 9)) (f2 Ar (fC (.str "qjx")) (f2 Gi (Ad 8) (fC (.int 26))))) (fSl Ei (Ad 5) (B7 (Ad 6)) Bl)) Af))) (Ad 7)) Af))))
def Dq:FE:=(f2 Ar (Ad 1) (Av 2 An (Ac (Ad 2) (Ac (fC (.int 26)) Af))))
def b_l_names:FS:=(Ay (Aw (fC (.str "abcdefghijklmnopqrstuvwxyz")) (gN 2)) (Ay (Aw (C5 (Ac (fC (.str "a")) (Ac (fC (.str "b")) (Ac (fC (.str "ab")) (Ac (fC (.str "ba")) (Ac (fC (.str "aba")) (Ac (fC (.str "put")) (Ac (fC (.str "take")) (Ac (fC (.str "move")) (Ac (fC (.str "stairs")) (Ac (fC (.str "longest")) (Ac (fC (.str "crowd")) (Ac (fC (.str "northeas")) Af))))))))))))) (gN 3)) (Ay (Aw (Av 2 An (Ac (Ad 0) (Ac (fC (.int 26)) Af))) (gN 4)) (Ay (Aw (Fn "str" Ho (fC (.str "")) (Ac (Bb [none,some 2,some 0] (C6 (Ac (fC (.int 6)) Af)) (gN 0) none Dq) Af)) (gN 5)) (Ay (Aw (Av 2 An (Ac (Ad 0) (Ac (fC (.int 7)) Af))) (gN 6)) (Ay (Aw (Av 2 An (Ac (Ad 0) (Ac (fC (.int 2)) Af))) (gN 7)) (Ay (Aw (fSl Ei (Ad 3) (B7 (f2 Bj (fC (.int 12)) (Ad 7))) Bl) (gN 3)) (Ay (Kq (C6 (Ac (fC (.int 60)) Af)) (gN 8) Ee) (Bz (Bb [none,some 3,some 0] (C6 (Ac (Ad 1) Af)) (gN 0) none Er))))))))))
def Fz:FN:=fnU 10 2 b_l_names
def b_l_number:FS:=(Ay (Fw (Bk (f2 Abg (Ad 1) (fC (.int 2)))) (Bz (f2 Gn (Av 2 An (Ac (Ad 0) (Ac (f2 Ar (C5 (Ac (fC (.int 4)) (Ac (fC (.int 41)) Af))) (Ad 1)) Af))) (f2 Ar (C5 (Ac (fC (.int 1)) (Ac (fC (.int 20)) Af))) (Ad 1)))) Du) (Ay (Aw (f2 At (f2 Bj (Av 2 An (Ac (Ad 0) (Ac (f2 Fm (fC (.int 10)) (fC (.int 5))) Af))) (f2 Fm (fC (.int 10)) (fC (.int 5)))) (Av 2 An (Ac (Ad 0) (Ac (f2 Fm (fC (.int 10)) (fC (.int 5))) Af)))) (gN 2)) (Bz (f2 Bj (Ad 2) (f2 Ar (C5 (Ac (fC (.int 1)) (Ac (X6 (fC (.int 1))) Af))) (Av 2 An (Ac (Ad 0) (Ac (fC (.int 2)) Af))))))))
def E4:FN:=fnU 3 2 b_l_number
theorem Ac8 {x:Int} {b:Nat} (h:Builtin.Int.intBits x ≤ b):x.natAbs < 2 ^ b:=by
  unfold Builtin.Int.intBits at h
  split at h
  · rename_i h0
    have:x = 0:=by simpa using h0
    subst this
    exact Nat.two_pow_pos b
  · rename_i h0
    have hx:x.natAbs ≠ 0:=by simp at h0; omega
    exact (Nat.log2_lt hx).mp (by omega)
theorem Acw {x:Int} {b:Nat} (h:x.natAbs < 2 ^ b):Builtin.Int.intBits x ≤ b:=by
  unfold Builtin.Int.intBits
  split
  · exact Nat.zero_le _
  · rename_i h0
    have hx:x.natAbs ≠ 0:=by simp at h0; omega
    exact (Nat.log2_lt hx).mpr h
structure Gdk (L:UH) (d:Nat) (B:Int):Prop where
  ex:∃ (a b c:Int),L[d]? = some (.lst [.int a,.int b,.int c]) ∧ 0 ≤ a ∧ 0 ≤ b ∧ b < 1000000000000 ∧ 0 ≤ c ∧ c ≤ B
theorem Gdk.lt {L:UH} {d:Nat} {B:Int} (h:Gdk L d B):d < L.length:=by
  obtain ⟨a,b,c,h1,_⟩:=h.ex
  exact (List.getElem?_eq_some_iff.mp h1).1
theorem Gdk.mono {L:UH} {d:Nat} {B B':Int} (h:Gdk L d B) (hb:B ≤ B'):Gdk L d B':=by
  obtain ⟨a,b,c,h1,h2,h3,h4,h5,h6⟩:=h.ex
  exact ⟨a,b,c,h1,h2,h3,h4,h5,by omega⟩
theorem Gdk.new {L:UH} {d:Nat} {B:Int} (h:Gdk L d B) (x:List HU):Gdk (L ++ x) d B:=by
  obtain ⟨a,b,c,h1,h2⟩:=h.ex
  exact ⟨a,b,c,by rw [List.getElem?_append_left (List.getElem?_eq_some_iff.mp h1).1]; exact h1,h2⟩
theorem Gdk.set {L:UH} {d:Nat} {B:Int} (h:Gdk L d B) {n:Nat} (hn:n ≠ d) (o:HU):Gdk (L.set n o) d B:=by
  obtain ⟨a,b,c,h1,h2⟩:=h.ex
  exact ⟨a,b,c,by rw [List.getElem?_set_ne hn]; exact h1,h2⟩
theorem Gdk.gw {L L':UH} {d:Nat} {B:Int} (h:Gdk L d B) (g:Gw L L'):Gdk L' d B:=by obtain ⟨x,rfl⟩:=g; exact h.new x
theorem B8 {L:UH} {d:Nat} {B many:Int} (D:Gdk L d B) (hB:B ≤ 1000000000000) (h0:0 < many) (h1:many < 1000000000000000) :
    ∃ r L',An [.ref d,.int many] L = some (.int r,L') ∧ 0 ≤ r ∧ r < many ∧ Gdk L' d (B + 1) ∧ Ex d L L':=by
  obtain ⟨a,b,c,hd,ha,hb0,hb1,hc0,hc1⟩:=D.ex
  have hdl:d < L.length:=(List.getElem?_eq_some_iff.mp hd).1
  have q1:=Aq hd
  have q2:=Dd hd
  have md:∀ x:Int,0 ≤ x % many ∧ x % many < many:=fun x=>⟨Int.emod_nonneg _ (by omega),Int.emod_lt_of_pos _ h0⟩
  have i0:∀ (x0 x1 x2:U),L2.atI [x0,x1,x2] 0 = some x0:=fun _ _ _=>rfl
  have i1:∀ (x0 x1 x2:U),L2.atI [x0,x1,x2] 1 = some x1:=fun _ _ _=>rfl
  have i2:∀ (x0 x1 x2:U),L2.atI [x0,x1,x2] 2 = some x2:=fun _ _ _=>rfl
  have j0:ixN 3 0 = some 0:=rfl
  have j2:ixN 3 2 = some 2:=rfl
  have set1:∀ us:List U,Ao (L.set d (.lst us)) d = some us ∧ Fc (L.set d (.lst us)) d = some us:=fun us=>by
    have:(L.set d (.lst us))[d]? = some (.lst us):=List.getElem?_set_self hdl
    exact ⟨Aq this,Dd this⟩
  have s1:=set1 [.int a,.int b,.int (c + 1)]
  have keep:∀ x:Int,0 ≤ x → Gdk (L.set d (.lst [.int x,.int b,.int (c + 1)])) d (B + 1) ∧ Ex d L (L.set d (.lst [.int x,.int b,.int (c + 1)])):=fun x hx=>
    ⟨⟨x,b,c + 1,List.getElem?_set_self hdl,hx,hb0,hb1,by omega,by omega⟩,Ex.put d L _⟩
  by_cases hap:0 < a
  · refine ⟨a % many,L.set d (.lst [.int (a / many),.int b,.int (c + 1)]),?_,(md a).1,(md a).2,(keep (a / many) (Int.ediv_nonneg (by omega) (by omega))).1,(keep (a / many) (Int.ediv_nonneg (by omega) (by omega))).2⟩
    simp [An,fnU,b_l_draw,q1,q2,i0,i1,i2,j0,j2,s1,hap,h0,Nr h0 (by omega),List.replicate]
  · generalize hA:(b + 70003 * (c + 1) * (c + 1) + 5003 * (c + 1)) % 2147483543 = A
    have hA0:0 ≤ A ∧ A < 2147483543:=by rw [← hA]; exact ⟨Int.emod_nonneg _ (by decide),Int.emod_lt_of_pos _ (by decide)⟩
    generalize hC:A * A % 2147483497 = Cn
    have hC0:0 ≤ Cn ∧ Cn < 2147483497:=by rw [← hC]; exact ⟨Int.emod_nonneg _ (by decide),Int.emod_lt_of_pos _ (by decide)⟩
    generalize hE:(Cn * 38333 + (c + 1) * 67) % 2147483477 = En
    have m1:Gs 70003 (c + 1) = true:=Kk (by decide) (by decide)
    have m2:∀ x:Int,Gs x (c + 1) = true:=fun x=>Ku (by omega) (by omega)
    have m3:Gs A A = true:=Kk (by omega) (by omega)
    have m4:∀ x:Int,Gs x 38333 = true:=fun x=>Ku (by decide) (by decide)
    have m5:∀ x:Int,Gs x 67 = true:=fun x=>Ku (by decide) (by decide)
    have d13:∀ x:Int,P9 x 13 = true:=fun x=>Nr (by decide) (by decide)
    refine ⟨En / 13 % many,L.set d (.lst [.int a,.int b,.int (c + 1)]),?_,(md _).1,(md _).2,(keep a ha).1,(keep a ha).2⟩
    simp [An,fnU,b_l_draw,q1,q2,i0,i1,i2,j0,j2,s1,hap,h0,m1,m2,m3,m4,m5,d13,hA,hC,hE,List.replicate]
theorem Sh {G c X P:Nat} (hG:G < X) (hc:c < X) (hP:1 ≤ P):G * P + c < 2 * (X * P):=by
  have e3:G * P ≤ X * P:=Nat.mul_le_mul_right _ (Nat.le_of_lt hG)
  have e4:X * 1 ≤ X * P:=Nat.mul_le_mul_left _ hP
  rw [Nat.mul_one] at e4
  generalize X * P = Z at *
  generalize G * P = Y at *
  omega
theorem T9 {G c W K p:Nat} (hG:G < 2 ^ (W + K)) (hc:c < 2 ^ W):G * 2 ^ p + c < 2 ^ (W + (K + (p + 1))):=by
  have e2:2 ^ W ≤ 2 ^ (W + K):=Nat.pow_le_pow_right (by omega) (by omega)
  have e1:2 ^ (W + (K + (p + 1))) = 2 * (2 ^ (W + K) * 2 ^ p):=by
    have:W + (K + (p + 1)) = 1 + ((W + K) + p):=by omega
    rw [this,Nat.pow_add 2 1,Nat.pow_add 2 (W + K) p,Nat.pow_one]
  rw [e1]
  exact Sh hG (Nat.lt_of_lt_of_le hc e2) Nat.one_le_two_pow
theorem W2 {G cell:Int} {p:Nat} (h0:0 ≤ G):(G * 2 ^ p + (cell.natAbs:Int)).natAbs = G.natAbs * 2 ^ p + cell.natAbs:=by
  have hGn:G = (G.natAbs:Int):=by omega
  have:G * 2 ^ p + (cell.natAbs:Int) = ((G.natAbs * 2 ^ p + cell.natAbs:Nat):Int):=by
    rw [Int.natCast_add,Int.natCast_mul,Int.natCast_pow,← hGn]; rfl
  rw [this,Int.natAbs_natCast]
theorem Tm {G cell:Int} {W K p:Nat} (h0:0 ≤ G) (hG:G.natAbs < 2 ^ (W + K)) (hc:cell.natAbs < 2 ^ W):0 ≤ G * 2 ^ p + (cell.natAbs:Int) ∧ (G * 2 ^ p + (cell.natAbs:Int)).natAbs < 2 ^ (W + (K + (p + 1))):=by
  refine ⟨Int.add_nonneg (Int.mul_nonneg h0 (Int.pow_nonneg (by decide))) (by omega),?_⟩
  rw [W2 h0]
  exact T9 hG hc
theorem Ac7 (G p:Int) (L:UH):K7 (.int G) (.int p) L = if R7 G p = true then some (.int (G * 2 ^ p.toNat),L) else none:=rfl
theorem Aja:(2:Int) ^ 27 = 134217728:=by decide +kernel
theorem Afr {G:Int} {b:Nat} (hG:G.natAbs < 2 ^ b) (hb:b ≤ 100000000) (L:UH):K7 (.int G) (.int 205) L = some (.int (G * 2 ^ 205),L):=by
  have:=Acw hG
  have hsz:R7 G 205 = true:=by
    unfold R7
    rw [Bool.and_eq_true]
    refine ⟨decide_eq_true (by omega),decide_eq_true ?_⟩
    rw [Aja]
    omega
  have h205:(205:Int).toNat = 205:=rfl
  rw [Ac7,if_pos hsz,h205]
theorem Aen (L:UH):Fm (.int 10) (.int 18) L = some (.int 1000000000000000000,L):=by
  have p:Pn 10 18 = true:=rfl
  simp [p]
theorem Aav (cell:Int) (L:UH):Lf [.int cell] L = some (.int (cell.natAbs:Int),L):=by
  show some (U.int (if cell < 0 then -cell else cell),L) = _
  have:(if cell < 0 then -cell else cell) = (cell.natAbs:Int):=by split <;> omega
  rw [this]
theorem Ael (i j:Int) (L:UH):Kl (.int i) (.int j) L = some (.bl (decide (j ≤ i)),L):=rfl
def R6 (sh pw:S2) (ab:SC):FS:=(Fw (Bk (f2 Kl (A8 ab (Ac (Ad 3) Af)) (f2 pw (fC (.int 10)) (fC (.int 18))))) (Aw (f2 At (f2 sh (Ad 1) (fC (.int 205))) (A8 ab (Ac (Ad 3) Af))) (gN 1)) (Aw (f2 C2 (f2 At (f2 Bj (Ad 2) (fC (.int 43))) (Ad 3)) (fC (.int 1999999871))) (gN 2)))
theorem Sx:Hr = R6 K7 Fm Lf:=rfl
theorem Y5 {sh pw:S2} {ab:SC} {L:UH} {G G2 b cell ca E:Int} (x0:Option U) (hab:ab [.int cell] L = some (.int ca,L)) (hp:pw (.int 10) (.int 18) L = some (.int E,L)) (hsh:sh (.int G) (.int 205) L = some (.int G2,L)) (h:E ≤ ca):R6 sh pw ab [x0,some (.int G),some (.int b),some (.int cell)] L = some (.nx [x0,some (.int (G2 + ca)),some (.int b),some (.int cell)],L):=by
  have hge:Kl (.int ca) (.int E) L = some (.bl true,L):=by
    rw [Ael,decide_eq_true h]
  unfold R6
  simp only [E8,fTest_eq,f2_eq,fCall_eq,fCons_eq,fNil_eq,fC_eq,fVar_eq,List.getElem?_cons_succ,List.getElem?_cons_zero,Option.join_some,Option.map_some,Option.bind_some,hab,hp,hge,if_true,fAsg_eq,hsh,semAdd_int,gN_eq,List.set_cons_succ,List.set_cons_zero]
theorem Xp {sh pw:S2} {ab:SC} {L:UH} {G b cell ca E:Int} (x0:Option U) (hab:ab [.int cell] L = some (.int ca,L)) (hp:pw (.int 10) (.int 18) L = some (.int E,L)) (h:¬ E ≤ ca):R6 sh pw ab [x0,some (.int G),some (.int b),some (.int cell)] L = some (.nx [x0,some (.int G),some (.int ((b * 43 + cell) % 1999999871)),some (.int cell)],L):=by
  have m43:Bj (.int b) (.int 43) L = some (.int (b * 43),L):=by
    have:=Ku (i:=b) (j:=43) (by decide) (by decide)
    simp only [Bj,this,if_true]
  have hge:Kl (.int ca) (.int E) L = some (.bl false,L):=by
    rw [Ael,decide_eq_false h]
  have hmd:C2 (.int (b * 43 + cell)) (.int 1999999871) L = some (.int ((b * 43 + cell) % 1999999871),L):=by simp
  unfold R6
  simp only [E8,fTest_eq,f2_eq,fCall_eq,fCons_eq,fNil_eq,fC_eq,fVar_eq,List.getElem?_cons_succ,List.getElem?_cons_zero,Option.join_some,Option.map_some,Option.bind_some,hab,hp,hge,Bool.false_eq_true,if_false,fAsg_eq,m43,semAdd_int,hmd,gN_eq,List.set_cons_succ,List.set_cons_zero]
theorem Wm {L:UH} {G b cell:Int} {W K:Nat} (h0:0 ≤ G) (hG:G.natAbs < 2 ^ (W + K)) (hb0:0 ≤ b) (hb1:b < 1000000000000) (hc:cell.natAbs < 2 ^ W) (hW:W ≤ 1048576) (hk:K ≤ 100000) (x0:Option U) :
    ∃ (G' b':Int),Hr [x0,some (.int G),some (.int b),some (.int cell)] L = some (.nx [x0,some (.int G'),some (.int b'),some (.int cell)],L) ∧ 0 ≤ G' ∧ G'.natAbs < 2 ^ (W + (K + (205 + 1))) ∧ 0 ≤ b' ∧ b' < 1000000000000:=by
  by_cases h:(1000000000000000000:Int) ≤ (cell.natAbs:Int)
  · have hnx:=Tm (p:=205) h0 hG hc
    exact ⟨_,b,by rw [Sx]; exact Y5 x0 (Aav cell L) (Aen L) (Afr hG (by omega) L) h,hnx.1,hnx.2,hb0,hb1⟩
  · exact ⟨G,_,by rw [Sx]; exact Xp x0 (Aav cell L) (Aen L) h,h0,Nat.lt_of_lt_of_le hG (Nat.pow_le_pow_right (by decide) (by omega)),Int.emod_nonneg _ (by decide),Int.lt_trans (Int.emod_lt_of_pos _ (by decide)) (by decide)⟩
theorem W4 (ns:List Int) (L:UH) (n:Nat) (hn:L[n]? = some (.ro (ns.map U.int))) (hl:ns.length ≤ 63) {W:Nat} (hW:W ≤ 1048576) (hb:∀ c ∈ ns,c.natAbs < 2 ^ W) :
    ∃ d L',K3 [.ref n] L = some (.ref d,L') ∧ Gdk L' d 0 ∧ Gw L L':=by
  have hs:Ao L n = some (ns.map U.int):=by unfold Ao; rw [hn]
  have hlen:Cm [.ref n] L = some (.int ns.length,L):=by simp [Cm,lenU,hs]
  have m17:Bj (.int 17) (.int (ns.length:Nat)) L = some (.int (17 * (ns.length:Int)),L):=by
    have:=Kk (i:=17) (j:=(ns.length:Int)) (by decide) (by decide)
    simp only [Bj,this,if_true]
  have s1:(Aw (fC (.int 0)) (gN 1)) [some (.ref n),none,none,none] L = some (.nx [some (.ref n),some (.int 0),none,none],L):=rfl
  have s2:(Aw (f2 At (f2 Bj (fC (.int 17)) (A8 Cm (Ac (Ad 0) Af))) (fC (.int 11))) (gN 2)) [some (.ref n),some (.int 0),none,none] L = some (.nx [some (.ref n),some (.int 0),some (.int (17 * (ns.length:Int) + 11)),none],L):=by
    simp only [f2_eq,fCall_eq,fCons_eq,fNil_eq,fC_eq,fVar_eq,List.getElem?_cons_succ,List.getElem?_cons_zero,Option.join_some,Option.map_some,Option.bind_some,hlen,m17,fAsg_eq,semAdd_int,gN_eq,List.set_cons_succ,List.set_cons_zero]
  have hcut:Qy (ns.map U.int) none (some 63) = ns.map U.int:=by
    unfold Qy
    rw [HT.Y1]
    have h63:(63:Int) = ((63:Nat):Int):=rfl
    rw [h63,HT.Adm,List.drop_zero,Nat.sub_zero]
    exact List.take_of_length_le (by rw [List.length_map]; omega)
  have hsl:Eu (.ref n) none (some 63) L = some (.ref L.length,L ++ [.lst (ns.map U.int)]):=by
    simp only [Eu,hs,Option.map_some,hcut]
  have hq:(L ++ [HU.lst (ns.map U.int)])[L.length]? = some (.lst (ns.map U.int)):=by simp
  have hi:(Bm (fSl Eu (Ad 0) Bl (B7 (fC (.int 63))))) [some (.ref n),some (.int 0),some (.int (17 * (ns.length:Int) + 11)),none] L = some (.ref L.length,L ++ [.lst (ns.map U.int)]):=by
    simp only [Hi,fSl_eq,fNoPart_eq,fPart_eq,fC_eq,fVar_eq,List.getElem?_cons_zero,Option.join_some,Option.map_some,Option.bind_some,hsl,Jb (Aq hq)]
  obtain ⟨δ',L',e,P⟩:=V8 (us:=ns.map U.int) (body:=Hr) (g:=gN 3)
    (fun k δ' L'=>∃ (G b:Int) (y3:Option U),δ' = [some (.ref n),some (.int G),some (.int b),y3] ∧ L' = L ++ [HU.lst (ns.map U.int)] ∧ 0 ≤ G ∧ G.natAbs < 2 ^ (W + 206 * k) ∧ 0 ≤ b ∧ b < 1000000000000)
    hi ⟨0,17 * (ns.length:Int) + 11,none,rfl,rfl,by decide,Nat.two_pow_pos _,by omega,by omega⟩
    (fun k δ M ⟨_,_,_,_,hM,_⟩=>by rw [hM]; exact Aq hq)
    (fun k u δ M hu ⟨G,b,y3,hδ,hM,g0,g1,b0,b1⟩=>by
      subst hδ
      rw [List.getElem?_map] at hu
      obtain ⟨cell,hcell,rfl⟩:=Option.map_eq_some_iff.mp hu
      have hk:=(List.getElem?_eq_some_iff.mp hcell).1
      obtain ⟨G',b',e1,r1,r2,r3,r4⟩:=Wm (L:=M) g0 g1 b0 b1 (hb _ (List.mem_of_getElem? hcell)) hW (by omega) (some (.ref n))
      have hk6:206 * (k + 1) = 206 * k + (205 + 1):=by omega
      rw [← hk6] at r2
      exact ⟨[some (.ref n),some (.int G),some (.int b),some (.int cell)],M,rfl,_,M,.inl e1,G',b',_,rfl,hM,r1,r2,r3,r4⟩)
  obtain ⟨G,b,y3,hδ,hM,g0,g1,b0,b1⟩:=P
  rw [hδ] at e
  have sm3:∀ x y z:U,B9 [x,y,z].length = true:=fun _ _ _=>small_of (by show 3 ≤ 16777216; decide)
  refine ⟨L'.length,L' ++ [.lst [.int G,.int b,.int 0]],?_,⟨G,b,0,by simp,g0,b0,b1,by decide,by decide⟩,by rw [hM]; exact (Gw.new _ _).trans (Gw.new _ _)⟩
  unfold K3 fnU b_l_deck
  simp only [List.length_cons,List.length_nil,if_true,List.map_cons,List.map_nil,List.replicate,List.cons_append,List.nil_append]
  rw [Al s1,Al s2,Al e,fRet_eq]
  simp only [fLst_eq,fCons_eq,fC_eq,fNil_eq,fVar_eq,List.getElem?_cons_succ,List.getElem?_cons_zero,Option.join_some,Option.bind_some,Option.map_some]
  rw [if_pos (sm3 _ _ _)]
  rfl
end Lw
set_option Elab.async false
set_option linter.all false
set_option maxRecDepth 100000
set_option maxHeartbeats 1000000
namespace Lw
open PySem L2 MR
theorem Wv {L:UH} {d:Nat} {B kind:Int} (D:Gdk L d B) (hB:B ≤ 100000000000) (hw:kind = 0 ∨ kind = 1 ∨ kind = 2) :
    ∃ r L',E4 [.ref d,.int kind] L = some (.int r,L') ∧ Gdk L' d (B + 3) ∧ Ex d L L':=by
  have hdl:=D.lt
  rcases hw with rfl | rfl | rfl
  · have q0:Ao (L ++ [HU.lst [.int 4,.int 41]]) L.length = some [.int 4,.int 41]:=Aq (by simp)
    have i0:L2.atI [U.int 4,.int 41] 0 = some (.int 4):=rfl
    have i1:L2.atI [U.int 1,.int 20] 0 = some (.int 1):=rfl
    obtain ⟨r,L1,e1,a1,b1,D1,x1⟩:=B8 (many:=4) (D.new [HU.lst [.int 4,.int 41]]) (by omega) (by decide) (by decide)
    have q1:Ao (L1 ++ [HU.lst [.int 1,.int 20]]) L1.length = some [.int 1,.int 20]:=Aq (by simp)
    exact ⟨r - 1,L1 ++ [HU.lst [.int 1,.int 20]],by simp [E4,fnU,b_l_number,small_of,q0,i0,e1,q1,i1,List.replicate],(D1.new _).mono (by omega),((Ex.new d L _).trans x1).trans (Ex.new d L1 _)⟩
  · have q0:Ao (L ++ [HU.lst [.int 4,.int 41]]) L.length = some [.int 4,.int 41]:=Aq (by simp)
    have i0:L2.atI [U.int 4,.int 41] 1 = some (.int 41):=rfl
    have i1:L2.atI [U.int 1,.int 20] 1 = some (.int 20):=rfl
    obtain ⟨r,L1,e1,a1,b1,D1,x1⟩:=B8 (many:=41) (D.new [HU.lst [.int 4,.int 41]]) (by omega) (by decide) (by decide)
    have q1:Ao (L1 ++ [HU.lst [.int 1,.int 20]]) L1.length = some [.int 1,.int 20]:=Aq (by simp)
    exact ⟨r - 20,L1 ++ [HU.lst [.int 1,.int 20]],by simp [E4,fnU,b_l_number,small_of,q0,i0,e1,q1,i1,List.replicate],(D1.new _).mono (by omega),((Ex.new d L _).trans x1).trans (Ex.new d L1 _)⟩
  · obtain ⟨r1,L1,e1,a1,b1,D1,x1⟩:=B8 (many:=100000) D (by omega) (by decide) (by decide)
    obtain ⟨r2,K2,e2,a2,b2,D2,x2⟩:=B8 (many:=100000) D1 (by omega) (by decide) (by decide)
    obtain ⟨r4,L4,e4,a4,b4,D4,x4⟩:=B8 (many:=2) (D2.new [HU.lst [.int 1,.int (-1)]]) (by omega) (by decide) (by decide)
    have q4:Ao L4 K2.length = some [.int 1,.int (-1)]:=Aq (x4.get (i:=K2.length) (by simp) (by have:=D2.lt; omega))
    have hs:∃ sg:Int,L2.atI [U.int 1,.int (-1)] r4 = some (.int sg) ∧ (sg = 1 ∨ sg = -1):=by
      have:r4 = 0 ∨ r4 = 1:=by omega
      rcases this with rfl | rfl
      · exact ⟨1,rfl,.inl rfl⟩
      · exact ⟨-1,rfl,.inr rfl⟩
    obtain ⟨sg,hs,hsg⟩:=hs
    have p5:Pn 10 5 = true:=rfl
    have m1:Gs r1 100000 = true:=Ku (by decide) (by decide)
    have m2:Gs (r1 * 100000 + r2) sg = true:=Kk (by omega) (by omega)
    refine ⟨(r1 * 100000 + r2) * sg,L4,?_,D4.mono (by omega),x1.trans (x2.trans ((Ex.new d K2 _).trans x4))⟩
    simp [E4,fnU,b_l_number,p5,e1,m1,e2,small_of,e4,q4,hs,m2,List.replicate]
theorem Ags {L:UH} {n:Nat} {l:List U} {i:Int} (h:L[n]? = some (.lst l)) (h0:0 ≤ i) (h1:i < l.length) (hs:l.length < 1000000):Lk (.ref n) [.int i] L = some (l[i.toNat]'(by omega),L.set n (.lst (l.eraseIdx i.toNat))):=by
  have hk:seqIndex? i l.length = some i.toNat:=by unfold seqIndex?; simp; omega
  have hg:l[i.toNat]? = some (l[i.toNat]'(by omega)):=List.getElem?_eq_getElem (by omega)
  simp only [Lk,Dd h,Option.bind_some,hk,hg,Option.map_some]
  rw [if_pos ⟨by omega,by omega⟩]
theorem O9 {β γ:Type} (f:β → γ) (l:List β) (i:Nat):(l.map f).eraseIdx i = (l.eraseIdx i).map f:=by
  rw [List.eraseIdx_eq_take_drop_succ,List.eraseIdx_eq_take_drop_succ,List.map_append,List.map_take,List.map_drop]
theorem Ou {β:Type}:∀ (l:List β) (i:Nat) (h:i < l.length),(l[i]'h :: l.eraseIdx i).Perm l
  | a :: l,0,_=>by simp
  | a :: l,i + 1,h=>by
    have ih:=Ou l i (by simpa using h)
    simp only [List.getElem_cons_succ,List.eraseIdx_cons_succ]
    exact (List.Perm.swap _ _ _).trans (ih.cons a)
theorem Wu {β:Type} (rep:β → U) {L:UH} {d n:Nat} {B:Int} {l:List β} (D:Gdk L d B) (hB:B ≤ 1000000000) (hd:n ≠ d) (h:L[n]? = some (.lst (l.map rep))) (hl:0 < l.length) (hs:l.length < 1000) (x0:Option U) :
    ∃ (r:β) (L':UH) (l':List β),(Fn "list" Lk (Ad 1) (Ac (Av 2 An (Ac (Ad 2) (Ac (A8 Cm (Ac (Ad 1) Af)) Af))) Af)) [x0,some (.ref n),some (.ref d)] L = some (rep r,L') ∧ Gdk L' d (B + 1) ∧ L'[n]? = some (.lst (l'.map rep)) ∧ l'.length + 1 = l.length ∧ (∀ L0,Ex d L0 L → L0.length ≤ n → Ex d L0 L') ∧ (r :: l').Perm l:=by
  obtain ⟨i,L1,e1,i0,i1,D1,x1⟩:=B8 (many:=((l.map rep).length:Nat)) D (by omega) (by simp; omega) (by simp; omega)
  have h':L1[n]? = some (.lst (l.map rep)):=x1.get h hd
  have hi:i < l.length:=by simpa using i1
  have hp:=Ags h' i0 i1 (by simp; omega)
  refine ⟨l[i.toNat]'(by omega),L1.set n (.lst ((l.map rep).eraseIdx i.toNat)),l.eraseIdx i.toNat,?_,D1.set hd _,?_,?_,fun L0 x0 hn=>(x0.trans x1).set hn _,Ou l i.toNat (by omega)⟩
  · have ty:=Mq h
    have e1':=e1
    simp only [List.length_map] at e1'
    simp [ty,Mv h,e1',hp]
  · rw [List.getElem?_set_self (by have:=(List.getElem?_eq_some_iff.mp h').1; exact this)]
    rw [O9]
  · rw [List.length_eraseIdx,if_pos (by omega)]; omega
def Low (s:Str):Prop:=∀ c ∈ s.cps.toList,97 ≤ c ∧ c ≤ 122
theorem Low.ok {s:Str} (h:Low s):PyData.strOk s = true:=by
  unfold PyData.strOk
  rw [Array.all_eq_true]
  intro i hi
  have:=h (s.cps[i]) (by simp)
  exact decide_eq_true (by omega)
theorem Low.app {a b:Str} (ha:Low a) (hb:Low b):Low (a ++ b):=by
  intro c hc
  rw [Str.cps_append,Array.toList_append,List.mem_append] at hc
  exact hc.elim (ha c) (hb c)
theorem Low.slice {x:Str} (h:Low x) (lo hi:Option Int):Low (Txt.slice x lo hi):=by
  unfold Txt.slice
  split
  · exact h
  · intro c hc
    simp only [List.mem_filterMap] at hc
    obtain ⟨i,_,hi⟩:=hc
    exact h c (by rw [Array.mem_toList_iff]; exact Array.mem_of_getElem? hi)
theorem Low.fold (g:Str) (hg:Low g):∀ (ys:List Str) (acc:Array Nat),(∀ y ∈ ys,Low y) → (∀ c ∈ acc.toList,97 ≤ c ∧ c ≤ 122) → ∀ c ∈ (ys.foldl (fun acc p=>acc ++ g.cps ++ p.cps) acc).toList,97 ≤ c ∧ c ≤ 122
  | [],acc,_,h=>h
  | y :: ys,acc,hy,h=>by
    rw [List.foldl_cons]
    refine Low.fold g hg ys _ (fun z hz=>hy z (List.mem_cons_of_mem _ hz)) ?_
    intro c hc
    rw [Array.toList_append,Array.toList_append,List.mem_append,List.mem_append] at hc
    rcases hc with (hc | hc) | hc
    · exact h c hc
    · exact hg c hc
    · exact hy y (List.mem_cons_self ..) c hc
def abc:Str := "abcdefghijklmnopqrstuvwxyz"
theorem Q8:abc.cps.toList.length = 26:=by decide +kernel
theorem Px:B9 abc.length = true:=small_of (by show abc.cps.size ≤ 16777216; have:=Q8; simp only [Array.length_toList] at this; omega)
def one (c:Nat):Str:=⟨#[c]⟩
theorem Low.one {c:Nat} (h:97 ≤ c ∧ c ≤ 122):Low (Lw.one c):=by
  intro x hx
  have:x = c:=by simpa [Lw.one] using hx
  rw [this]; exact h
theorem Low.mul {c:Nat} (h:97 ≤ c ∧ c ≤ 122) (j:Int) (h0:1 ≤ j) (h1:j ≤ 7):Low (Txt.mul (Lw.one c) j):=by
  intro x hx
  have:j = 1 ∨ j = 2 ∨ j = 3 ∨ j = 4 ∨ j = 5 ∨ j = 6 ∨ j = 7:=by omega
  have:x = c:=by rcases this with rfl | rfl | rfl | rfl | rfl | rfl | rfl <;> simp [Lw.one,Txt.mul,Str.length,Str.empty,List.replicate] at hx <;> omega
  rw [this]; exact h
theorem one_len (c:Nat):(one c).length = 1:=rfl
theorem Vg:Low abc:=by unfold Low; decide +kernel
theorem Agk {i:Int} (h0:0 ≤ i) (h1:i < 26) (L:UH):∃ c,(97 ≤ c ∧ c ≤ 122) ∧ Ar (.str abc) (.int i) L = some (.str (one c),L):=by
  have hl:=Q8
  have hi:i.toNat < abc.cps.toList.length:=by omega
  refine ⟨abc.cps.toList[i.toNat]'hi,Vg _ (List.getElem_mem hi),?_⟩
  unfold Ar
  simp only
  rw [if_pos Px,Lj h0 (by omega),List.getElem?_eq_getElem hi]
  rfl
def qjx:Str := "qjx"
theorem V9:qjx.cps.toList.length = 3:=by decide +kernel
theorem Ww:B9 qjx.length = true:=small_of (by show qjx.cps.size ≤ 16777216; have:=V9; simp only [Array.length_toList] at this; omega)
theorem Acj:Low qjx:=by unfold Low; decide +kernel
theorem Mm (a b:Str) (h:a.length + b.length ≤ 10000) (L:UH):At (.str a) (.str b) L = some (.str (a ++ b),L):=by
  unfold At
  simp only
  rw [if_pos (small_of (by omega))]
theorem cat_len (a b:Str):(a ++ b).length = a.length + b.length:=by
  show (a.cps ++ b.cps).size = a.cps.size + b.cps.size
  simp
theorem Rw (c:Nat) (j:Int) (h0:0 ≤ j):((Txt.mul (one c) j).length:Int) = j:=by
  have:=PyProof.Rows.len_mul_k1 (x:=one c) (n:=j) (one_len c)
  rw [if_neg (by omega)] at this
  omega
theorem Adr (c:Nat) (j:Int) (h0:0 ≤ j) (h1:j ≤ 100) (L:UH):Bj (.str (one c)) (.int j) L = some (.str (Txt.mul (one c) j),L):=by
  unfold Bj
  simp only
  rw [if_pos ⟨by rw [one_len]; omega,by omega,by omega⟩]
theorem Vq (a:Str) (lo hi:Option Int) (h:a.length ≤ 1000) (L:UH):Ei (.str a) lo hi L = some (.str (Txt.slice a lo hi),L):=by
  unfold Ei
  simp only
  rw [if_pos (small_of (by omega))]
end Lw
set_option Elab.async false
set_option linter.all false
set_option maxRecDepth 100000
set_option maxHeartbeats 1000000
namespace Lw
open PySem L2 MR
theorem Yl:abc.cps.toList = List.range' 97 26:=by decide +kernel
def Ng:List Nat:=[113,106,120]
theorem Aa5:qjx.cps.toList = Ng:=by decide +kernel
theorem Ade {i:Int} (h0:0 ≤ i) (h1:i < 26) (L:UH):∃ c,(97 ≤ c ∧ c ≤ 122) ∧ Ar (.str abc) (.int i) L = some (.str (one c),L) ∧ c = 97 + i.toNat:=by
  have hl:=Q8
  have hi:i.toNat < abc.cps.toList.length:=by omega
  refine ⟨abc.cps.toList[i.toNat]'hi,Vg _ (List.getElem_mem hi),?_,?_⟩
  · unfold Ar
    simp only
    rw [if_pos Px,Lj h0 (by omega),List.getElem?_eq_getElem hi]
    rfl
  · have e:(abc.cps.toList)[i.toNat]? = some (97 + i.toNat):=by rw [Yl,List.getElem?_range' (by omega)]; simp
    rw [List.getElem?_eq_getElem hi] at e
    exact Option.some.inj e
theorem Ad8 {i:Int} (h0:0 ≤ i) (h1:i < 3) (L:UH):∃ c,(97 ≤ c ∧ c ≤ 122) ∧ Ar (.str qjx) (.int i) L = some (.str (one c),L) ∧ Ng[i.toNat]? = some c:=by
  have hl:=V9
  have hi:i.toNat < qjx.cps.toList.length:=by omega
  refine ⟨qjx.cps.toList[i.toNat]'hi,Acj _ (List.getElem_mem hi),?_,?_⟩
  · unfold Ar
    simp only
    rw [if_pos Ww,Lj h0 (by omega),List.getElem?_eq_getElem hi]
    rfl
  · rw [← Aa5,List.getElem?_eq_getElem hi]
def Tag (p:Nat) (begin:Int) (k:Nat) (x:Str):Prop:=x.cps.toList[p]? = some (97 + ((begin + (k:Int)) % 26).toNat) ∧ ∃ q,Ng[k / 26]? = some q ∧ x.cps.toList[p + 1]? = some q
theorem Tag.inj {p:Nat} {begin:Int} {k k':Nat} {x:Str} (h:Tag p begin k x) (h':Tag p begin k' x) (hk:k < 60) (hk':k' < 60):k = k':=by
  obtain ⟨a,q,b,c⟩:=h
  obtain ⟨a',q',b',c'⟩:=h'
  rw [a] at a'
  rw [c] at c'
  have hq:q = q':=Option.some.inj c'
  have ha:97 + ((begin + (k:Int)) % 26).toNat = 97 + ((begin + (k':Int)) % 26).toNat:=Option.some.inj a'
  subst hq
  have hd:k / 26 = k' / 26:=by
    have n1:k / 26 < 3:=by omega
    have n2:k' / 26 < 3:=by omega
    generalize k / 26 = u at b n1
    generalize k' / 26 = v at b' n2
    rw [← b'] at b
    match u,n1,v,n2 with
    | 0,_,0,_=>rfl
    | 0,_,1,_=>simp [Ng] at b
    | 0,_,2,_=>simp [Ng] at b
    | 1,_,0,_=>simp [Ng] at b
    | 1,_,1,_=>rfl
    | 1,_,2,_=>simp [Ng] at b
    | 2,_,0,_=>simp [Ng] at b
    | 2,_,1,_=>simp [Ng] at b
    | 2,_,2,_=>rfl
  have m1:0 ≤ (begin + (k:Int)) % 26:=Int.emod_nonneg _ (by decide)
  have m2:0 ≤ (begin + (k':Int)) % 26:=Int.emod_nonneg _ (by decide)
  omega
theorem cps_app (a b:Str):(a ++ b).cps.toList = a.cps.toList ++ b.cps.toList:=by
  show (a.cps ++ b.cps).toList = _
  rw [Array.toList_append]
theorem cps_one (c:Nat):(one c).cps.toList = [c]:=rfl
theorem Abt (c:Nat) (j:Int) (h:1 ≤ j ∧ j ≤ 7):∃ r,(Txt.mul (one c) j).cps.toList = c :: r:=by
  have:j = 1 ∨ j = 2 ∨ j = 3 ∨ j = 4 ∨ j = 5 ∨ j = 6 ∨ j = 7:=by omega
  rcases this with rfl | rfl | rfl | rfl | rfl | rfl | rfl <;> simp [Lw.one,Txt.mul,Str.length,Str.empty,List.replicate]
def Qj (al place:Int) (near:Str):Nat:=if al = 0 then 0 else (Txt.slice near none (some place)).cps.toList.length
def Ug (A B:FE) (δi:FE):FS:=(Jm (Fn "list" Cr (Ad 3) (Ac (f2 Ar (C5 (Ac A (Ac B Af))) δi) Af)))
theorem Xx {A B:FE} {δ:UE} {M:UH} {n2:Nat} {sp:List Str} {a b:Str} {al:Int} (hal:al = 0 ∨ al = 1) (h3:Ad 3 δ M = some (.ref n2,M)) (hat:M[n2]? = some (.lst (sp.map U.str))) (hs:sp.length ≤ 1000)
    (hA:A δ M = some (.str a,M)) (hB:B δ M = some (.str b,M)) {al':FE} (h7:∀ M',al' δ M' = some (.int al,M')) (la:Low a) (lb:Low b) :
    ∃ (x:Str) (M':UH),Ug A B al' δ M = some (.nx δ,M') ∧ Low x ∧ ((al = 0 → x = a) ∧ (al = 1 → x = b)) ∧ M'[n2]? = some (.lst ((sp ++ [x]).map U.str)) ∧ (∀ L d,Ex d L M → L.length ≤ n2 → Ex d L M') ∧ (∀ (d:Nat) (B:Int),n2 ≠ d → Gdk M d B → Gdk M' d B):=by
  have sm2:∀ x y:U,B9 [x,y].length = true:=fun _ _=>small_of (by show 2 ≤ 16777216; decide)
  have hl:(C5 (Ac A (Ac B Af))) δ M = some (.ref M.length,M ++ [.lst [.str a,.str b]]):=by
    simp only [fLst_eq,fCons_eq,hA,hB,fNil_eq,Option.bind_some,Option.map_some]
    rw [if_pos (sm2 _ _)]
  have q:Ao (M ++ [HU.lst [.str a,.str b]]) M.length = some [.str a,.str b]:=Aq (by simp)
  have hx:∃ x,Low x ∧ ((al = 0 → x = a) ∧ (al = 1 → x = b)) ∧ L2.atI [U.str a,.str b] al = some (.str x):=by
    rcases hal with rfl | rfl
    · exact ⟨a,la,⟨fun _=>rfl,fun h=>by omega⟩,rfl⟩
    · exact ⟨b,lb,⟨fun h=>by omega,fun _=>rfl⟩,rfl⟩
  obtain ⟨x,lx,hax,hx⟩:=hx
  have hat':(M ++ [HU.lst [.str a,.str b]])[n2]? = some (.lst (sp.map U.str)):=(Gw.new M _).get hat
  have ap:=Lr (.str x) hat' (by simp; omega)
  have hm:sp.map U.str ++ [.str x] = (sp ++ [x]).map U.str:=by simp
  rw [hm] at ap
  have ty:=Mq hat
  refine ⟨x,(M ++ [HU.lst [.str a,.str b]]).set n2 (.lst ((sp ++ [x]).map U.str)),?_,lx,hax,List.getElem?_set_self (List.getElem?_eq_some_iff.mp hat').1,fun L d e hn=>(e.trans (Ex.new d M _)).set hn _,fun d B hn D=>(D.new _).set hn _⟩
  unfold Ug
  rw [Oh,fMeth_eq,h3,Option.bind_some]
  simp only [ty,if_true]
  rw [fCons_eq,f2_eq,hl]
  simp only [Option.bind_some,h7,semIx_ref,q,hx,Option.map_some,fNil_eq,ap]
theorem Ub {M:UH} {n2 k:Nat} {sp:List Str} {begin place al:Int} {near:Str} (hat:M[n2]? = some (.lst (sp.map U.str))) (hs:sp.length ≤ 1000) (hk:k < 60) (hb0:0 ≤ begin) (hb1:begin < 26) (hal:al = 0 ∨ al = 1) (hn:near.length ≤ 100) (hlow:Low near) (x0 x1 y9:Option U) :
    ∃ (x:Str) (z9:Option U) (M':UH),Ee [x0,x1,some (.str abc),some (.ref n2),some (.int begin),some (.str near),some (.int place),some (.int al),some (.int (k:Int)),y9] M = some (.nx [x0,x1,some (.str abc),some (.ref n2),some (.int begin),some (.str near),some (.int place),some (.int al),some (.int (k:Int)),z9],M') ∧ Low x ∧ Tag (Qj al place near) begin k x ∧ M'[n2]? = some (.lst ((sp ++ [x]).map U.str)) ∧ (∀ L d,Ex d L M → L.length ≤ n2 → Ex d L M') ∧ (∀ (d:Nat) (B:Int),n2 ≠ d → Gdk M d B → Gdk M' d B):=by
  obtain ⟨c,wc,hc,hcE⟩:=Ade (i:=(begin + (k:Int)) % 26) (Int.emod_nonneg _ (by decide)) (Int.emod_lt_of_pos _ (by decide)) M
  obtain ⟨q,wq,hq,hqE⟩:=Ad8 (i:=(k:Int) / 26) (by omega) (by omega) M
  have hmd:C2 (.int (begin + (k:Int))) (.int 26) M = some (.int ((begin + (k:Int)) % 26),M):=by simp
  have hmd7:C2 (.int (k:Int)) (.int 7) M = some (.int ((k:Int) % 7),M):=by simp
  have hdv:Gi (.int (k:Int)) (.int 26) M = some (.int ((k:Int) / 26),M):=by
    have:=Nr (i:=(k:Int)) (j:=26) (by decide) (by decide)
    simp [this]
  have s1:(Aw (f2 Ar (Ad 2) (f2 C2 (f2 At (Ad 4) (Ad 8)) (fC (.int 26)))) (gN 9)) [x0,x1,some (.str abc),some (.ref n2),some (.int begin),some (.str near),some (.int place),some (.int al),some (.int (k:Int)),y9] M = some (.nx [x0,x1,some (.str abc),some (.ref n2),some (.int begin),some (.str near),some (.int place),some (.int al),some (.int (k:Int)),some (.str (one c))],M):=by
    generalize abc = ab at hc
    simp only [fAsg_eq,f2_eq,fC_eq,fVar_eq,List.getElem?_cons_succ,List.getElem?_cons_zero,Option.join_some,Option.map_some,Option.bind_some,semAdd_int,hmd,hc,gN_eq,List.set_cons_succ,List.set_cons_zero]
  have m0:0 ≤ (k:Int) % 7 ∧ (k:Int) % 7 < 7:=⟨Int.emod_nonneg _ (by decide),Int.emod_lt_of_pos _ (by decide)⟩
  have hml:=Adr q (1 + (k:Int) % 7) (by omega) (by omega) M
  have hll:=Rw q (1 + (k:Int) % 7) (by omega)
  have hA:(f2 At (Ad 9) (f2 Bj (f2 Ar (fC (.str qjx)) (f2 Gi (Ad 8) (fC (.int 26)))) (f2 At (fC (.int 1)) (f2 C2 (Ad 8) (fC (.int 7)))))) [x0,x1,some (.str abc),some (.ref n2),some (.int begin),some (.str near),some (.int place),some (.int al),some (.int (k:Int)),some (.str (one c))] M = some (.str (one c ++ Txt.mul (one q) (1 + (k:Int) % 7)),M):=by
    have hcat:=Mm (one c) (Txt.mul (one q) (1 + (k:Int) % 7)) (by rw [one_len]; omega) M
    generalize qjx = qj at hq
    generalize abc = ab
    simp only [f2_eq,fC_eq,fVar_eq,List.getElem?_cons_succ,List.getElem?_cons_zero,Option.join_some,Option.map_some,Option.bind_some,hdv,hq,hmd7,semAdd_int,hml,hcat]
  have l1:=Txt.slice_le near none (some place)
  have l2:=Txt.slice_le near (some place) none
  have hB:(f2 At (f2 At (f2 At (fSl Ei (Ad 5) Bl (B7 (Ad 6))) (Ad 9)) (f2 Ar (fC (.str qjx)) (f2 Gi (Ad 8) (fC (.int 26))))) (fSl Ei (Ad 5) (B7 (Ad 6)) Bl)) [x0,x1,some (.str abc),some (.ref n2),some (.int begin),some (.str near),some (.int place),some (.int al),some (.int (k:Int)),some (.str (one c))] M = some (.str (Txt.slice near none (some place) ++ one c ++ one q ++ Txt.slice near (some place) none),M):=by
    have c1:=Mm (Txt.slice near none (some place)) (one c) (by rw [one_len]; omega) M
    have c2:=Mm (Txt.slice near none (some place) ++ one c) (one q) (by rw [cat_len,one_len,one_len]; omega) M
    have c3:=Mm (Txt.slice near none (some place) ++ one c ++ one q) (Txt.slice near (some place) none) (by rw [cat_len,cat_len,one_len,one_len]; omega) M
    have k1:=Vq near none (some place) (by omega) M
    have k2:=Vq near (some place) none (by omega) M
    generalize qjx = qj at hq
    generalize abc = ab
    simp only [f2_eq,fSl_eq,fNoPart_eq,fPart_eq,fC_eq,fVar_eq,List.getElem?_cons_succ,List.getElem?_cons_zero,Option.join_some,Option.map_some,Option.bind_some,hdv,hq,k1,k2,c1,c2,c3]
  obtain ⟨x,M',e,lx,hax,r1,r2,r3⟩:=Xx (al':=Ad 7) (δ:=[x0,x1,some (.str abc),some (.ref n2),some (.int begin),some (.str near),some (.int place),some (.int al),some (.int (k:Int)),some (.str (one c))]) hal rfl hat hs hA hB (fun _=>rfl) ((Low.one wc).app (Low.mul wq _ (by omega) (by omega))) ((((hlow.slice _ _).app (Low.one wc)).app (Low.one wq)).app (hlow.slice _ _))
  have htag:Tag (Qj al place near) begin k x:=by
    have hq':Ng[k / 26]? = some q:=by
      have:((k:Int) / 26).toNat = k / 26:=by omega
      rw [← this]; exact hqE
    subst hcE
    rcases hal with rfl | rfl
    · have hx:=hax.1 rfl
      subst hx
      have hm:∃ r,(Txt.mul (one q) (1 + (k:Int) % 7)).cps.toList = q :: r:=Abt q _ (by omega)
      obtain ⟨r,hr⟩:=hm
      have hp:Qj 0 place near = 0:=rfl
      rw [hp]
      refine ⟨?_,q,hq',?_⟩
      · rw [cps_app,cps_one]; rfl
      · rw [cps_app,cps_one,hr]; rfl
    · have hx:=hax.2 rfl
      subst hx
      have hp:Qj 1 place near = (Txt.slice near none (some place)).cps.toList.length:=rfl
      rw [hp]
      refine ⟨?_,q,hq',?_⟩
      · rw [cps_app,cps_app,cps_app,cps_one,cps_one,List.append_assoc,List.append_assoc,List.getElem?_append_right (Nat.le_refl _),Nat.sub_self]; rfl
      · rw [cps_app,cps_app,cps_app,cps_one,cps_one,List.append_assoc,List.append_assoc,List.getElem?_append_right (Nat.le_succ _),Nat.succ_sub (Nat.le_refl _),Nat.sub_self]; rfl
  refine ⟨x,some (.str (one c)),M',?_,lx,htag,r1,r2,r3⟩
  have hb:Ee = Ay (Aw (f2 Ar (Ad 2) (f2 C2 (f2 At (Ad 4) (Ad 8)) (fC (.int 26)))) (gN 9)) (Ug (f2 At (Ad 9) (f2 Bj (f2 Ar (fC (.str qjx)) (f2 Gi (Ad 8) (fC (.int 26)))) (f2 At (fC (.int 1)) (f2 C2 (Ad 8) (fC (.int 7)))))) (f2 At (f2 At (f2 At (fSl Ei (Ad 5) Bl (B7 (Ad 6))) (Ad 9)) (f2 Ar (fC (.str qjx)) (f2 Gi (Ad 8) (fC (.int 26))))) (fSl Ei (Ad 5) (B7 (Ad 6)) Bl)) (Ad 7)):=rfl
  rw [hb,Al s1]
  exact e
theorem Xn {L:UH} {d:Nat} {B:Int} (D:Gdk L d B) (hB:B ≤ 100000000) (x1 x3 x4 x5 x6 x7 x8 x9:Option U) :
    ∃ (r:Nat) (ys:List Str) (L':UH),Bb [none,some 2,some 0] (C6 (Ac (fC (.int 6)) Af)) (gN 0) none Dq [some (.ref d),x1,some (.str abc),x3,x4,x5,x6,x7,x8,x9] L = some (.ref r,L') ∧ L'[r]? = some (.lst (ys.map U.str)) ∧ (∀ y ∈ ys,y.length = 1 ∧ Low y) ∧ ys.length = 6 ∧ Gdk L' d (B + 6) ∧ Ex d L L':=by
  have hi:C6 (Ac (fC (.int 6)) Af) [some (.ref d),x1,some (.str abc),x3,x4,x5,x6,x7,x8,x9] L = some (.seq (Cc 0 6),L):=I0 (n:=6) rfl (by omega)
  obtain ⟨us,δ',M',e,⟨z,hδ⟩,ys,hys,hl1,hly,DM,xM⟩:=Vv (ix:=[none,some 2,some 0]) (it:=.seq (Cc 0 6)) (g:=gN 0) (tt:=none) (fe:=Dq) (us:=Cc 0 6) (δ:=[some (.ref d),x1,some (.str abc),x3,x4,x5,x6,x7,x8,x9]) (L:=L) (L0:=L)
      (fun k acc δ' M=>(∃ z,δ' = [z,some (.str abc),some (.ref d)]) ∧ ∃ (ys:List Str),acc = ys.map U.str ∧ (∀ y ∈ ys,y.length = 1 ∧ Low y) ∧ ys.length = k ∧ Gdk M d (B + k) ∧ Ex d L M)
      hi (by simp [IU.size]) ⟨⟨none,rfl⟩,[],rfl,by simp,rfl,by simpa using D,Ex.refl d L⟩
      (fun k acc δ L _ _=>rfl)
      (fun k u acc δ M hu ⟨⟨z,hδ⟩,ys,hys,hl1,hly,DM,xM⟩=>by
        subst hδ
        obtain ⟨hk,rfl⟩:=Go hu
        obtain ⟨r,M',e1,r0,r1,D',x'⟩:=B8 (many:=26) DM (by omega) (by decide) (by decide)
        obtain ⟨c,wc,hc⟩:=Agk r0 r1 M'
        have ha:acc.length < 16777216:=by rw [hys,List.length_map,hly]; omega
        refine ⟨[some (.int (0 + k)),some (.str abc),some (.ref d)],M,rfl,true,M,rfl,fun _=>⟨.str (one c),M',?_,ha,⟨_,rfl⟩,ys ++ [one c],by simp [hys],?_,by simp [hly],?_,xM.trans x'⟩,fun h=>by cases h⟩
        · unfold Dq
          generalize abc = ab at hc
          simp only [f2_eq,fOwn_eq,fCons_eq,fNil_eq,fC_eq,fVar_eq,List.getElem?_cons_succ,List.getElem?_cons_zero,Option.join_some,Option.map_some,Option.bind_some,List.length_cons,List.length_nil,if_true,e1,hc]
        · intro y hy
          rcases List.mem_append.mp hy with h | h
          · exact hl1 y h
          · rw [List.mem_singleton.mp h]; exact ⟨rfl,Low.one wc⟩
        · have:B + ((k + 1:Nat):Int) = B + (k:Int) + 1:=by omega
          rw [this]; exact D')
  rw [Hm] at hly DM
  exact ⟨_,ys,_,e,by rw [hys]; simp,hl1,hly,DM.new _,xM.trans (Ex.new d _ _)⟩
theorem N1:∀ ys:List Str,(∀ y ∈ ys,y.length = 1) → (ys.map (·.length)).sum = ys.length
  | [],_=>rfl
  | y :: ys,h=>by
    rw [List.map_cons,List.sum_cons,N1 ys (fun z hz=>h z (List.mem_cons_of_mem _ hz)),h y (List.mem_cons_self ..),List.length_cons]; omega
theorem N5:∀ ys:List Str,mapO toS (ys.map U.str) = some ys
  | []=>rfl
  | y :: ys=>by simp only [List.map_cons,mapO,toS,N5 ys,Option.bind_some,Option.map_some]
def nul:Str := ""
theorem Acr:Low nul:=by unfold Low; decide +kernel
theorem Vn:nul.length = 0:=by decide +kernel
theorem Pr (g:Str) (hg:g.length = 0):∀ (ys:List Str) (acc:Array Nat),(ys.foldl (fun acc p=>acc ++ g.cps ++ p.cps) acc).size = acc.size + (ys.map (·.length)).sum
  | [],acc=>by simp
  | y :: ys,acc=>by
    have hg':g.cps.size = 0:=hg
    have hy:y.length = y.cps.size:=rfl
    rw [List.foldl_cons,Pr g hg ys,List.map_cons,List.sum_cons,Array.size_append,Array.size_append,hg',hy]
    omega
theorem Ado {L:UH} {r:Nat} {ys:List Str} (h:L[r]? = some (.lst (ys.map U.str))) (h1:∀ y ∈ ys,y.length = 1 ∧ Low y) (h2:ys.length = 6):∃ near:Str,Ho (.str nul) [.ref r] L = some (.str near,L) ∧ near.length ≤ 100 ∧ Low near:=by
  have hs:=N1 ys (fun y hy=>(h1 y hy).1)
  refine ⟨Txt.join nul ys,?_,?_,?_⟩
  · unfold Ho
    simp only [Dd h,Option.bind_some,N5]
    rw [if_pos ⟨by rw [Vn]; omega,by rw [hs]; omega⟩]
  · cases ys with
    | nil=>simp at h2
    | cons y ys=>
      show (ys.foldl (fun acc p=>acc ++ nul.cps ++ p.cps) y.cps).size ≤ 100
      have hy:y.cps.size = 1:=(h1 y (List.mem_cons_self ..)).1
      rw [Pr nul Vn ys y.cps,hy,N1 ys (fun z hz=>(h1 z (List.mem_cons_of_mem _ hz)).1)]
      simp only [List.length_cons] at h2
      omega
  · cases ys with
    | nil=>simp at h2
    | cons y ys=>exact Low.fold nul Acr ys y.cps (fun z hz=>(h1 z (List.mem_cons_of_mem _ hz)).2) (h1 y (List.mem_cons_self ..)).2
end Lw
set_option Elab.async false
set_option linter.all false
set_option maxRecDepth 100000
set_option maxHeartbeats 1000000
namespace Lw
open PySem L2 MR
def Ch:List Str:=["a","b","ab","ba","aba","put","take","move","stairs","longest","crowd","northeas"]
theorem Ag9 (a b c d e f g h i j k l:Str) (δ:UE) (L:UH):(C5 (Ac (fC (.str a)) (Ac (fC (.str b)) (Ac (fC (.str c)) (Ac (fC (.str d)) (Ac (fC (.str e)) (Ac (fC (.str f)) (Ac (fC (.str g)) (Ac (fC (.str h)) (Ac (fC (.str i)) (Ac (fC (.str j)) (Ac (fC (.str k)) (Ac (fC (.str l)) Af))))))))))))) δ L = some (.ref L.length,L ++ [.lst ([a,b,c,d,e,f,g,h,i,j,k,l].map U.str)]):=by
  have sm:∀ a b c d e f g h i j k l:U,B9 [a,b,c,d,e,f,g,h,i,j,k,l].length = true:=fun _ _ _ _ _ _ _ _ _ _ _ _=>small_of (by show 12 ≤ 16777216; decide)
  simp only [fLst_eq,fCons_eq,fC_eq,fNil_eq,Option.bind_some,Option.map_some]
  rw [if_pos (sm _ _ _ _ _ _ _ _ _ _ _ _)]
  rfl
theorem Fk {fe:FE} {v:U} {i:Nat} {δ:UE} {L L':UH} (e:fe δ L = some (v,L')):(Aw fe (gN i)) δ L = some (.nx (δ.set i (some v)),L'):=by
  rw [fAsg_eq,e]
  simp only [Option.bind_some,gN_eq,Option.map_some]
theorem K0 {f:FN} {i:Nat} {c:Int} {u v:U} {δ:UE} {L L':UH} (h:Ad i δ L = some (u,L)) (e:f [u,.int c] L = some (v,L')):(Av 2 f (Ac (Ad i) (Ac (fC (.int c)) Af))) δ L = some (v,L'):=by
  rw [fOwn_eq,fCons_eq,h]
  simp only [Option.bind_some,fCons_eq,fC_eq,fNil_eq,Option.map_some,List.length_cons,List.length_nil,if_true,e]
theorem Ds {f:FN} {i:Nat} {u v:U} {δ:UE} {L L':UH} (h:Ad i δ L = some (u,L)) (e:f [u] L = some (v,L')):(Av 1 f (Ac (Ad i) Af)) δ L = some (v,L'):=by
  rw [fOwn_eq,fCons_eq,h]
  simp only [Option.bind_some,fNil_eq,Option.map_some,List.length_cons,List.length_nil,if_true,e]
def Aie (s:Str):Bool:=s.cps.toList.all fun c=>decide (97 ≤ c) && decide (c ≤ 122)
theorem Vp {s:Str} (h:Aie s = true):Low s:=fun c hc=>by
  have:=List.all_eq_true.mp h c hc
  simpa using this
theorem Xg:∀ x ∈ Ch,Low x:=fun x hx=>Vp (List.all_eq_true.mp (show Ch.all Aie = true by decide +kernel) x hx)
theorem Xl {M:UH} {n1:Nat} {al:Int} (hal:al = 0 ∨ al = 1) (h:M[n1]? = some (.lst (Ch.map U.str))):∃ sp:List Str,Ei (.ref n1) (some (12 * al)) none M = some (.ref M.length,M ++ [.lst (sp.map U.str)]) ∧ sp.length ≤ 12 ∧ (∀ x ∈ sp,Low x) ∧ sp = (if al = 0 then Ch else []):=by
  have hs:=Aq h
  refine ⟨(Ch.drop (HT.sIx (Ch.map U.str).length 0 (some (12 * al)))).take (HT.sIx (Ch.map U.str).length (Ch.map U.str).length none - HT.sIx (Ch.map U.str).length 0 (some (12 * al))),?_,?_,fun x hx=>Xg x (List.mem_of_mem_drop (List.mem_of_mem_take hx)),?_⟩
  · show Eu (.ref n1) (some (12 * al)) none M = _
    simp only [Eu,hs,Option.map_some]
    unfold Qy
    rw [List.map_take,List.map_drop]
  · have:Ch.length = 12:=rfl
    rw [List.length_take,List.length_drop]; omega
  · rcases hal with rfl | rfl
    · rfl
    · rfl
theorem Wi (begin:Int) (k:Nat):∀ x ∈ Ch,¬ Tag 0 begin k x:=fun x hx h=>by
  obtain ⟨_,q,hq,h2⟩:=h
  have hw:∀ y ∈ Ch,∀ c ∈ Ng,y.cps.toList[1]? ≠ some c:=by decide +kernel
  exact hw x hx q (List.mem_of_getElem? hq) h2
theorem words_nodup:Ch.Nodup:=by decide +kernel
theorem T4 {M:UH} {n2:Nat} {sp:List Str} {begin place al:Int} {near:Str} (hat:M[n2]? = some (.lst (sp.map U.str))) (hs:sp.length ≤ 12) (hb0:0 ≤ begin) (hb1:begin < 26) (hal:al = 0 ∨ al = 1) (hn:near.length ≤ 100) (hlow:Low near) (hsl:∀ x ∈ sp,Low x) (x0 x1 y8 y9:Option U) :
    ∃ (sp':List Str) (z8 z9:Option U) (M':UH),(Kq (C6 (Ac (fC (.int 60)) Af)) (gN 8) Ee) [x0,x1,some (.str abc),some (.ref n2),some (.int begin),some (.str near),some (.int place),some (.int al),y8,y9] M = some (.nx [x0,x1,some (.str abc),some (.ref n2),some (.int begin),some (.str near),some (.int place),some (.int al),z8,z9],M') ∧ M'[n2]? = some (.lst (sp'.map U.str)) ∧ (∃ xs:List Str,sp' = sp ++ xs ∧ xs.length = 60 ∧ ∀ i x,xs[i]? = some x → Tag (Qj al place near) begin i x) ∧ 60 ≤ sp'.length ∧ sp'.length ≤ 72 ∧ (∀ x ∈ sp',Low x) ∧ (∀ L d,Ex d L M → L.length ≤ n2 → Ex d L M') ∧ (∀ (d:Nat) (B:Int),n2 ≠ d → Gdk M d B → Gdk M' d B):=by
  have hi:C6 (Ac (fC (.int 60)) Af) [x0,x1,some (.str abc),some (.ref n2),some (.int begin),some (.str near),some (.int place),some (.int al),y8,y9] M = some (.seq (Cc 0 60),M):=I0 (n:=60) rfl (by omega)
  obtain ⟨δ',M',e,P⟩:=Ks (us:=Cc 0 60) (body:=Ee) (g:=gN 8)
    (fun k δ' M'=>∃ (sp':List Str) (z8 z9:Option U),δ' = [x0,x1,some (.str abc),some (.ref n2),some (.int begin),some (.str near),some (.int place),some (.int al),z8,z9] ∧ M'[n2]? = some (.lst (sp'.map U.str)) ∧ (∃ xs:List Str,sp' = sp ++ xs ∧ xs.length = k ∧ ∀ i x,xs[i]? = some x → Tag (Qj al place near) begin i x) ∧ k ≤ sp'.length ∧ sp'.length ≤ 12 + k ∧ (∀ x ∈ sp',Low x) ∧ (∀ L d,Ex d L M → L.length ≤ n2 → Ex d L M') ∧ (∀ (d:Nat) (B:Int),n2 ≠ d → Gdk M d B → Gdk M' d B))
    hi ⟨sp,y8,y9,rfl,hat,⟨[],by simp,rfl,fun i x h=>by simp at h⟩,by omega,by omega,hsl,fun _ _ e _=>e,fun _ _ _ D=>D⟩
    (fun k u δ N hu ⟨sp',z8,z9,hδ,hat',⟨xs,hxs,hxl,hxt⟩,h1,h2,hw,h3,h4⟩=>by
      subst hδ
      obtain ⟨hk,rfl⟩:=Go hu
      have h0:(0:Int) + (k:Int) = (k:Int):=by omega
      rw [h0]
      obtain ⟨x,w9,N',e1,lx,htag,r1,r2,r3⟩:=Ub (place:=place) hat' (by omega) hk hb0 hb1 hal hn hlow x0 x1 z9
      exact ⟨[x0,x1,some (.str abc),some (.ref n2),some (.int begin),some (.str near),some (.int place),some (.int al),some (.int (k:Int)),z9],N,rfl,_,N',.inl e1,sp' ++ [x],_,_,rfl,r1,⟨xs ++ [x],by rw [hxs,List.append_assoc],by simp [hxl],fun i y hy=>by
        by_cases hi:i < xs.length
        · rw [List.getElem?_append_left hi] at hy; exact hxt i y hy
        · have hil:=(List.getElem?_eq_some_iff.mp hy).1
          rw [List.length_append,List.length_singleton] at hil
          have:i = k:=by omega
          subst this
          rw [List.getElem?_append_right (by omega),hxl,Nat.sub_self] at hy
          cases hy
          exact htag⟩,by simp; omega,by simp; omega,fun y hy=>by rcases List.mem_append.mp hy with h | h; exact hw y h; rw [List.mem_singleton.mp h]; exact lx,fun L d e hL=>r2 L d (h3 L d e hL) hL,fun d B hd D=>r3 d B hd (h4 d B hd D)⟩)
  obtain ⟨sp',z8,z9,hδ,hat',hX,h1,h2,hw,h3,h4⟩:=P
  rw [hδ] at e
  rw [Hm] at h1 h2 hX
  exact ⟨sp',z8,z9,M',e,hat',hX,h1,h2,hw,h3,h4⟩
theorem Xq {M:UH} {d n2 many:Nat} {B:Int} {sp:List Str} (D:Gdk M d B) (hB:B ≤ 100000000) (hnd:n2 ≠ d) (hat:M[n2]? = some (.lst (sp.map U.str))) (hm:many ≤ sp.length) (hs:sp.length ≤ 72) (x2 x4 x5 x6 x7 x8 x9:Option U) :
    ∃ (r:Nat) (names:List Str) (M':UH),Bb [none,some 3,some 0] (C6 (Ac (Ad 1) Af)) (gN 0) none Er [some (.ref d),some (.int many),x2,some (.ref n2),x4,x5,x6,x7,x8,x9] M = some (.ref r,M') ∧ M'[r]? = some (.lst (names.map U.str)) ∧ names.length = many ∧ (∃ rest,(names ++ rest).Perm sp) ∧ Gdk M' d (B + many) ∧ (∀ L,Ex d L M → L.length ≤ n2 → Ex d L M' ∧ L.length ≤ r):=by
  have hi:C6 (Ac (Ad 1) Af) [some (.ref d),some (.int many),x2,some (.ref n2),x4,x5,x6,x7,x8,x9] M = some (.seq (Cc 0 many),M):=I0 rfl (by omega)
  obtain ⟨ys,δ',M',e,⟨z,hδ⟩,vs,rest,hvs,hlv,hlr,hp,hat,DM,xM⟩:=Vv (ix:=[none,some 3,some 0]) (it:=.seq (Cc 0 many)) (g:=gN 0) (tt:=none) (fe:=Er) (us:=Cc 0 many) (δ:=[some (.ref d),some (.int many),x2,some (.ref n2),x4,x5,x6,x7,x8,x9]) (L:=M) (L0:=M)
      (fun k acc δ' M'=>(∃ z,δ' = [z,some (.ref n2),some (.ref d)]) ∧ ∃ (vs rest:List Str),acc = vs.map U.str ∧ vs.length = k ∧ rest.length + k = sp.length ∧ (vs ++ rest).Perm sp ∧ M'[n2]? = some (.lst (rest.map U.str)) ∧ Gdk M' d (B + k) ∧ (∀ L,Ex d L M → L.length ≤ n2 → Ex d L M'))
      hi (by simp [IU.size]) ⟨⟨none,rfl⟩,[],sp,rfl,rfl,rfl,by simp,hat,by simpa using D,fun _ e _=>e⟩
      (fun k acc δ L _ _=>rfl)
      (fun k u acc δ N hu ⟨⟨z,hδ⟩,vs,rest,hvs,hlv,hlr,hp,hat,DM,xM⟩=>by
        subst hδ
        obtain ⟨hk,rfl⟩:=Go hu
        obtain ⟨r,N',l',e,D',hat',hl',hx',hperm⟩:=Wu U.str DM (by omega) hnd hat (by omega) (by omega) (some (.int (0 + (k:Int))))
        have ha:acc.length < 16777216:=by rw [hvs,List.length_map,hlv]; omega
        refine ⟨[some (.int (0 + k)),some (.ref n2),some (.ref d)],N,rfl,true,N,rfl,fun _=>⟨.str r,N',?_,ha,⟨_,rfl⟩,vs ++ [r],l',by simp [hvs],by simp [hlv],by omega,?_,hat',?_,fun L eL hL=>hx' L (xM L eL hL) hL⟩,fun h=>by cases h⟩
        · unfold Er; exact e
        · refine List.Perm.trans ?_ hp
          rw [List.append_assoc]
          exact List.Perm.append_left vs hperm
        · have:B + ((k + 1:Nat):Int) = B + (k:Int) + 1:=by omega
          rw [this]; exact D')
  rw [Hm] at hlv DM
  exact ⟨_,vs,_,e,by rw [hvs]; simp,hlv,⟨rest,hp⟩,DM.new _,fun L eL hL=>⟨(xM L eL hL).trans (Ex.new d _ _),(xM L eL hL).le⟩⟩
theorem Yk {L:UH} {d many:Nat} {B:Int} (D:Gdk L d B) (hB:B ≤ 10000000) (hm:many ≤ 60) :
    ∃ (n:Nat) (names:List Str) (L':UH),Fz [.ref d,.int many] L = some (.ref n,L') ∧ L'[n]? = some (.lst (names.map U.str)) ∧ names.length = many ∧ names.Nodup ∧ (∀ x ∈ names,Low x) ∧ Gdk L' d (B + 100) ∧ Ex d L L' ∧ L.length ≤ n:=by
  have s1:(Aw (fC (.str "abcdefghijklmnopqrstuvwxyz")) (gN 2)) [some (.ref d),some (.int many),none,none,none,none,none,none,none,none] L = some (.nx [some (.ref d),some (.int many),some (.str abc),none,none,none,none,none,none,none],L):=rfl
  have s2:=Fk (i:=3) (Ag9 "a" "b" "ab" "ba" "aba" "put" "take" "move" "stairs" "longest" "crowd" "northeas" [some (.ref d),some (.int many),some (.str abc),none,none,none,none,none,none,none] L)
  have hw:(["a","b","ab","ba","aba","put","take","move","stairs","longest","crowd","northeas"]:List Str) = Ch:=rfl
  rw [hw] at s2
  simp only [List.set_cons_succ,List.set_cons_zero] at s2
  have hdl:=D.lt
  have k1:(L ++ [HU.lst (Ch.map U.str)])[L.length]? = some (.lst (Ch.map U.str)):=by simp
  obtain ⟨begin,L3,e3,b0,b1,D3,x3⟩:=B8 (many:=26) (D.new [HU.lst (Ch.map U.str)]) (by omega) (by decide) (by decide)
  have s3:=Fk (i:=4) (K0 (i:=0) (δ:=[some (.ref d),some (.int many),some (.str abc),some (.ref L.length),none,none,none,none,none,none]) rfl e3)
  simp only [List.set_cons_succ,List.set_cons_zero] at s3
  have k3:=x3.get k1 (by omega)
  obtain ⟨r4,ys,L4,e4,h4,hy1,hy6,D4,x4⟩:=Xn D3 (by omega) (some (.int many)) (some (.ref L.length)) (some (.int begin)) none none none none none
  obtain ⟨near,hj,hnl,hlow⟩:=Ado h4 hy1 hy6
  have s4:(Aw (Fn "str" Ho (fC (.str "")) (Ac (Bb [none,some 2,some 0] (C6 (Ac (fC (.int 6)) Af)) (gN 0) none Dq) Af)) (gN 5)) [some (.ref d),some (.int many),some (.str abc),some (.ref L.length),some (.int begin),none,none,none,none,none] L3 = some (.nx [some (.ref d),some (.int many),some (.str abc),some (.ref L.length),some (.int begin),some (.str near),none,none,none,none],L4):=by
    have ty:tyU "str" (.str nul) L3 = true:=rfl
    have hn:(fC (.str ""):FE) = fC (.str nul):=rfl
    rw [hn]
    generalize nul = nl at hj ty
    rw [fAsg_eq,fMeth_eq]
    simp only [fC_eq,Option.bind_some,ty,if_true]
    rw [fCons_eq,e4]
    simp only [Option.bind_some,fNil_eq,Option.map_some,hj,gN_eq,List.set_cons_succ,List.set_cons_zero]
  have k4:=x4.get k3 (by omega)
  obtain ⟨place,L5,e5,p0,p1,D5,x5⟩:=B8 (many:=7) D4 (by omega) (by decide) (by decide)
  have s5:=Fk (i:=6) (K0 (i:=0) (δ:=[some (.ref d),some (.int many),some (.str abc),some (.ref L.length),some (.int begin),some (.str near),none,none,none,none]) rfl e5)
  simp only [List.set_cons_succ,List.set_cons_zero] at s5
  have k5:=x5.get k4 (by omega)
  obtain ⟨al,L6,e6,a0,a1,D6,x6⟩:=B8 (many:=2) D5 (by omega) (by decide) (by decide)
  have s6:=Fk (i:=7) (K0 (i:=0) (δ:=[some (.ref d),some (.int many),some (.str abc),some (.ref L.length),some (.int begin),some (.str near),some (.int place),none,none,none]) rfl e6)
  simp only [List.set_cons_succ,List.set_cons_zero] at s6
  have k6:=x6.get k5 (by omega)
  have hal:al = 0 ∨ al = 1:=by omega
  obtain ⟨sp,hsl,hsp,hspl,hspE⟩:=Xl hal k6
  have s7:(Aw (fSl Ei (Ad 3) (B7 (f2 Bj (fC (.int 12)) (Ad 7))) Bl) (gN 3)) [some (.ref d),some (.int many),some (.str abc),some (.ref L.length),some (.int begin),some (.str near),some (.int place),some (.int al),none,none] L6 = some (.nx [some (.ref d),some (.int many),some (.str abc),some (.ref L6.length),some (.int begin),some (.str near),some (.int place),some (.int al),none,none],L6 ++ [.lst (sp.map U.str)]):=by
    have hmu:Bj (.int 12) (.int al) L6 = some (.int (12 * al),L6):=by
      have:=Kk (i:=12) (j:=al) (by decide) (by decide)
      simp only [Bj,this,if_true]
    generalize abc = ab
    simp only [fAsg_eq,fSl_eq,fNoPart_eq,fPart_eq,f2_eq,fC_eq,fVar_eq,List.getElem?_cons_succ,List.getElem?_cons_zero,Option.join_some,Option.map_some,Option.bind_some,hmu,hsl,gN_eq,List.set_cons_succ,List.set_cons_zero]
  have k7:(L6 ++ [HU.lst (sp.map U.str)])[L6.length]? = some (.lst (sp.map U.str)):=by simp
  have xL6:Ex d L L6:=(Ex.new d L _).trans (x3.trans (x4.trans (x5.trans x6)))
  have D7:=D6.new [HU.lst (sp.map U.str)]
  have hne:L6.length ≠ d:=by have:=D6.lt; omega
  obtain ⟨sp',z8,z9,L8,e8,k8,⟨xs,hxs,hxl,hxt⟩,l0,l1,hw8,h8,h8D⟩:=T4 (place:=place) k7 hsp b0 b1 hal hnl hlow hspl (some (.ref d)) (some (.int many)) none none
  obtain ⟨r,names,L9,e9,k9,hln,⟨rest,hperm⟩,D9,h9⟩:=Xq (many:=many) (h8D d _ hne D7) (by omega) hne k8 (by omega) l1 (some (.str abc)) (some (.int begin)) (some (.str near)) (some (.int place)) (some (.int al)) z8 z9
  have x9:=h9 L (h8 L d (xL6.trans (Ex.new d L6 _)) xL6.le) xL6.le
  have hnd':sp'.Nodup:=by
    rw [hxs]
    have hxn:xs.Nodup:=by
      rw [List.nodup_iff_pairwise_ne,List.pairwise_iff_getElem]
      intro i j hi hj hij he
      have t1:=hxt i _ (List.getElem?_eq_getElem hi)
      have t2:=hxt j _ (List.getElem?_eq_getElem hj)
      rw [he] at t1
      have:=t1.inj t2 (by omega) (by omega)
      omega
    rcases hal with rfl | rfl
    · rw [hspE,if_pos rfl]
      refine List.nodup_append.mpr ⟨words_nodup,hxn,fun a ha b hb hab=>?_⟩
      subst hab
      obtain ⟨i,hi,he⟩:=List.getElem_of_mem hb
      have:=hxt i a (by rw [List.getElem?_eq_getElem hi,he])
      exact Wi begin i a ha this
    · rw [hspE,if_neg (by decide)]
      exact hxn
  have hnd:names.Nodup:=(List.nodup_append.mp (hperm.nodup_iff.mpr hnd')).1
  refine ⟨r,names,L9,?_,k9,hln,hnd,fun x hx=>hw8 x (hperm.mem_iff.mp (List.mem_append_left _ hx)),D9.mono (by omega),x9.1,x9.2⟩
  have hb:b_l_names = Ay (Aw (fC (.str "abcdefghijklmnopqrstuvwxyz")) (gN 2)) (Ay (Aw (C5 (Ac (fC (.str "a")) (Ac (fC (.str "b")) (Ac (fC (.str "ab")) (Ac (fC (.str "ba")) (Ac (fC (.str "aba")) (Ac (fC (.str "put")) (Ac (fC (.str "take")) (Ac (fC (.str "move")) (Ac (fC (.str "stairs")) (Ac (fC (.str "longest")) (Ac (fC (.str "crowd")) (Ac (fC (.str "northeas")) Af))))))))))))) (gN 3)) (Ay (Aw (Av 2 An (Ac (Ad 0) (Ac (fC (.int 26)) Af))) (gN 4)) (Ay (Aw (Fn "str" Ho (fC (.str "")) (Ac (Bb [none,some 2,some 0] (C6 (Ac (fC (.int 6)) Af)) (gN 0) none Dq) Af)) (gN 5)) (Ay (Aw (Av 2 An (Ac (Ad 0) (Ac (fC (.int 7)) Af))) (gN 6)) (Ay (Aw (Av 2 An (Ac (Ad 0) (Ac (fC (.int 2)) Af))) (gN 7)) (Ay (Aw (fSl Ei (Ad 3) (B7 (f2 Bj (fC (.int 12)) (Ad 7))) Bl) (gN 3)) (Ay (Kq (C6 (Ac (fC (.int 60)) Af)) (gN 8) Ee) (Bz (Bb [none,some 3,some 0] (C6 (Ac (Ad 1) Af)) (gN 0) none Er))))))))):=rfl
  unfold Fz fnU
  simp only [List.length_cons,List.length_nil,if_true,List.map_cons,List.map_nil,List.replicate,List.cons_append,List.nil_append]
  rw [hb,Al s1,Al s2,Al s3,Al s4,Al s5,Al s6,Al s7,Al e8,fRet_eq,e9]
  rfl
end Lw
set_option Elab.async false
set_option linter.all false
set_option maxRecDepth 100000
set_option maxHeartbeats 1000000
namespace Lw
open PySem L2 MR
noncomputable def Fj:FE:=(f2 Abk (Ad 0) (Ad 1))
noncomputable def b_lies_below:FS:=(Bz (U1 (f2 Bx (Ad 0) (Ad 1)) (A8 Ot (Ac (Bb [none,none] (Nm (Ac (Ad 0) (Ac (Ad 1) Af))) (MR.gTup 2 (MR.gCons (gN 0) (MR.gCons (gN 1) MR.gNil))) none Fj) Af))))
noncomputable def Dk:FN:=fnU 2 2 b_lies_below
noncomputable def Ic:FE:=(Ad 0)
noncomputable def Hx:FT:=(O0 (Av 2 Dk (Ac (Ad 0) (Ac (Ad 1) Af))))
noncomputable def b_many_below:FS:=(Bz (A8 Cm (Ac (Bb [none,some 1] (Bm (Ad 0)) (gN 0) (some Hx) Ic) Af)))
noncomputable def Fq:FN:=fnU 2 2 b_many_below
noncomputable def b_room_place_of:FS:=(Bz (Em (Ac (f2 Ar (Ad 0) (fC (.int 1))) (Ac (f2 Ar (Ad 0) (fC (.int 2))) (Ac (f2 Ar (Ad 0) (fC (.int 3))) Af)))))
noncomputable def Cf:FN:=fnU 1 1 b_room_place_of
noncomputable def Hw:FE:=(Av 2 Fq (Ac (Ad 1) (Ac (Ad 0) Af)))
noncomputable def Hy:FE:=(Av 1 Cf (Ac (Ad 0) Af))
noncomputable def b_room_below:FS:=(Ay (Aw (Bb [none] (Bm (Ad 0)) (gN 0) none Hy) (gN 1)) (Bz (A8 A7 (Ac (Bb [none,some 1] (Bm (Ad 1)) (gN 0) none Hw) Af))))
noncomputable def A0:FN:=fnU 2 1 b_room_below
noncomputable def Ib:FE:=(Ad 0)
noncomputable def Ih:FT:=(O0 (Av 2 Dk (Ac (Ad 1) (Ac (Ad 0) Af))))
noncomputable def b_many_above:FS:=(Bz (A8 Cm (Ac (Bb [none,some 1] (Bm (Ad 0)) (gN 0) (some Ih) Ib) Af)))
noncomputable def Eo:FN:=fnU 2 2 b_many_above
noncomputable def Iq:FE:=(f2 Ar (Ad 0) (fC (.int 0)))
noncomputable def Ir:FT:=(Bk (f2 Co (Av 2 Eo (Ac (Ad 1) (Ac (Av 1 Cf (Ac (Ad 0) Af)) Af))) (fC (.int 0))))
noncomputable def Iv:FE:=(Av 1 Cf (Ac (Ad 0) Af))
noncomputable def b_room_best:FS:=(Ay (Aw (Bb [none] (Bm (Ad 0)) (gN 0) none Iv) (gN 1)) (Bz (A8 A7 (Ac (Bb [none,some 1] (Bm (Ad 0)) (gN 0) (some Ir) Iq) Af))))
noncomputable def Ck:FN:=fnU 2 1 b_room_best
noncomputable def Gq:FE:=(f2 Ar (Ad 0) (Ad 1))
noncomputable def C3:FE:=(A8 J9 (Ac (f2 Bd (C5 (Ac (fC (.int 0)) Af)) (Bb [none,some 0] (Bm (Ad 1)) (gN 0) none Gq)) Af))
noncomputable def b_l_more_right:FS:=(Ay (Aw (Bb [none,some 0] (Bm (Em (Ac (fC (.int 1)) (Ac (fC (.int 2)) (Ac (fC (.int 3)) Af))))) (gN 0) none C3) (gN 1)) (Ay (Fw (Bk (f2 Kl (A8 J9 (Ac (Ad 1) Af)) (f2 Gn (f2 Fm (fC (.int 10)) (fC (.int 10))) (fC (.int 1))))) (Bz (fC (.bl true))) Du) (Ay (Aw (fC (.str "topmost")) (gN 2)) (Ay (Aw (f2 Bd (Ad 0) (Em (Ac (Em (Ac (Ad 2) (Ac (f2 Bd (f2 Ar (Ad 1) (fC (.int 0))) (fC (.int 1))) (Ac (f2 Ar (Ad 1) (fC (.int 1))) (Ac (f2 Ar (Ad 1) (fC (.int 2))) Af))))) Af))) (gN 3)) (Ay (Aw (Av 1 A0 (Ac (Ad 3) Af)) (gN 4)) (Bz (U1 (f2 Co (Ad 4) (f2 Bd (Av 1 A0 (Ac (Ad 0) Af)) (Em (Ac (A8 Cm (Ac (Ad 0) Af)) Af)))) (f2 Co (Av 1 Ck (Ac (Ad 3) Af)) (Em (Ac (Ad 2) Af))))))))))
noncomputable def Gc:FN:=fnU 5 1 b_l_more_right
noncomputable def Hs:FS:=(Ay (Aw (f2 Bd (fSl Ge (Ad 4) (B7 (fC (.int 1))) (B7 (f2 Bd (Ad 1) (fC (.int 1))))) (fSl Ge (Ad 4) (B7 (f2 Bd (Ad 1) (fC (.int 2)))) Bl)) (gN 5)) (Ay (Jm (Fn "list" Cr (Ad 2) (Ac (f2 Bd (f2 Bd (fSl Ge (Ad 4) Bl (B7 (f2 Bd (Ad 1) (fC (.int 1))))) (Em (Ac (fC (.int 7)) Af))) (fSl Ge (Ad 4) (B7 (f2 Bd (Ad 1) (fC (.int 2)))) Bl)) Af))) (Jm (Fn "list" Cr (Ad 3) (Ac (f2 Bd (Em (Ac (f2 Ar (Ad 4) (fC (.int 0))) Af)) (Ad 5)) Af)))))
noncomputable def b_l_flat:FS:=(Ay (Aw (C5 Af) (gN 2)) (Ay (Aw (C5 Af) (gN 3)) (Ay (Kq (Bm (Ad 0)) (gN 4) Hs) (Bz (C5 (Ac (A8 A7 (Ac (Ad 2) Af)) (Ac (A8 A7 (Ac (Ad 3) Af)) Af)))))))
noncomputable def Kf:FN:=fnU 6 2 b_l_flat
noncomputable def b_place_of:FS:=(Bz (Em (Ac (f2 Ar (Ad 0) (fC (.int 1))) (Ac (f2 Ar (Ad 0) (fC (.int 2))) Af))))
noncomputable def Ct:FN:=fnU 1 1 b_place_of
noncomputable def Ig:FE:=(Av 2 Fq (Ac (Ad 1) (Ac (Ad 0) Af)))
noncomputable def H9:FE:=(Av 1 Ct (Ac (Ad 0) Af))
noncomputable def b_below_each:FS:=(Ay (Aw (Bb [none] (Bm (Ad 0)) (gN 0) none H9) (gN 1)) (Bz (A8 A7 (Ac (Bb [none,some 1] (Bm (Ad 1)) (gN 0) none Ig) Af))))
noncomputable def Cv:FN:=fnU 2 1 b_below_each
noncomputable def b_pairs_in_all:FS:=(Bz (A8 Ln (Ac (Av 1 Cv (Ac (Ad 0) Af)) Af)))
noncomputable def Ga:FN:=fnU 1 1 b_pairs_in_all
noncomputable def b_room_pairs:FS:=(Bz (A8 Ln (Ac (Av 1 A0 (Ac (Ad 0) Af)) Af)))
noncomputable def Ek:FN:=fnU 1 1 b_room_pairs
noncomputable def Id:FE:=(Av 2 Eo (Ac (Ad 1) (Ac (Ad 0) Af)))
noncomputable def Ie:FE:=(Av 1 Ct (Ac (Ad 0) Af))
noncomputable def b_above_each:FS:=(Ay (Aw (Bb [none] (Bm (Ad 0)) (gN 0) none Ie) (gN 1)) (Bz (A8 A7 (Ac (Bb [none,some 1] (Bm (Ad 1)) (gN 0) none Id) Af))))
noncomputable def Hn:FN:=fnU 2 1 b_above_each
noncomputable def Iz:FE:=(Ad 0)
noncomputable def Ja:FT:=(Bk (f2 Sf (Ad 1) (fC (.int 0))))
noncomputable def Ip:FE:=(f2 Ar (Ad 0) (fC (.int 0)))
noncomputable def Gf:FE:=(Ad 0)
noncomputable def Gm:FT:=(Bk (f2 Co (Ad 1) (fC (.int 0))))
noncomputable def C7:FT:=(O0 (Ad 2))
noncomputable def Fa:FS:=(Ay (Aw (Av 1 Hn (Ac (Ad 2) Af)) (gN 3)) (Ay (Aw (Bb [none,none] (Lx (Ac (Ad 2) (Ac (Ad 3) Af))) (MR.gTup 2 (MR.gCons (gN 0) (MR.gCons (gN 1) MR.gNil))) (some Gm) Gf) (gN 4)) (Ay (Jm (Fn "list" Cr (Ad 1) (Ac (A8 A7 (Ac (Bb [none] (Bm (Oi Ct (Ad 4))) (gN 0) none Ip) Af)) Af))) (Aw (Bb [none,none] (Lx (Ac (Ad 2) (Ac (Ad 3) Af))) (MR.gTup 2 (MR.gCons (gN 0) (MR.gCons (gN 1) MR.gNil))) (some Ja) Iz) (gN 2)))))
noncomputable def b_stairs_of:FS:=(Ay (Aw (C5 Af) (gN 1)) (Ay (Aw (Ad 0) (gN 2)) (Ay (Fh C7 Fa 100000) (Bz (A8 A7 (Ac (Ad 1) Af))))))
noncomputable def Gv:FN:=fnU 5 1 b_stairs_of
noncomputable def Eb:FE:=(fC (.int 1))
noncomputable def Ec:FT:=(Bk (f2 Co (fSl Eu (Ad 0) (B7 (fC (.int 1))) Bl) (fSl Eu (Ad 1) (B7 (fC (.int 1))) Bl)))
noncomputable def Et:FS:=(Fw (Bk (f2 Sf (Ad 5) (f2 Gn (f2 At (Ad 6) (A8 Cm (Ac (Bb [none,some 7] (Bm (Ad 3)) (gN 0) (some Ec) Eb) Af))) (fC (.int 1))))) (Bz (fC (.bl false))) Du)
noncomputable def b_l_plane_right:FS:=(Ay (Aw (Av 2 Kf (Ac (Ad 1) (Ac (Av 2 An (Ac (Ad 0) (Ac (fC (.int 3)) Af))) Af))) (Qd 2 (MR.gCons (gN 2) (MR.gCons (gN 3) MR.gNil)))) (Ay (Fw (fOr (Bk (f2 Bx (Av 1 A0 (Ac (Ad 2) Af)) (Av 1 Cv (Ac (Ad 3) Af)))) (Bk (f2 Bx (Av 1 Ek (Ac (Ad 2) Af)) (Av 1 Ga (Ac (Ad 3) Af))))) (Bz (fC (.bl false))) Du) (Ay (Aw (Av 1 Ck (Ac (Ad 2) Af)) (gN 4)) (Ay (Fw (Om (Bk (f2 Bx (Ad 1) (Em Af))) (Bk (f2 Bx (A8 Eg (Ac (Ad 4) Af)) (A8 Eg (Ac (f2 Ar (Av 1 Gv (Ac (Ad 3) Af)) (fC (.int 0))) Af))))) (Bz (fC (.bl false))) Du) (Ay (Kq (Wd (Ac (Av 1 A0 (Ac (Ad 1) Af)) (Ac (Av 1 Cv (Ac (Ad 3) Af)) (Ac (Ad 3) Af)))) (MR.gTup 3 (MR.gCons (gN 5) (MR.gCons (gN 6) (MR.gCons (gN 7) MR.gNil)))) Et) (Bz (Afx (f2 Bx (Ad 1) (Em Af)) (f2 Co (Ad 4) (Em Af)))))))))
noncomputable def Fg:FN:=fnU 8 2 b_l_plane_right
noncomputable def Fe:FE:=(Av 2 E4 (Ac (Ad 1) (Ac (Ad 2) Af)))
noncomputable def Gh:FS:=(Ay (Aw (Bb [none,some 0,some 2] (C6 (Ac (fC (.int 3)) Af)) (gN 0) none Fe) (gN 6)) (Ay (Fw (Bk (f2 Co (Ad 3) (fC (.int 1)))) (Aw (f2 Bj (C5 (Ac (f2 Ar (Ad 6) (fC (.int 0))) Af)) (fC (.int 3))) (gN 6)) Du) (Ay (Fw (Om (Bk (f2 Bx (Ad 4) (C5 Af))) (Bk (f2 Co (Av 2 An (Ac (Ad 0) (Ac (fC (.int 4)) Af))) (fC (.int 0))))) (Aw (A8 Kh (Ac (fSl Eu (f2 Ar (Ad 4) (Av 2 An (Ac (Ad 0) (Ac (A8 Cm (Ac (Ad 4) Af)) Af)))) (B7 (fC (.int 1))) Bl) Af)) (gN 6)) Du) (Ay (Fw (Om (Bk (f2 Bx (Ad 4) (C5 Af))) (Bk (f2 Co (Av 2 An (Ac (Ad 0) (Ac (fC (.int 3)) Af))) (fC (.int 0))))) (Ay (Aw (Av 2 An (Ac (Ad 0) (Ac (fC (.int 3)) Af))) (gN 7)) (Aw (f2 Ar (f2 Ar (Ad 4) (Av 2 An (Ac (Ad 0) (Ac (A8 Cm (Ac (Ad 4) Af)) Af)))) (f2 At (fC (.int 1)) (Ad 7))) (MR.gSub (Ad 6) (Ad 7)))) Du) (Jm (Fn "list" Cr (Ad 4) (Ac (f2 At (Em (Ac (Ad 5) Af)) (A8 A7 (Ac (Ad 6) Af))) Af)))))))
noncomputable def b_l_room:FS:=(Ay (Aw (Av 2 An (Ac (Ad 0) (Ac (fC (.int 3)) Af))) (gN 2)) (Ay (Aw (Av 2 An (Ac (Ad 0) (Ac (fC (.int 4)) Af))) (gN 3)) (Ay (Aw (C5 Af) (gN 4)) (Ay (Kq (Bm (Av 2 Fz (Ac (Ad 0) (Ac (Av 2 An (Ac (Ad 0) (Ac (f2 At (Ad 1) (fC (.int 1))) Af))) Af)))) (gN 5) Gh) (Bz (A8 A7 (Ac (Ad 4) Af)))))))
noncomputable def Kx:FN:=fnU 8 2 b_l_room
noncomputable def Fi:FE:=(f2 Ar (Ad 0) (fC (.int 0)))
noncomputable def b_l_by_names:FS:=(Bz (Y2 (Ac (Bb [none] (Bm (Ad 0)) (gN 0) none Fi) (Ac (Av 1 A0 (Ac (Ad 0) Af)) Af))))
noncomputable def Ft:FN:=fnU 1 1 b_l_by_names
noncomputable def Ed:FS:=(Fw (Bk (f2 E3 (f2 (Qh false) (f2 Ar (Ad 6) (fC (.int 0))) (Ad 5)) (f2 Co (Ad 7) (fC (.int 0))))) (Bz (fC (.bl false))) Du)
noncomputable def Fo:FE:=(Em (Ac (Ad 0) (Ac (f2 Gn (fC (.int 0)) (Ad 1)) (Ac (f2 Gn (fC (.int 0)) (Ad 2)) (Ac (f2 Gn (fC (.int 0)) (Ad 3)) Af)))))
noncomputable def Fp:FE:=(Em (Ac (Ad 0) (Ac (Ad 2) (Ac (Ad 3) (Ac (Ad 1) Af)))))
noncomputable def b_l_turned_right:FS:=(Ay (Aw (A8 A7 (Ac (Bb [none,none,none,none] (Bm (Ad 1)) (MR.gTup 4 (MR.gCons (gN 0) (MR.gCons (gN 1) (MR.gCons (gN 2) (MR.gCons (gN 3) MR.gNil))))) none Fp) Af)) (gN 2)) (Ay (Aw (Abh (Ad 1)) (gN 3)) (Ay (Fw (fOr (Bk (f2 E3 (Av 1 A0 (Ac (Ad 2) Af)) (Av 1 A0 (Ac (Ad 1) Af)))) (Bk (f2 E3 (Av 1 Ft (Ac (Ad 3) Af)) (Av 1 Ft (Ac (Ad 1) Af))))) (Bz (fC (.bl false))) Du) (Ay (Fw (fOr (Bk (f2 E3 (Av 1 Ck (Ac (Ad 2) Af)) (Av 1 Ck (Ac (Ad 1) Af)))) (Bk (f2 E3 (Av 1 Ck (Ac (Ad 3) Af)) (Abh (Av 1 Ck (Ac (Ad 1) Af)))))) (Bz (fC (.bl false))) Du) (Ay (Aw (A8 A7 (Ac (Bb [none,none,none,none] (Bm (Ad 1)) (MR.gTup 4 (MR.gCons (gN 0) (MR.gCons (gN 1) (MR.gCons (gN 2) (MR.gCons (gN 3) MR.gNil))))) none Fo) Af)) (gN 4)) (Ay (Fw (Bk (f2 E3 (Av 1 Ek (Ac (Ad 4) Af)) (Av 1 Ek (Ac (Ad 1) Af)))) (Bz (fC (.bl false))) Du) (Ay (Aw (Av 1 Ck (Ac (Ad 1) Af)) (gN 5)) (Ay (Kq (Nm (Ac (Ad 1) (Ac (Av 1 A0 (Ac (Ad 4) Af)) Af))) (MR.gTup 2 (MR.gCons (gN 6) (MR.gCons (gN 7) MR.gNil))) Ed) (Bz (fC (.bl true)))))))))))
noncomputable def Ey:FN:=fnU 8 2 b_l_turned_right
noncomputable def Mz:FS:=(Ay (Aw (Av 2 Kx (Ac (Ad 1) (Ac (f2 Ar (C5 (Ac (fC (.int 12)) (Ac (fC (.int 12)) (Ac (fC (.int 12)) (Ac (fC (.int 40)) Af))))) (Av 2 An (Ac (Ad 1) (Ac (fC (.int 4)) Af)))) Af))) (gN 3)) (Ay (Fw (fOr (Xs (O0 (Av 2 Fg (Ac (Ad 1) (Ac (Ad 3) Af))))) (Xs (O0 (Av 2 Ey (Ac (Ad 1) (Ac (Ad 3) Af)))))) (Bz (fC (.bl false))) Du) (Fw (Xs (O0 (Av 1 Gc (Ac (Ad 3) Af)))) (Bz (fC (.bl false))) Du)))
noncomputable def b_law:FS:=(Ay (Aw (Av 1 K3 (Ac (Ad 0) Af)) (gN 1)) (Ay (Kq (C6 (Ac (fC (.int 3)) Af)) (gN 2) Mz) (Bz (fC (.bl true)))))
noncomputable def U9:FN:=fnU 4 1 b_law
abbrev P4:=Str × Int × Int × Int
noncomputable def p4U (p:P4):U:=.tup [.str p.1,.int p.2.1,.int p.2.2.1,.int p.2.2.2]
noncomputable def l3 (a:Int × Int × Int):List U:=[.int a.1,.int a.2.1,.int a.2.2]
theorem Aiq {p:P4} (h:Low p.1):Pl 6 (p4U p):=by
  unfold p4U
  rw [E6]
  intro u hu
  simp only [List.mem_cons,List.not_mem_nil,or_false] at hu
  rcases hu with rfl | rfl | rfl | rfl
  · show Pl 5 (.str p.1)
    simpa [Pl] using h.ok
  · exact Pl.int _ _
  · exact Pl.int _ _
  · exact Pl.int _ _
theorem Wt {M:UH} {f:Nat} {ps:List P4} (h:M[f]? = some (.lst (ps.map p4U))) (hw:∀ p ∈ ps,Low p.1):Bx (.ref f) (.ref M.length) (M ++ [.lst []]) = some (.bl (!ps.isEmpty),M ++ [.lst []]):=by
  have q1:Ao (M ++ [HU.lst []]) f = some (ps.map p4U):=Aq ((Gw.new M _).get h)
  have q2:Ao (M ++ [HU.lst []]) M.length = some []:=Aq (by simp)
  have hp:∀ u ∈ ps.map p4U,Pl 6 u:=fun u hu=>by obtain ⟨a,ha,rfl⟩:=List.mem_map.mp hu; exact Aiq (hw a ha)
  have hp0:∀ u ∈ ([]:List U),Pl 6 u:=fun u hu=>by cases hu
  rw [P7 q1 q2 hp hp0]
  cases ps with
  | nil=>rfl
  | cons p ps=>
    have:X4 ((p :: ps).map p4U) [] = false:=by
      have:=(S6 (us:=(p :: ps).map p4U) (ws:=[]) hp hp0)
      cases hq:X4 ((p :: ps).map p4U) [] with
      | false=>rfl
      | true=>exact absurd (this.mp hq) (by simp)
    rw [this]; rfl
theorem Tq {L:UH} {d:Nat} {B kind:Int} (D:Gdk L d B) (hB:B ≤ 100000000) (hk:kind = 0 ∨ kind = 1 ∨ kind = 2) (x1 x3 x4 x5 x6 x7:Option U) :
    ∃ (r:Nat) (a:Int × Int × Int) (L':UH),Bb [none,some 0,some 2] (C6 (Ac (fC (.int 3)) Af)) (gN 0) none Fe [some (.ref d),x1,some (.int kind),x3,x4,x5,x6,x7] L = some (.ref r,L') ∧ L'[r]? = some (.lst (l3 a)) ∧ Gdk L' d (B + 9) ∧ Ex d L L' ∧ L.length ≤ r:=by
  have hi:C6 (Ac (fC (.int 3)) Af) [some (.ref d),x1,some (.int kind),x3,x4,x5,x6,x7] L = some (.seq (Cc 0 3),L):=I0 (n:=3) rfl (by omega)
  obtain ⟨us,δ',M',e,⟨z,hδ⟩,ns,hns,hln,DM,xM⟩:=Vv (ix:=[none,some 0,some 2]) (it:=.seq (Cc 0 3)) (g:=gN 0) (tt:=none) (fe:=Fe) (us:=Cc 0 3) (δ:=[some (.ref d),x1,some (.int kind),x3,x4,x5,x6,x7]) (L:=L) (L0:=L)
      (fun k acc δ' M=>(∃ z,δ' = [z,some (.ref d),some (.int kind)]) ∧ ∃ (ns:List Int),acc = ns.map U.int ∧ ns.length = k ∧ Gdk M d (B + 3 * k) ∧ Ex d L M)
      hi (by simp [IU.size]) ⟨⟨none,rfl⟩,[],rfl,rfl,by simpa using D,Ex.refl d L⟩
      (fun k acc δ L _ _=>rfl)
      (fun k u acc δ M hu ⟨⟨z,hδ⟩,ns,hns,hln,DM,xM⟩=>by
        subst hδ
        obtain ⟨hk',rfl⟩:=Go hu
        obtain ⟨r,M',e1,D',x'⟩:=Wv DM (by omega) hk
        have ha:acc.length < 16777216:=by rw [hns,List.length_map,hln]; omega
        refine ⟨[some (.int (0 + k)),some (.ref d),some (.int kind)],M,rfl,true,M,rfl,fun _=>⟨.int r,M',?_,ha,⟨_,rfl⟩,ns ++ [r],by simp [hns],by simp [hln],?_,xM.trans x'⟩,fun h=>by cases h⟩
        · unfold Fe
          simp only [fOwn_eq,fCons_eq,fNil_eq,fVar_eq,List.getElem?_cons_succ,List.getElem?_cons_zero,Option.join_some,Option.map_some,Option.bind_some,List.length_cons,List.length_nil,if_true,e1]
        · have:B + 3 * ((k + 1:Nat):Int) = B + 3 * (k:Int) + 3:=by omega
          rw [this]; exact D')
  rw [Hm] at hln DM
  match ns,hln with
  | [a,b,c],_=>exact ⟨_,(a,b,c),_,e,by rw [hns]; simp [l3],DM.new _,xM.trans (Ex.new d _ _),xM.le⟩
theorem Afa (p:P4) {i:Int} (h0:0 ≤ i) (h1:i < 3):∃ v:Int,L2.atI [U.str p.1,.int p.2.1,.int p.2.2.1,.int p.2.2.2] (1 + i) = some (.int v):=by
  have:i = 0 ∨ i = 1 ∨ i = 2:=by omega
  rcases this with rfl | rfl | rfl
  · exact ⟨p.2.1,rfl⟩
  · exact ⟨p.2.2.1,rfl⟩
  · exact ⟨p.2.2.2,rfl⟩
theorem V0 {L:UH} {d f:Nat} {B:Int} {ps:List P4} (D:Gdk L d B) (hB:B ≤ 100000000) (hf:L[f]? = some (.lst (ps.map p4U))) (hfd:f ≠ d) (hp:ps ≠ []) (hs:ps.length ≤ 1000) {δ:UE} (h0:∀ M,Ad 0 δ M = some (.ref d,M)) (h4:∀ M,Ad 4 δ M = some (.ref f,M)) :
    ∃ (p:P4) (L':UH),(f2 Ar (Ad 4) (Av 2 An (Ac (Ad 0) (Ac (A8 Cm (Ac (Ad 4) Af)) Af)))) δ L = some (p4U p,L') ∧ Gdk L' d (B + 1) ∧ Ex d L L':=by
  have hpos:0 < ps.length:=List.length_pos_iff.mpr hp
  obtain ⟨i,L1,e1,i0,i1,D1,x1⟩:=B8 (many:=((ps.map p4U).length:Nat)) D (by omega) (by simp; omega) (by simp; omega)
  have hf1:=x1.get hf hfd
  have hlen:=Mv hf
  rw [List.length_map] at i1
  have hix:L2.atI (ps.map p4U) i = some (p4U (ps[i.toNat]'(by omega))):=by
    rw [Lj i0 (by rw [List.length_map]; omega),List.getElem?_map,List.getElem?_eq_getElem (by omega)]; rfl
  refine ⟨ps[i.toNat]'(by omega),L1,?_,D1,x1⟩
  rw [f2_eq,h4,Option.bind_some,fOwn_eq,fCons_eq,h0]
  simp only [Option.bind_some,fCons_eq,fCall_eq,h4,fNil_eq,Option.map_some,hlen,List.length_cons,List.length_nil,if_true,e1,semIx_ref,Aq hf1,hix]
structure St (M:UH) (d f r:Nat) (B:Int) (ps:List P4) (a:Int × Int × Int):Prop where
  D:Gdk M d B
  hf:M[f]? = some (.lst (ps.map p4U))
  hr:M[r]? = some (.lst (l3 a))
  fd:f ≠ d
  rd:r ≠ d
  rf:r ≠ f
  hs:ps.length ≤ 100
  hw:∀ p ∈ ps,Low p.1
theorem St.new {M:UH} {d f r:Nat} {B:Int} {ps:List P4} {a:Int × Int × Int} (S:St M d f r B ps a) (x:UH):St (M ++ x) d f r B ps a:=⟨S.D.new x,(Gw.new M x).get S.hf,(Gw.new M x).get S.hr,S.fd,S.rd,S.rf,S.hs,S.hw⟩
theorem St.ex {M M':UH} {d f r:Nat} {B B':Int} {ps:List P4} {a:Int × Int × Int} (S:St M d f r B ps a) (x:Ex d M M') (D:Gdk M' d B'):St M' d f r B' ps a:=⟨D,x.get S.hf S.fd,x.get S.hr S.rd,S.fd,S.rd,S.rf,S.hs,S.hw⟩
theorem St.mono {M:UH} {d f r:Nat} {B B':Int} {ps:List P4} {a:Int × Int × Int} (S:St M d f r B ps a) (h:B ≤ B'):St M d f r B' ps a:=⟨S.D.mono h,S.hf,S.hr,S.fd,S.rd,S.rf,S.hs,S.hw⟩
noncomputable def rm2:FS:=(Fw (Bk (f2 Co (Ad 3) (fC (.int 1)))) (Aw (f2 Bj (C5 (Ac (f2 Ar (Ad 6) (fC (.int 0))) Af)) (fC (.int 3))) (gN 6)) Du)
theorem Ahd {M:UH} {d f r:Nat} {B way:Int} {ps:List P4} {a:Int × Int × Int} (S:St M d f r B ps a) (x0 x1 x2 x4 x5 x7:Option U) :
    ∃ (r':Nat) (a':Int × Int × Int) (M':UH),rm2 [x0,x1,x2,some (.int way),x4,x5,some (.ref r),x7] M = some (.nx [x0,x1,x2,some (.int way),x4,x5,some (.ref r'),x7],M') ∧ St M' d f r' B ps a' ∧ Gw M M' ∧ (r' = r ∨ M.length ≤ r'):=by
  have sm1:∀ x:U,B9 [x].length = true:=fun _=>small_of (by show 1 ≤ 16777216; decide)
  by_cases h:way = 1
  · subst h
    have i0:L2.atI (l3 a) 0 = some (.int a.1):=rfl
    have hl:(C5 (Ac (f2 Ar (Ad 6) (fC (.int 0))) Af)) [x0,x1,x2,some (.int 1),x4,x5,some (.ref r),x7] M = some (.ref M.length,M ++ [.lst [.int a.1]]):=by
      simp only [fLst_eq,fCons_eq,f2_eq,fVar_eq,fC_eq,fNil_eq,List.getElem?_cons_succ,List.getElem?_cons_zero,Option.join_some,Option.map_some,Option.bind_some,semIx_ref,Aq S.hr,i0]
      rw [if_pos (sm1 _)]
    have q1:(M ++ [HU.lst [.int a.1]])[M.length]? = some (.lst [.int a.1]):=by simp
    have hmul:Bj (.ref M.length) (.int 3) (M ++ [.lst [.int a.1]]) = some (.ref (M ++ [HU.lst [.int a.1]]).length,M ++ [.lst [.int a.1]] ++ [.lst (l3 (a.1,a.1,a.1))]):=by
      unfold Bj
      simp only [Dd q1,Option.bind_some]
      rw [if_pos ⟨by decide,by decide,small_of (by show 1 * 3 ≤ 16777216; decide)⟩]
      rfl
    have S':=(S.new [HU.lst [.int a.1]]).new [HU.lst (l3 (a.1,a.1,a.1))]
    have hlt:=S.D.lt
    have hfl:=(List.getElem?_eq_some_iff.mp S.hf).1
    refine ⟨(M ++ [HU.lst [.int a.1]]).length,(a.1,a.1,a.1),M ++ [.lst [.int a.1]] ++ [.lst (l3 (a.1,a.1,a.1))],?_,⟨S'.D,S'.hf,by simp,S.fd,by simp; omega,by simp; omega,S.hs,S.hw⟩,(Gw.new _ _).trans (Gw.new _ _),.inr (by simp)⟩
    have t:(f2 Co (Ad 3) (fC (.int 1))) [x0,x1,x2,some (.int 1),x4,x5,some (.ref r),x7] M = some (.bl true,M):=rfl
    unfold rm2
    rw [E8,fTest_eq,t]
    simp only [Option.bind_some,if_true]
    rw [fAsg_eq,f2_eq,hl]
    simp only [Option.bind_some,fC_eq,hmul,gN_eq,List.set_cons_succ,List.set_cons_zero,Option.map_some]
  · refine ⟨r,a,M,?_,S,Gw.refl M,.inl rfl⟩
    have t:(f2 Co (Ad 3) (fC (.int 1))) [x0,x1,x2,some (.int way),x4,x5,some (.ref r),x7] M = some (.bl false,M):=by
      have:(way == (1:Int)) = false:=by simpa using h
      simp only [f2_eq,fVar_eq,fC_eq,List.getElem?_cons_succ,List.getElem?_cons_zero,Option.join_some,Option.map_some,Option.bind_some,semEq_int,this]
    unfold rm2
    simp only [E8,fTest_eq,t,Option.bind_some,Bool.false_eq_true,if_false,N4]
theorem V2 {M:UH} {d f:Nat} {B c:Int} {ps:List P4} (D:Gdk M d B) (hB:B ≤ 100000000) (hf:M[f]? = some (.lst (ps.map p4U))) (hw:∀ p ∈ ps,Low p.1) (h0:0 < c) (h1:c < 1000) {δ:UE} (v0:∀ M,Ad 0 δ M = some (.ref d,M)) (v4:∀ M,Ad 4 δ M = some (.ref f,M)) :
    ∃ (b:Bool) (M':UH),(Om (Bk (f2 Bx (Ad 4) (C5 Af))) (Bk (f2 Co (Av 2 An (Ac (Ad 0) (Ac (fC (.int c)) Af))) (fC (.int 0))))) δ M = some (b,M') ∧ (b = true → ps ≠ []) ∧ Gdk M' d (B + 1) ∧ Ex d M M':=by
  have sm0:B9 ([]:List U).length = true:=small_of (by show 0 ≤ 16777216; decide)
  have hl:∀ M,(C5 Af) δ M = some (.ref M.length,M ++ [.lst []]):=fun M=>by rw [fLst_eq,fNil_eq,Option.bind_some,if_pos sm0]
  have hne:=Wt hf hw
  have t1:(f2 Bx (Ad 4) (C5 Af)) δ M = some (.bl (!ps.isEmpty),M ++ [.lst []]):=by
    rw [f2_eq,v4,Option.bind_some,hl,Option.bind_some,hne]
  cases hps:ps.isEmpty with
  | true=>
    rw [hps] at t1
    refine ⟨false,M ++ [.lst []],?_,(fun h=>by cases h),(D.new _).mono (by omega),Ex.new d M _⟩
    simp only [Mw,fTest_eq,t1,Option.bind_some,Bool.not_true,Bool.false_eq_true,if_false]
  | false=>
    rw [hps] at t1
    obtain ⟨i,M2,e1,i0,i1,D1,x1⟩:=B8 (many:=c) (D.new [HU.lst []]) (by omega) h0 (by omega)
    refine ⟨i == 0,M2,?_,(fun _=>by intro h; rw [h] at hps; cases hps),D1,(Ex.new d M _).trans x1⟩
    have t2:(f2 Co (Av 2 An (Ac (Ad 0) (Ac (fC (.int c)) Af))) (fC (.int 0))) δ (M ++ [.lst []]) = some (.bl (i == 0),M2):=by
      rw [f2_eq,K0 (i:=0) (v0 _) e1]
      simp only [Option.bind_some,fC_eq,semEq_int]
    simp only [Mw,fTest_eq,t1,Option.bind_some,Bool.not_false,if_true,t2]
noncomputable def Rr:FE:=(f2 Ar (Ad 4) (Av 2 An (Ac (Ad 0) (Ac (A8 Cm (Ac (Ad 4) Af)) Af))))
noncomputable def rm3:FS:=(Fw (Om (Bk (f2 Bx (Ad 4) (C5 Af))) (Bk (f2 Co (Av 2 An (Ac (Ad 0) (Ac (fC (.int 4)) Af))) (fC (.int 0))))) (Aw (A8 Kh (Ac (fSl Eu Rr (B7 (fC (.int 1))) Bl) Af)) (gN 6)) Du)
theorem Age (p:P4) (M:UH):Eu (p4U p) (some 1) none M = some (.tup (l3 p.2),M):=rfl
theorem Afu {M:UH} {d f r:Nat} {B:Int} {ps:List P4} {a:Int × Int × Int} (S:St M d f r B ps a) (hB:B ≤ 10000000) (x1 x2 x3 x5 x7:Option U) :
    ∃ (r':Nat) (a':Int × Int × Int) (M':UH),rm3 [some (.ref d),x1,x2,x3,some (.ref f),x5,some (.ref r),x7] M = some (.nx [some (.ref d),x1,x2,x3,some (.ref f),x5,some (.ref r'),x7],M') ∧ St M' d f r' (B + 2) ps a' ∧ Ex d M M' ∧ (r' = r ∨ M.length ≤ r'):=by
  obtain ⟨b,M1,e1,hb,D1,x1'⟩:=V2 (c:=4) S.D (by omega) S.hf S.hw (by decide) (by decide) (δ:=[some (.ref d),x1,x2,x3,some (.ref f),x5,some (.ref r),x7]) (fun _=>rfl) (fun _=>rfl)
  have S1:=S.ex x1' D1
  cases b with
  | false=>
    refine ⟨r,a,M1,?_,S1.mono (by omega),x1',.inl rfl⟩
    unfold rm3
    rw [E8,e1]
    simp only [Option.bind_some,Bool.false_eq_true,if_false,N4]
  | true=>
    obtain ⟨p,M2,e2,D2,x2'⟩:=V0 S1.D (by omega) S1.hf S1.fd (hb rfl) (by have:=S1.hs; omega) (δ:=[some (.ref d),x1,x2,x3,some (.ref f),x5,some (.ref r),x7]) (fun _=>rfl) (fun _=>rfl)
    have S2:=(S1.ex x2' D2).new [HU.lst (l3 p.2)]
    have hlt:=D2.lt
    have hfl:=(List.getElem?_eq_some_iff.mp (S1.ex x2' D2).hf).1
    have hle:=x1'.le
    have hle2:=x2'.le
    refine ⟨M2.length,p.2,M2 ++ [.lst (l3 p.2)],?_,⟨S2.D.mono (by omega),S2.hf,by simp,S2.fd,by omega,by omega,S2.hs,S2.hw⟩,(x1'.trans x2').trans (Ex.new d M2 _),.inr (by omega)⟩
    have e2':Rr [some (.ref d),x1,x2,x3,some (.ref f),x5,some (.ref r),x7] M1 = some (p4U p,M2):=e2
    have hc:=Age p M2
    have hls:Kh [.tup (l3 p.2)] M2 = some (.ref M2.length,M2 ++ [.lst (l3 p.2)]):=rfl
    unfold rm3
    rw [E8,e1]
    simp only [Option.bind_some,if_true]
    rw [fAsg_eq,fCall_eq,fCons_eq,fSl_eq,e2']
    simp only [Option.bind_some,fPart_eq,fC_eq,fNoPart_eq,Option.map_some,hc,fNil_eq,hls,gN_eq,List.set_cons_succ,List.set_cons_zero]
noncomputable def rm4:FS:=(Fw (Om (Bk (f2 Bx (Ad 4) (C5 Af))) (Bk (f2 Co (Av 2 An (Ac (Ad 0) (Ac (fC (.int 3)) Af))) (fC (.int 0))))) (Ay (Aw (Av 2 An (Ac (Ad 0) (Ac (fC (.int 3)) Af))) (gN 7)) (Aw (f2 Ar Rr (f2 At (fC (.int 1)) (Ad 7))) (MR.gSub (Ad 6) (Ad 7)))) Du)
theorem Af4 (a:Int × Int × Int) {i v:Int} (h0:0 ≤ i) (h1:i < 3):∃ (j:Nat) (a':Int × Int × Int),ixN (l3 a).length i = some j ∧ (l3 a).set j (.int v) = l3 a':=by
  have:i = 0 ∨ i = 1 ∨ i = 2:=by omega
  rcases this with rfl | rfl | rfl
  · exact ⟨0,(v,a.2.1,a.2.2),rfl,rfl⟩
  · exact ⟨1,(a.1,v,a.2.2),rfl,rfl⟩
  · exact ⟨2,(a.1,a.2.1,v),rfl,rfl⟩
end Lw
set_option Elab.async false
set_option linter.all false
set_option maxRecDepth 100000
set_option maxHeartbeats 1000000
namespace Lw
open PySem L2 MR
theorem Agi {M:UH} {d f r:Nat} {B:Int} {ps:List P4} {a:Int × Int × Int} (S:St M d f r B ps a) (hB:B ≤ 10000000) (x1 x2 x3 x5 x7:Option U) :
    ∃ (y7:Option U) (a':Int × Int × Int) (M':UH),rm4 [some (.ref d),x1,x2,x3,some (.ref f),x5,some (.ref r),x7] M = some (.nx [some (.ref d),x1,x2,x3,some (.ref f),x5,some (.ref r),y7],M') ∧ St M' d f r (B + 3) ps a' ∧ (∀ L,Ex d L M → L.length ≤ r → Ex d L M'):=by
  obtain ⟨b,M1,e1,hb,D1,x1'⟩:=V2 (c:=3) S.D (by omega) S.hf S.hw (by decide) (by decide) (δ:=[some (.ref d),x1,x2,x3,some (.ref f),x5,some (.ref r),x7]) (fun _=>rfl) (fun _=>rfl)
  have S1:=S.ex x1' D1
  cases b with
  | false=>
    refine ⟨x7,a,M1,?_,S1.mono (by omega),fun L e _=>e.trans x1'⟩
    unfold rm4
    rw [E8,e1]
    simp only [Option.bind_some,Bool.false_eq_true,if_false,N4]
  | true=>
    obtain ⟨i,M2,e2,i0,i1,D2,x2'⟩:=B8 (many:=3) S1.D (by omega) (by decide) (by decide)
    have S2:=S1.ex x2' D2
    have s1:=Fk (i:=7) (K0 (i:=0) (δ:=[some (.ref d),x1,x2,x3,some (.ref f),x5,some (.ref r),x7]) rfl e2)
    simp only [List.set_cons_succ,List.set_cons_zero] at s1
    obtain ⟨p,M3,e3,D3,x3'⟩:=V0 S2.D (by omega) S2.hf S2.fd (hb rfl) (by have:=S2.hs; omega) (δ:=[some (.ref d),x1,x2,x3,some (.ref f),x5,some (.ref r),some (.int i)]) (fun _=>rfl) (fun _=>rfl)
    have S3:=S2.ex x3' D3
    have e3':Rr [some (.ref d),x1,x2,x3,some (.ref f),x5,some (.ref r),some (.int i)] M2 = some (p4U p,M3):=e3
    obtain ⟨v,hv⟩:=Afa p i0 i1
    have hix:Ar (p4U p) (.int (1 + i)) M3 = some (.int v,M3):=by
      show (L2.atI [U.str p.1,.int p.2.1,.int p.2.2.1,.int p.2.2.2] (1 + i)).map _ = _
      rw [hv]; rfl
    obtain ⟨j,a',hj,ha'⟩:=Af4 a (v:=v) i0 i1
    have hrl:=(List.getElem?_eq_some_iff.mp S3.hr).1
    refine ⟨some (.int i),a',M3.set r (.lst (l3 a')),?_,⟨(D3.set S3.rd _).mono (by omega),by rw [List.getElem?_set_ne S3.rf]; exact S3.hf,List.getElem?_set_self hrl,S3.fd,S3.rd,S3.rf,S3.hs,S3.hw⟩,fun L e hL=>(e.trans (x1'.trans (x2'.trans x3'))).set hL _⟩
    have s2:(Aw (f2 Ar Rr (f2 At (fC (.int 1)) (Ad 7))) (MR.gSub (Ad 6) (Ad 7))) [some (.ref d),x1,x2,x3,some (.ref f),x5,some (.ref r),some (.int i)] M2 = some (.nx [some (.ref d),x1,x2,x3,some (.ref f),x5,some (.ref r),some (.int i)],M3.set r (.lst (l3 a'))):=by
      rw [fAsg_eq,f2_eq,e3']
      simp only [Option.bind_some,f2_eq,fC_eq,fVar_eq,List.getElem?_cons_succ,List.getElem?_cons_zero,Option.join_some,Option.map_some,semAdd_int,hix,gSub_eq,Dd S3.hr,hj,ha']
    unfold rm4
    rw [E8,e1]
    simp only [Option.bind_some,if_true]
    rw [Al s1]
    exact s2
noncomputable def rm5:FS:=(Jm (Fn "list" Cr (Ad 4) (Ac (f2 At (Em (Ac (Ad 5) Af)) (A8 A7 (Ac (Ad 6) Af))) Af)))
theorem Af2 {M:UH} {d f r:Nat} {B:Int} {ps:List P4} {a:Int × Int × Int} (S:St M d f r B ps a) (name:Str) (x0 x1 x2 x3 x7:Option U) :
    rm5 [x0,x1,x2,x3,some (.ref f),some (.str name),some (.ref r),x7] M = some (.nx [x0,x1,x2,x3,some (.ref f),some (.str name),some (.ref r),x7],M.set f (.lst ((ps ++ [(name,a)]).map p4U))):=by
  have sm1:∀ x:U,B9 [x].length = true:=fun _=>small_of (by show 1 ≤ 16777216; decide)
  have t1:(Em (Ac (Ad 5) Af)) [x0,x1,x2,x3,some (.ref f),some (.str name),some (.ref r),x7] M = some (.tup [.str name],M):=by
    simp only [Jf,fCons_eq,fVar_eq,fNil_eq,List.getElem?_cons_succ,List.getElem?_cons_zero,Option.join_some,Option.map_some,Option.bind_some]
    rw [if_pos (sm1 _)]
  have t2:A7 [.ref r] M = some (.tup (l3 a),M):=by simp only [A7,Aq S.hr,Option.map_some]
  have t3:At (.tup [.str name]) (.tup (l3 a)) M = some (p4U (name,a),M):=by
    unfold At
    simp only
    rw [if_pos ⟨rfl,small_of (by show 1 + 3 ≤ 16777216; decide)⟩]
    rfl
  have ap:=Lr (p4U (name,a)) S.hf (by simp; have:=S.hs; omega)
  have hm:ps.map p4U ++ [p4U (name,a)] = (ps ++ [(name,a)]).map p4U:=by simp
  rw [hm] at ap
  have ty:=Mq S.hf
  unfold rm5
  rw [Oh,fMeth_eq]
  simp only [fVar_eq,List.getElem?_cons_succ,List.getElem?_cons_zero,Option.join_some,Option.map_some,Option.bind_some,ty,if_true]
  rw [fCons_eq,f2_eq,t1]
  simp only [Option.bind_some,fCall_eq,fCons_eq,fVar_eq,List.getElem?_cons_succ,List.getElem?_cons_zero,Option.join_some,Option.map_some,fNil_eq,t2,t3,ap]
theorem Wf {M:UH} {d f:Nat} {B kind way:Int} {ps:List P4} (D:Gdk M d B) (hB:B ≤ 1000000) (hf:M[f]? = some (.lst (ps.map p4U))) (hfd:f ≠ d) (hs:ps.length ≤ 99) (hw:∀ p ∈ ps,Low p.1) (hk:kind = 0 ∨ kind = 1 ∨ kind = 2) (name:Str) (hn:Low name) (x1 x6 x7:Option U) :
    ∃ (y6 y7:Option U) (a:Int × Int × Int) (M':UH),Gh [some (.ref d),x1,some (.int kind),some (.int way),some (.ref f),some (.str name),x6,x7] M = some (.nx [some (.ref d),x1,some (.int kind),some (.int way),some (.ref f),some (.str name),y6,y7],M') ∧ Gdk M' d (B + 14) ∧ M'[f]? = some (.lst ((ps ++ [(name,a)]).map p4U)) ∧ (∀ L,Ex d L M → L.length ≤ f → Ex d L M') ∧ (∀ n o,n ≠ d → n ≠ f → M[n]? = some o → M'[n]? = some o):=by
  obtain ⟨r,a,M1,e1,h1,D1,x1',hr⟩:=Tq D (by omega) hk x1 (some (.int way)) (some (.ref f)) (some (.str name)) x6 x7
  have hdl:=D.lt
  have hfl:=(List.getElem?_eq_some_iff.mp hf).1
  have s1:=Fk (i:=6) e1
  simp only [List.set_cons_succ,List.set_cons_zero] at s1
  have S1:St M1 d f r (B + 9) ps a:=⟨D1,x1'.get hf hfd,h1,hfd,by omega,by omega,by omega,hw⟩
  obtain ⟨r2,a2,M2,e2,S2,g2,hr2⟩:=Ahd (way:=way) S1 (some (.ref d)) x1 (some (.int kind)) (some (.ref f)) (some (.str name)) x7
  obtain ⟨r3,a3,M3,e3,S3,x3',hr3⟩:=Afu S2 (by omega) x1 (some (.int kind)) (some (.int way)) (some (.str name)) x7
  obtain ⟨y7,a4,M4,e4,S4,h4⟩:=Agi S3 (by omega) x1 (some (.int kind)) (some (.int way)) (some (.str name)) x7
  have e5:=Af2 S4 name (some (.ref d)) x1 (some (.int kind)) (some (.int way)) y7
  have hle1:=x1'.le
  have hle2:=g2.le
  have hr3':M.length ≤ r3:=by rcases hr3 with rfl | h <;> rcases hr2 with rfl | h' <;> omega
  have hf4:=(List.getElem?_eq_some_iff.mp S4.hf).1
  refine ⟨some (.ref r3),y7,a4,M4.set f (.lst ((ps ++ [(name,a4)]).map p4U)),?_,(S4.D.set hfd _).mono (by omega),List.getElem?_set_self hf4,fun L e hL=>(h4 L (e.trans ((x1'.trans (g2.ex d)).trans x3')) (by have:=e.le; omega)).set hL _,fun n o hn1 hn2 ho=>by rw [List.getElem?_set_ne (Ne.symm hn2)]; exact (h4 M ((x1'.trans (g2.ex d)).trans x3') hr3').get ho hn1⟩
  have hb:Gh = Ay (Aw (Bb [none,some 0,some 2] (C6 (Ac (fC (.int 3)) Af)) (gN 0) none Fe) (gN 6)) (Ay rm2 (Ay rm3 (Ay rm4 rm5))):=rfl
  rw [hb,Al s1,Al e2,Al e3,Al e4]
  exact e5
theorem Adk {L:UH} {d most:Nat} {B:Int} (D:Gdk L d B) (hB:B ≤ 100000) (hm:most ≤ 60) :
    ∃ (ps:List P4) (L':UH),Kx [.ref d,.int most] L = some (.tup (ps.map p4U),L') ∧ ps.length ≤ 60 ∧ ps.length ≤ most ∧ (ps.map (·.1)).Nodup ∧ (∀ p ∈ ps,Low p.1) ∧ Gdk L' d (B + 1000) ∧ Ex d L L':=by
  have sm0:B9 ([]:List U).length = true:=small_of (by show 0 ≤ 16777216; decide)
  obtain ⟨kind,L1,e1,k0,k1,D1,x1⟩:=B8 (many:=3) D (by omega) (by decide) (by decide)
  have s1:=Fk (i:=2) (K0 (i:=0) (δ:=[some (.ref d),some (.int most),none,none,none,none,none,none]) rfl e1)
  obtain ⟨way,L2',e2,w0,w1,D2,x2⟩:=B8 (many:=4) D1 (by omega) (by decide) (by decide)
  have s2:=Fk (i:=3) (K0 (i:=0) (δ:=[some (.ref d),some (.int most),some (.int kind),none,none,none,none,none]) rfl e2)
  have s3:(Aw (C5 Af) (gN 4)) [some (.ref d),some (.int most),some (.int kind),some (.int way),none,none,none,none] L2' = some (.nx [some (.ref d),some (.int most),some (.int kind),some (.int way),some (.ref L2'.length),none,none,none],L2' ++ [.lst []]):=by
    rw [fAsg_eq,fLst_eq,fNil_eq,Option.bind_some,if_pos sm0]; rfl
  simp only [List.set_cons_succ,List.set_cons_zero] at s1 s2
  have D3:=D2.new [HU.lst []]
  have hl2:=D2.lt
  obtain ⟨m,L4,e4,m0,m1,D4,x4⟩:=B8 (many:=(most:Int) + 1) D3 (by omega) (by omega) (by omega)
  obtain ⟨n,names,L5,e5,h5,hln,hnod,hlow,D5,x5,hn5⟩:=Yk (many:=m.toNat) D4 (by omega) (by omega)
  have hmn:((m.toNat:Nat):Int) = m:=by omega
  rw [hmn] at e5
  have hle4:=x4.le
  have hi:(Bm (Av 2 Fz (Ac (Ad 0) (Ac (Av 2 An (Ac (Ad 0) (Ac (f2 At (Ad 1) (fC (.int 1))) Af))) Af)))) [some (.ref d),some (.int most),some (.int kind),some (.int way),some (.ref L2'.length),none,none,none] (L2' ++ [.lst []]) = some (.ref n,L5):=by
    have v0:Ad 0 [some (.ref d),some (.int most),some (.int kind),some (.int way),some (.ref L2'.length),none,none,none] (L2' ++ [.lst []]) = some (.ref d,L2' ++ [.lst []]):=rfl
    have hd:(Av 2 An (Ac (Ad 0) (Ac (f2 At (Ad 1) (fC (.int 1))) Af))) [some (.ref d),some (.int most),some (.int kind),some (.int way),some (.ref L2'.length),none,none,none] (L2' ++ [.lst []]) = some (.int m,L4):=by
      rw [fOwn_eq,fCons_eq,v0]
      simp only [Option.bind_some,fCons_eq,f2_eq,fC_eq,fVar_eq,fNil_eq,List.getElem?_cons_succ,List.getElem?_cons_zero,Option.join_some,Option.map_some,semAdd_int,List.length_cons,List.length_nil,if_true,e4]
    rw [Hi,fOwn_eq,fCons_eq,v0,Option.bind_some,fCons_eq,hd]
    simp only [Option.bind_some,fNil_eq,Option.map_some,List.length_cons,List.length_nil,if_true,e5,Jb (Aq h5)]
  have hk3:kind = 0 ∨ kind = 1 ∨ kind = 2:=by omega
  have hf5:L5[L2'.length]? = some (.lst []):=x5.get (x4.get (by simp) (by omega)) (by omega)
  have hnd:n ≠ d:=by have:=D4.lt; omega
  have hnf:L2'.length ≠ n:=by simp at hle4; omega
  obtain ⟨δ',L6,e6,P⟩:=V8 (us:=names.map U.str) (body:=Gh) (g:=gN 5)
    (fun k δ' M=>∃ (y5 y6 y7:Option U) (ps:List P4),δ' = [some (.ref d),some (.int most),some (.int kind),some (.int way),some (.ref L2'.length),y5,y6,y7] ∧ M[L2'.length]? = some (.lst (ps.map p4U)) ∧ ps.length = k ∧ ps.map (·.1) = names.take k ∧ k ≤ names.length ∧ (∀ p ∈ ps,Low p.1) ∧ Gdk M d (B + 104 + 14 * k) ∧ M[n]? = some (.lst (names.map U.str)) ∧ Ex d L2' M)
    hi ⟨none,none,none,[],rfl,by simpa using hf5,rfl,rfl,by omega,by simp,D5.mono (by omega),h5,(Ex.new d L2' _).trans (x4.trans x5)⟩
    (fun k δ M ⟨_,_,_,_,_,_,_,_,_,_,_,h,_⟩=>Aq h)
    (fun k u δ M hu ⟨y5,y6,y7,ps,hδ,hat,hlk,hpn,hkn,hw,DM,hnm,xM⟩=>by
      subst hδ
      rw [List.getElem?_map] at hu
      obtain ⟨name,hname,rfl⟩:=Option.map_eq_some_iff.mp hu
      have hk:=(List.getElem?_eq_some_iff.mp hname).1
      have hln60:names.length ≤ 60:=by omega
      have hnlow:=hlow _ (List.mem_of_getElem? hname)
      obtain ⟨z6,z7,a,M',e,D',hat',hx,hkeep⟩:=Wf (way:=way) DM (by omega) hat (by omega) (by omega) hw hk3 name hnlow (some (.int most)) y6 y7
      exact ⟨[some (.ref d),some (.int most),some (.int kind),some (.int way),some (.ref L2'.length),some (.str name),y6,y7],M,rfl,_,M',.inl e,_,_,_,ps ++ [(name,a)],rfl,hat',by simp [hlk],by rw [List.map_append,hpn,List.take_add_one,hname]; rfl,by omega,fun p hp=>by rcases List.mem_append.mp hp with h | h; exact hw p h; rw [List.mem_singleton.mp h]; exact hnlow,D'.mono (by omega),hkeep n _ hnd (Ne.symm hnf) hnm,hx L2' xM (Nat.le_refl _)⟩)
  obtain ⟨y5,y6,y7,ps,hδ,hat,hlk,hpn,hkn,hw,DM,hnm,xM⟩:=P
  rw [List.length_map] at hlk hkn DM hpn
  rw [List.take_length] at hpn
  rw [hδ] at e6
  refine ⟨ps,L6,?_,by omega,by omega,by rw [hpn]; exact hnod,hw,DM.mono (by omega),x1.trans (x2.trans xM)⟩
  have t2:A7 [.ref L2'.length] L6 = some (.tup (ps.map p4U),L6):=by simp only [A7,Aq hat,Option.map_some]
  have hb:b_l_room = Ay (Aw (Av 2 An (Ac (Ad 0) (Ac (fC (.int 3)) Af))) (gN 2)) (Ay (Aw (Av 2 An (Ac (Ad 0) (Ac (fC (.int 4)) Af))) (gN 3)) (Ay (Aw (C5 Af) (gN 4)) (Ay (Kq (Bm (Av 2 Fz (Ac (Ad 0) (Ac (Av 2 An (Ac (Ad 0) (Ac (f2 At (Ad 1) (fC (.int 1))) Af))) Af)))) (gN 5) Gh) (Bz (A8 A7 (Ac (Ad 4) Af)))))):=rfl
  unfold Kx fnU
  simp only [List.length_cons,List.length_nil,if_true,List.map_cons,List.map_nil,List.replicate,List.cons_append,List.nil_append]
  rw [hb,Al s1,Al s2,Al s3,Al e6,fRet_eq,fCall_eq,fCons_eq]
  simp only [fVar_eq,fNil_eq,List.getElem?_cons_succ,List.getElem?_cons_zero,Option.join_some,Option.map_some,Option.bind_some,t2]
end Lw
set_option Elab.async false
set_option linter.all false
set_option maxRecDepth 100000
set_option maxHeartbeats 1000000
namespace Lw
open PySem L2 MR
abbrev PN:=Str × List Int
noncomputable def tI (a:List Int):U:=.tup (a.map U.int)
noncomputable def nU (p:PN):U:=.tup (.str p.1 :: p.2.map U.int)
def und (a b:List Int):Bool:=!decide (a = b) && (a.zip b).all fun p=>decide (p.1 ≤ p.2)
theorem Je (l:List Int):Pl 6 (.tup (l.map U.int)):=by
  rw [E6]; intro u hu
  obtain ⟨i,_,rfl⟩:=List.mem_map.mp hu
  exact Pl.int _ _
theorem S7 {a b:List Int}:a.map U.int = b.map U.int ↔ a = b:=
  ⟨fun h=>(List.map_inj_right (fun x y e=>by cases e; rfl)).mp h,fun h=>by rw [h]⟩
theorem Sk (a b:List Int):eqB (.tup (a.map U.int)) (.tup (b.map U.int)) = decide (a = b):=by
  rw [Bool.eq_iff_iff,Qs (Je a) (Je b),decide_eq_true_iff,U.tup.injEq]
  exact S7
theorem Qz (a b:List Int) (L:UH):Bx (.tup (a.map U.int)) (.tup (b.map U.int)) L = some (.bl (!decide (a = b)),L):=by
  rw [Ni L (Je a) (Je b),Sk]
theorem Wc (a b:List Int) (L:UH):Co (.tup (a.map U.int)) (.tup (b.map U.int)) L = some (.bl (decide (a = b)),L):=by
  rw [Rz L (Je a) (Je b),Sk]
theorem Abf {β:Type} (as:List β) (f:β → Bool):mapO toB (as.map fun a=>U.bl (f a)) = some (as.map f):=by
  induction as with
  | nil=>rfl
  | cons a as ih=>simp [mapO,toB,ih]
theorem Act {β:Type} {L:UH} {n:Nat} (as:List β) (f:β → Bool) (h:Ao L n = some (as.map fun a=>U.bl (f a))):Ot [.ref n] L = some (.bl (as.all f),L):=by
  simp [Ot,h,Abf]
theorem Tx (a b:List Int):Ea (a.map U.int) (b.map U.int) = (a.zip b).map fun p=>.tup [.int p.1,.int p.2]:=by
  unfold Ea
  rw [List.zip_map,List.map_map]
  rfl
theorem Wb (a b:List Int) (hl:a.length ≤ 1000) (L:UH):∃ x,Dk [tI a,tI b] L = some (.bl (und a b),L ++ x):=by
  have hn:Bx (tI a) (tI b) L = some (.bl (!decide (a = b)),L):=Qz a b L
  unfold und
  cases hq:decide (a = b) with
  | true=>
    rw [hq] at hn
    refine ⟨[],?_⟩
    unfold Dk fnU b_lies_below
    simp only [List.length_cons,List.length_nil,if_true,List.map_cons,List.map_nil,Nat.sub_self,List.replicate_zero,List.append_nil,fRet_eq,Np,f2_eq,fVar_eq,List.getElem?_cons_zero,List.getElem?_cons_succ,Option.join_some,Option.map_some,Option.bind_some,hn,Bool.not_true,Bool.false_and]
    rfl
  | false=>
    rw [hq] at hn
    have hz:(Nm (Ac (Ad 0) (Ac (Ad 1) Af))) [some (tI a),some (tI b)] L = some (.seq ((a.zip b).map fun p=>.tup [.int p.1,.int p.2]),L):=by
      rw [← Tx]; rfl
    obtain ⟨x,e⟩:=Ez (ix:=[none,none]) (fi:=Nm (Ac (Ad 0) (Ac (Ad 1) Af))) (it:=.seq ((a.zip b).map fun p=>.tup [.int p.1,.int p.2])) (g:=(MR.gTup 2 (MR.gCons (gN 0) (MR.gCons (gN 1) MR.gNil)))) (tt:=none) (fe:=Fj) (δ:=[some (tI a),some (tI b)]) (L:=L) (L0:=L)
      (a.zip b) (fun a=>.tup [.int a.1,.int a.2]) (fun _=>true) (fun a=>.bl (decide (a.1 ≤ a.2))) (fun δ=>∃ a b,δ = [a,b]) hz (by simp [IU.size]) (by rw [List.length_zip]; omega) ⟨none,none,rfl⟩
      (fun k x=>rfl)
      (fun a δ x _ ⟨y,z,hδ⟩=>by
        subst hδ
        refine ⟨_,rfl,⟨_,_,rfl⟩,[],by simp [Oo],fun _=>⟨[],?_⟩⟩
        simp [Fj])
    have hf:List.filter (fun _:Int × Int=>true) (a.zip b) = a.zip b:=List.filter_eq_self.mpr (fun _ _=>rfl)
    rw [hf] at e
    have q1:Ao (L ++ x ++ [HU.lst ((a.zip b).map fun a=>.bl (decide (a.1 ≤ a.2)))]) (L ++ x).length = some ((a.zip b).map fun a=>U.bl (decide (a.1 ≤ a.2))):=Aq (by simp)
    have ha:=Act _ _ q1
    refine ⟨x ++ [HU.lst ((a.zip b).map fun a=>.bl (decide (a.1 ≤ a.2)))],?_⟩
    unfold Dk fnU b_lies_below
    simp only [List.length_cons,List.length_nil,if_true,List.map_cons,List.map_nil,Nat.sub_self,List.replicate_zero,List.append_nil,fRet_eq,Np,f2_eq,fVar_eq,List.getElem?_cons_zero,List.getElem?_cons_succ,Option.join_some,Option.map_some,Option.bind_some,hn,Bool.not_false,if_true,fCall_eq,fCons_eq,fNil_eq]
    rw [Bool.true_and,← List.append_assoc]
    simp only [e,ha,Option.map_some,Option.bind_some]
theorem Ro {tt:FT} {fe:FE} {L:UH} {r:Nat} {as:List (List Int)} (a:List Int) (f:List Int → Bool) (hr:L[r]? = some (.lst (as.map tI))) (hl:as.length ≤ 1000) (ht:∀ q ∈ as,∀ M:UH,∃ z,tt [some (tI q),some (tI a)] M = some (f q,M ++ z)) (hfe:∀ q M,fe [some (tI q),some (tI a)] M = some (tI q,M)) :
    ∃ L',(A8 Cm (Ac (Bb [none,some 1] (Bm (Ad 0)) (gN 0) (some tt) fe) Af)) [some (.ref r),some (tI a)] L = some (.int ((as.filter f).length:Nat),L') ∧ Gw L L':=by
  have hs:=Aq hr
  obtain ⟨x,e⟩:=Ez (ix:=[none,some 1]) (fi:=Bm (Ad 0)) (it:=.ref r) (g:=gN 0) (tt:=some tt) (fe:=fe) (δ:=[some (.ref r),some (tI a)]) (L:=L) (L0:=L)
    as tI f tI (fun δ=>∃ z,δ = [z,some (tI a)]) (by simp [Jb hs]) (by rw [Ru hs]; simp) (by omega) ⟨none,rfl⟩
    (fun k x=>Yv (Jg hs))
    (fun q δ x hq ⟨y,hδ⟩=>by
      subst hδ
      obtain ⟨z,e1⟩:=ht q hq (L ++ x)
      exact ⟨[some (tI q),some (tI a)],rfl,⟨_,rfl⟩,z,e1,fun _=>⟨[],by rw [List.append_nil]; exact hfe q _⟩⟩)
  have q1:(L ++ x ++ [HU.lst ((as.filter f).map tI)])[(L ++ x).length]? = some (.lst ((as.filter f).map tI)):=by simp
  have hlen:=Mv q1
  rw [List.length_map] at hlen
  refine ⟨_,?_,⟨x ++ [HU.lst ((as.filter f).map tI)],(List.append_assoc ..)⟩⟩
  rw [fCall_eq,fCons_eq,e]
  simp only [Option.bind_some,fNil_eq,Option.map_some,hlen]
theorem fn2 {b:FE} {u w v:U} {L L':UH} (h:b [some u,some w] L = some (v,L')):fnU 2 2 (Bz b) [u,w] L = some (v,L'):=by
  unfold fnU
  simp only [List.length_cons,List.length_nil,if_true,List.map_cons,List.map_nil,Nat.sub_self,List.replicate_zero,List.append_nil,fRet_eq,h,Option.map_some]
  rfl
def cB (as:List (List Int)) (a:List Int):Nat:=(as.filter fun q=>und q a).length
def cA (as:List (List Int)) (a:List Int):Nat:=(as.filter fun q=>und a q).length
theorem Td {fe:FE} {δ:UE} {L L':UH} {b:Bool} (h:fe δ L = some (.bl b,L')):O0 fe δ L = some (b,L'):=by
  rw [Acx,h]; rfl
theorem Nf {f:FN} {i j:Nat} {u w v:U} {δ:UE} {L L':UH} (h:Ad i δ L = some (u,L)) (h2:Ad j δ L = some (w,L)) (e:f [u,w] L = some (v,L')):(Av 2 f (Ac (Ad i) (Ac (Ad j) Af))) δ L = some (v,L'):=by
  rw [fOwn_eq,fCons_eq,h,Option.bind_some,fCons_eq,h2]
  simp only [Option.bind_some,fNil_eq,Option.map_some,List.length_cons,List.length_nil,if_true,e]
theorem Nc {L:UH} {r:Nat} {as:List (List Int)} (a:List Int) (hr:L[r]? = some (.lst (as.map tI))) (hl:as.length ≤ 1000) (ha:∀ q ∈ as,q.length ≤ 1000):∃ L',Fq [.ref r,tI a] L = some (.int (cB as a:Nat),L') ∧ Gw L L':=by
  obtain ⟨L',e,g⟩:=Ro (tt:=Hx) (fe:=Ic) a (fun q=>und q a) hr hl (fun q hq M=>by
    obtain ⟨x,e⟩:=Wb q a (ha q hq) M
    exact ⟨x,Td (Nf rfl rfl e)⟩) (fun _ _=>rfl)
  exact ⟨L',fn2 e,g⟩
theorem N8 {L:UH} {r:Nat} {as:List (List Int)} (a:List Int) (hr:L[r]? = some (.lst (as.map tI))) (hl:as.length ≤ 1000) (ha:a.length ≤ 1000):∃ L',Eo [.ref r,tI a] L = some (.int (cA as a:Nat),L') ∧ Gw L L':=by
  obtain ⟨L',e,g⟩:=Ro (tt:=Ih) (fe:=Ib) a (fun q=>und a q) hr hl (fun q hq M=>by
    obtain ⟨x,e⟩:=Wb a q ha M
    exact ⟨x,Td (Nf rfl rfl e)⟩) (fun _ _=>rfl)
  exact ⟨L',fn2 e,g⟩
def SeqU (u:U) (us:List U) (L:UH):Prop:=u = .tup us ∨ ∃ n,u = .ref n ∧ L[n]? = some (.lst us)
theorem SeqU.gw {u:U} {us:List U} {L L':UH} (h:SeqU u us L) (g:Gw L L'):SeqU u us L':=by
  rcases h with h | ⟨n,h,h2⟩
  · exact .inl h
  · exact .inr ⟨n,h,g.get h2⟩
theorem SeqU.it {u:U} {us:List U} {L:UH} (h:SeqU u us L) {fe:FE} {δ:UE} {M:UH} (hv:fe δ M = some (u,L)):∃ it,Bm fe δ M = some (it,L) ∧ us.length ≤ it.size L ∧ ∀ k x,it.at k (L ++ x) = some us[k]?:=by
  rcases h with rfl | ⟨n,rfl,h2⟩
  · exact ⟨.seq us,by rw [Hi,hv]; rfl,by simp [IU.size],fun k x=>rfl⟩
  · have hs:=Aq h2
    exact ⟨.ref n,by rw [Hi,hv,Option.bind_some,Jb hs]; rfl,by rw [Ru hs]; exact Nat.le_refl _,fun k x=>Yv (Jg hs)⟩
theorem SeqU.tru {u:U} {us:List U} {L:UH} (h:SeqU u us L):Op u L = some (!us.isEmpty):=by
  rcases h with rfl | ⟨n,rfl,h2⟩
  · rfl
  · unfold Op
    simp only
    rw [h2]
end Lw
set_option Elab.async false
set_option linter.all false
set_option maxRecDepth 100000
set_option maxHeartbeats 1000000
namespace Lw
open PySem L2 MR
theorem Is {c:FT} {f:FS} {δ:UE} {L L':UH} (h:c δ L = some (false,L')):Fw c f Du δ L = some (.nx δ,L'):=by
  rw [E8,h]; rfl
theorem Va {c d:FT} {δ:UE} {L L1 L2:UH} (h:c δ L = some (false,L1)) (h2:d δ L1 = some (false,L2)):fOr c d δ L = some (false,L2):=by
  rw [Afp,h]; exact h2
theorem Dl {f:FE} {δ:UE} {L L':UH} {b:Bool} (h:f δ L = some (.bl b,L')):Bk f δ L = some (b,L'):=by
  rw [fTest_eq,h]; rfl
theorem Bq {s:S2} {fa fb:FE} {δ:UE} {L L1 L2 L3:UH} {u v w:U} (h1:fa δ L = some (u,L1)) (h2:fb δ L1 = some (v,L2)) (h:s u v L2 = some (w,L3)):f2 s fa fb δ L = some (w,L3):=by
  rw [f2_eq,h1,Option.bind_some,h2,Option.bind_some,h]
theorem fnN {n k:Nat} {b:FS} {us:List U} {v:U} {L L':UH} (hn:us.length = k) (h:b (us.map some ++ List.replicate (n - k) none) L = some (.rt v,L')):fnU n k b us L = some (v,L'):=by
  subst hn
  unfold fnU
  rw [if_pos rfl,h]
  rfl
theorem J8 {fe:FE} {v:U} {δ:UE} {L L':UH} (e:fe δ L = some (v,L')):Bz fe δ L = some (.rt v,L'):=by rw [fRet_eq,e]; rfl
theorem Gg {s:SC} {fa:FE} {u v:U} {δ:UE} {L L1 L2:UH} (h:fa δ L = some (u,L1)) (e:s [u] L1 = some (v,L2)):(A8 s (Ac fa Af)) δ L = some (v,L2):=by
  rw [fCall_eq,fCons_eq,h,Option.bind_some,fNil_eq,Option.map_some,Option.bind_some,e]
theorem Afw {f:FN} {fa fb:FE} {u w v:U} {δ:UE} {L L1 L2 L':UH} (h:fa δ L = some (u,L1)) (h2:fb δ L1 = some (w,L2)) (e:f [u,w] L2 = some (v,L')):(Av 2 f (Ac fa (Ac fb Af))) δ L = some (v,L'):=by
  rw [fOwn_eq,fCons_eq,h,Option.bind_some,fCons_eq,h2]
  simp only [Option.bind_some,fNil_eq,Option.map_some,List.length_cons,List.length_nil,if_true,e]
theorem Gd {L:UH} {n:Nat} {us:List U} (h:L[n]? = some (.lst us)):A7 [.ref n] L = some (.tup us,L):=by simp only [A7,Aq h,Option.map_some]
theorem Hf {β:Type} {ix:List (Option Nat)} {fi:FI} {it:IU} {fe:FE} {δ:UE} {L L0:UH} (as:List β) (rep:β → U) (e:β → U) (tl:UE) (hx:Ht ix δ = none :: tl) (hi:fi δ L = some (it,L0)) (hsz:(as.map rep).length ≤ it.size L0) (hl:as.length < 16777216) (hat:∀ k x,it.at k (L0 ++ x) = some (as.map rep)[k]?)
    (step:∀ (a:β) x,a ∈ as → ∃ z,fe (some (rep a) :: tl) (L0 ++ x) = some (e a,L0 ++ x ++ z)) :
    ∃ L',Bb ix fi (gN 0) none fe δ L = some (.ref L'.length,L' ++ [.lst (as.map e)]) ∧ Gw L0 L':=by
  obtain ⟨x,e1⟩:=Ez (ix:=ix) (fi:=fi) (it:=it) (g:=gN 0) (tt:=none) (fe:=fe) (δ:=δ) (L:=L) (L0:=L0) as rep (fun _=>true) e (fun δ=>∃ z,δ = z :: tl) hi (by simpa using hsz) hl ⟨none,hx⟩ hat
    (fun a δ x ha ⟨y,hδ⟩=>by
      subst hδ
      obtain ⟨z,e2⟩:=step a x ha
      exact ⟨some (rep a) :: tl,rfl,⟨_,rfl⟩,[],by simp [Oo],fun _=>⟨z,by rw [List.append_nil]; exact e2⟩⟩)
  have hff:List.filter (fun _=>true) as = as:=List.filter_eq_self.mpr (fun _ _=>rfl)
  rw [hff] at e1
  exact ⟨L0 ++ x,e1,⟨x,rfl⟩⟩
noncomputable def Aad (fe1 fe2:FE):FS:=(Ay (Aw (Bb [none] (Bm (Ad 0)) (gN 0) none fe2) (gN 1)) (Bz (A8 A7 (Ac (Bb [none,some 1] (Bm (Ad 1)) (gN 0) none fe1) Af))))
theorem Pz {fe:FE} {ps:List PN} {u:U} {L:UH} (hu:SeqU u (ps.map nU) L) (hl:ps.length ≤ 1000) (h2:∀ p ∈ ps,∀ M,fe [some (nU p)] M = some (tI p.2,M)) (x1:Option U) :
    ∃ (r:Nat) (M:UH),(Aw (Bb [none] (Bm (Ad 0)) (gN 0) none fe) (gN 1)) [some u,x1] L = some (.nx [some u,some (.ref r)],M) ∧ M[r]? = some (.lst ((ps.map Prod.snd).map tI)) ∧ Gw L M:=by
  obtain ⟨it,hi,hsz,hat⟩:=hu.it (fe:=Ad 0) (δ:=[some u,x1]) (M:=L) rfl
  obtain ⟨L',e,g⟩:=Hf (ix:=[none]) (fe:=fe) ps nU (fun p=>tI p.2) [] rfl hi hsz (by omega) hat (fun p x hp=>⟨[],by rw [List.append_nil]; exact h2 p hp _⟩)
  have s1:=Fk (i:=1) e
  have hm:ps.map (fun p=>tI p.2) = (ps.map Prod.snd).map tI:=by rw [List.map_map]; rfl
  rw [hm] at s1
  exact ⟨_,_,s1,by simp,g.trans (Gw.new _ _)⟩
theorem Rh {fe1 fe2:FE} {ps:List PN} {u:U} {L:UH} (c:List Int → Int) (hu:SeqU u (ps.map nU) L) (hl:ps.length ≤ 1000) (h2:∀ p ∈ ps,∀ M,fe2 [some (nU p)] M = some (tI p.2,M))
    (h1:∀ (M:UH) (r:Nat) (a:List Int),a ∈ ps.map Prod.snd → M[r]? = some (.lst ((ps.map Prod.snd).map tI)) → ∃ M',fe1 [some (tI a),some (.ref r)] M = some (.int (c a),M') ∧ Gw M M') :
    ∃ L',fnU 2 1 (Aad fe1 fe2) [u] L = some (.tup (((ps.map Prod.snd).map c).map U.int),L') ∧ Gw L L':=by
  obtain ⟨r,M,s1,hr,gM⟩:=Pz hu hl h2 none
  have hla:(ps.map Prod.snd).length < 16777216:=by rw [List.length_map]; omega
  generalize ps.map Prod.snd = as at hr h1 hla ⊢
  obtain ⟨it,hi,hsz,hat⟩:=SeqU.it (u:=.ref r) (us:=as.map tI) (L:=M) (.inr ⟨r,rfl,hr⟩) (fe:=Ad 1) (δ:=[some u,some (.ref r)]) (M:=M) rfl
  obtain ⟨L',e,g⟩:=Hf (ix:=[none,some 1]) (fe:=fe1) as tI (fun a=>.int (c a)) [some (.ref r)] rfl hi hsz hla hat (fun a x ha=>by
    obtain ⟨M',e,z,hz⟩:=h1 (M ++ x) r a ha ((Gw.new M x).get hr)
    exact ⟨z,by rw [e,hz]⟩)
  have hm:as.map (fun a=>U.int (c a)) = (as.map c).map U.int:=by rw [List.map_map]; rfl
  rw [hm] at e
  refine ⟨_,fnN rfl ?_,gM.trans (g.trans (Gw.new L' [HU.lst ((as.map c).map U.int)]))⟩
  show Aad fe1 fe2 [some u,none] L = _
  unfold Aad
  rw [Al s1]
  exact J8 (Gg e (Gd (by simp)))
theorem Ue {p:PN} (h:p.2.length = 2) (L:UH):Ct [nU p] L = some (tI p.2,L):=by
  obtain ⟨n,a⟩:=p
  match a,h with
  | [x,y],_=>
    have sm2:B9 (0 + 1 + 1) = true:=small_of (by decide)
    have i1:Ar (nU (n,[x,y])) (.int 1) L = some (.int x,L):=rfl
    have i2:Ar (nU (n,[x,y])) (.int 2) L = some (.int y,L):=rfl
    unfold Ct fnU b_place_of
    simp only [List.length_cons,List.length_nil,if_true,List.map_cons,List.map_nil,Nat.sub_self,List.replicate_zero,List.append_nil,fRet_eq,Jf,fCons_eq,fNil_eq,f2_eq,fVar_eq,fC_eq,List.getElem?_cons_zero,Option.join_some,Option.map_some,Option.bind_some,i1,i2]
    rw [if_pos sm2]
    rfl
theorem Tj {p:PN} (h:p.2.length = 3) (L:UH):Cf [nU p] L = some (tI p.2,L):=by
  obtain ⟨n,a⟩:=p
  match a,h with
  | [x,y,z],_=>
    have sm2:B9 (0 + 1 + 1 + 1) = true:=small_of (by decide)
    have i1:Ar (nU (n,[x,y,z])) (.int 1) L = some (.int x,L):=rfl
    have i2:Ar (nU (n,[x,y,z])) (.int 2) L = some (.int y,L):=rfl
    have i3:Ar (nU (n,[x,y,z])) (.int 3) L = some (.int z,L):=rfl
    unfold Cf fnU b_room_place_of
    simp only [List.length_cons,List.length_nil,if_true,List.map_cons,List.map_nil,Nat.sub_self,List.replicate_zero,List.append_nil,fRet_eq,Jf,fCons_eq,fNil_eq,f2_eq,fVar_eq,fC_eq,List.getElem?_cons_zero,Option.join_some,Option.map_some,Option.bind_some,i1,i2,i3]
    rw [if_pos sm2]
    rfl
def cBs (as:List (List Int)):List Int:=as.map fun a=>(cB as a:Int)
def cAs (as:List (List Int)):List Int:=as.map fun a=>(cA as a:Int)
def Dim (k:Nat) (ps:List PN):Prop:=∀ p ∈ ps,p.2.length = k
theorem Dim.len {k:Nat} {ps:List PN} (h:Dim k ps) (hk:k ≤ 1000):∀ a ∈ ps.map Prod.snd,a.length ≤ 1000:=fun a ha=>by
  obtain ⟨p,hp,rfl⟩:=List.mem_map.mp ha
  rw [h p hp]; exact hk
theorem Bt {ps:List PN} (hl:ps.length ≤ 1000) (hd:Dim 3 ps) (L:UH):∃ L',A0 [.tup (ps.map nU)] L = some (.tup ((cBs (ps.map Prod.snd)).map U.int),L') ∧ Gw L L':=
  Rh (fe1:=Hw) (fe2:=Hy) (fun a=>(cB (ps.map Prod.snd) a:Int)) (.inl rfl) hl (fun p hp M=>Ds rfl (Tj (hd p hp) M)) (fun M r a ha hr=>by
    obtain ⟨M',e,g⟩:=Nc a hr (by rw [List.length_map]; exact hl) (hd.len (by decide))
    exact ⟨M',Nf rfl rfl e,g⟩)
theorem G5 {ps:List PN} (hl:ps.length ≤ 1000) (hd:Dim 2 ps) (L:UH):∃ L',Cv [.tup (ps.map nU)] L = some (.tup ((cBs (ps.map Prod.snd)).map U.int),L') ∧ Gw L L':=
  Rh (fe1:=Ig) (fe2:=H9) (fun a=>(cB (ps.map Prod.snd) a:Int)) (.inl rfl) hl (fun p hp M=>Ds rfl (Ue (hd p hp) M)) (fun M r a ha hr=>by
    obtain ⟨M',e,g⟩:=Nc a hr (by rw [List.length_map]; exact hl) (hd.len (by decide))
    exact ⟨M',Nf rfl rfl e,g⟩)
theorem Oy {ps:List PN} {u:U} {L:UH} (hu:SeqU u (ps.map nU) L) (hl:ps.length ≤ 1000) (hd:Dim 2 ps):∃ L',Hn [u] L = some (.tup ((cAs (ps.map Prod.snd)).map U.int),L') ∧ Gw L L':=
  Rh (fe1:=Id) (fe2:=Ie) (fun a=>(cA (ps.map Prod.snd) a:Int)) hu hl (fun p hp M=>Ds rfl (Ue (hd p hp) M)) (fun M r a ha hr=>by
    obtain ⟨M',e,g⟩:=N8 a hr (by rw [List.length_map]; exact hl) (hd.len (by decide) a ha)
    exact ⟨M',Nf rfl rfl e,g⟩)
theorem toI_ints (l:List Int):mapO toI (l.map U.int) = some l:=by
  induction l with
  | nil=>rfl
  | cons a r ih=>simp only [List.map_cons,mapO,toI,ih,Option.bind_some,Option.map_some]
theorem Vu (l:List Int) (L:UH):Ln [.tup (l.map U.int)] L = some (.int l.sum,L):=by
  simp only [Ln,toI_ints,Option.map_some]
theorem Ag1 {b:FE} {u v:U} {L L':UH} (h:b [some u] L = some (v,L')):fnU 1 1 (Bz b) [u] L = some (v,L'):=fnN rfl (J8 h)
theorem G9 {ps:List PN} (hl:ps.length ≤ 1000) (hd:Dim 3 ps) (L:UH):∃ L',Ek [.tup (ps.map nU)] L = some (.int (cBs (ps.map Prod.snd)).sum,L') ∧ Gw L L':=by
  obtain ⟨L',e,g⟩:=Bt hl hd L
  exact ⟨L',Ag1 (Gg (Ds rfl e) (Vu _ L')),g⟩
theorem Rs {ps:List PN} (hl:ps.length ≤ 1000) (hd:Dim 2 ps) (L:UH):∃ L',Ga [.tup (ps.map nU)] L = some (.int (cBs (ps.map Prod.snd)).sum,L') ∧ Gw L L':=by
  obtain ⟨L',e,g⟩:=G5 hl hd L
  exact ⟨L',Ag1 (Gg (Ds rfl e) (Vu _ L')),g⟩
def bst (ps:List PN):List Str:=(ps.filter fun p=>decide (cA (ps.map Prod.snd) p.2 = 0)).map Prod.fst
noncomputable def sU (l:List Str):U:=.tup (l.map U.str)
theorem Mp (p:PN) (L:UH):Ar (nU p) (.int 0) L = some (.str p.1,L):=by
  unfold nU
  rw [P0,Lj (by decide) (by rw [List.length_cons]; omega)]; rfl
theorem Cw {ps:List PN} (hl:ps.length ≤ 1000) (hd:Dim 3 ps) (L:UH):∃ L',Ck [.tup (ps.map nU)] L = some (sU (bst ps),L') ∧ Gw L L':=by
  obtain ⟨r,M,s1,hr,gM⟩:=Pz (fe:=Iv) (u:=.tup (ps.map nU)) (.inl rfl) hl (fun p hp M=>Ds rfl (Tj (hd p hp) M)) none
  obtain ⟨x2,e2⟩:=Ez (ix:=[none,some 1]) (fi:=Bm (Ad 0)) (it:=.seq (ps.map nU)) (g:=gN 0) (tt:=some Ir) (fe:=Iq) (δ:=[some (.tup (ps.map nU)),some (.ref r)]) (L:=M) (L0:=M)
    ps nU (fun p=>decide (cA (ps.map Prod.snd) p.2 = 0)) (fun p=>.str p.1) (fun δ=>∃ z,δ = [z,some (.ref r)]) rfl (by simp [IU.size]) (by omega) ⟨none,rfl⟩
    (fun k x=>rfl)
    (fun p δ x hp ⟨y,hδ⟩=>by
      subst hδ
      obtain ⟨M',e1,z,hz⟩:=N8 p.2 ((Gw.new M x).get hr) (by rw [List.length_map]; exact hl) (by rw [hd p hp]; decide)
      rw [hz] at e1
      refine ⟨[some (nU p),some (.ref r)],rfl,⟨_,rfl⟩,z,?_,fun _=>⟨[],by rw [List.append_nil]; exact Bq rfl rfl (Mp p _)⟩⟩
      have ho:=Afw (f:=Eo) (δ:=[some (nU p),some (.ref r)]) (fa:=Ad 1) (L:=M ++ x) rfl (Ds (i:=0) rfl (Tj (hd p hp) (M ++ x))) e1
      have hb:(((cA (ps.map Prod.snd) p.2:Nat):Int) == 0) = decide (cA (ps.map Prod.snd) p.2 = 0):=by
        cases h:cA (ps.map Prod.snd) p.2 with
        | zero=>rfl
        | succ n=>rfl
      rw [← hb]
      exact Dl (Bq ho rfl rfl))
  have hm2:(ps.filter fun p=>decide (cA (ps.map Prod.snd) p.2 = 0)).map (fun p=>U.str p.1) = (bst ps).map U.str:=by
    unfold bst; rw [List.map_map]; rfl
  rw [hm2] at e2
  refine ⟨_,fnN rfl ?_,gM.trans ((Gw.new M x2).trans (Gw.new _ [HU.lst ((bst ps).map U.str)]))⟩
  show b_room_best [some (.tup (ps.map nU)),none] L = _
  unfold b_room_best
  rw [Al s1]
  exact J8 (Gg e2 (Gd (by simp)))
end Lw
set_option Elab.async false
set_option linter.all false
set_option maxRecDepth 100000
set_option maxHeartbeats 1000000
namespace Lw
open PySem L2 MR
noncomputable def Agv (qs:List PN):List Nat:=SO.Fd (ltK (qs.map Prod.snd)) qs.length
theorem Pp (qs:List PN):(Agv qs).Perm (List.range qs.length):=SO.Kc (Qu _)
noncomputable def Aea:PN:=("",[])
noncomputable def Fv (qs:List PN):List PN:=(Agv qs).map fun i=>qs.getD i Aea
theorem Pq (qs:List PN):(Fv qs).Perm qs:=by
  have e:(List.range qs.length).map (fun i=>qs.getD i Aea) = qs:=by
    apply List.ext_getElem
    · simp
    · intro i h1 h2
      have hi:i < qs.length:=by simpa using h2
      rw [List.getElem_map,List.getElem_range,List.getD_eq_getElem?_getD,List.getElem?_eq_getElem hi]; rfl
  have:=(Pp qs).map fun i=>qs.getD i Aea
  rw [e] at this
  exact this
theorem Ab4 (a:List Int):Aa1 (tI a) = some a:=toI_ints a
theorem Ajw {p:PN} (h:p.2.length = 2) (L:UH):Pj Ct L (nU p) = some p.2:=by
  unfold Pj
  rw [Ue h L]
  simp only [Option.bind_some,if_true]
  exact Ab4 p.2
theorem Aeu (L:UH):∀ ps:List PN,Dim 2 ps → mapO (Pj Ct L) (ps.map nU) = some (ps.map Prod.snd)
  | [],_=>rfl
  | p :: ps,h=>by
    rw [List.map_cons,List.map_cons]
    simp only [mapO,Ajw (h p (List.mem_cons_self ..)),Aeu L ps (fun q hq=>h q (List.mem_cons_of_mem _ hq)),Option.bind_some,Option.map_some]
theorem Aa0 {ps:List PN} {n i:Nat} (hl:ps.length ≤ 60) (hd:Dim 2 ps) {δ:UE} {L:UH} (hn:L[n]? = some (.lst (ps.map nU))) (h:Ad i δ L = some (.ref n,L)):Oi Ct (Ad i) δ L = some (.ref L.length,L ++ [.lst ((Fv ps).map nU)]):=by
  have hall:((ps.map Prod.snd).all fun t=>!t.isEmpty) = true:=by
    rw [List.all_eq_true]
    intro t ht
    obtain ⟨p,hp,rfl⟩:=List.mem_map.mp ht
    have:=hd p hp
    cases hq:p.2 with
    | nil=>rw [hq] at this; cases this
    | cons _ _=>rfl
  unfold Oi
  rw [h]
  simp only [Option.bind_some,Aq hn,Aeu L ps hd]
  rw [if_pos ⟨by rw [List.length_map]; omega,hall⟩]
  have:(Fv ps).map nU = (SO.Fd (ltK (ps.map Prod.snd)) (ps.map nU).length).map fun i=>(ps.map nU).getD i .non:=by
    unfold Fv Agv
    rw [List.map_map,List.length_map]
    refine List.map_congr_left fun i hi=>?_
    have hi:i < ps.length:=List.mem_range.mp ((Pp ps).mem_iff.mp hi)
    show nU (ps.getD i Aea) = (ps.map nU).getD i .non
    rw [List.getD_eq_getElem?_getD,List.getD_eq_getElem?_getD,List.getElem?_map,List.getElem?_eq_getElem hi]
    rfl
  rw [this]
theorem Acb {u:U} {us ws:List U} {L:UH} (h:SeqU u us L) {i j:Nat} {δ:UE} (hi:Ad i δ L = some (u,L)) (hj:Ad j δ L = some (.tup ws,L)):∃ it,Lx (Ac (Ad i) (Ac (Ad j) Af)) δ L = some (it,L) ∧ (Ea us ws).length ≤ it.size L ∧ ∀ k x,it.at k (L ++ x) = some (Ea us ws)[k]?:=by
  have hc:(Ac (Ad i) (Ac (Ad j) Af)) δ L = some ([u,.tup ws],L):=by
    rw [fCons_eq,hi,Option.bind_some,fCons_eq,hj]; rfl
  rcases h with rfl | ⟨n,rfl,h2⟩
  · exact ⟨.seq (Ea us ws),by unfold Lx; rw [hc]; rfl,by simp [IU.size],fun k x=>rfl⟩
  · have hs:=Aq h2
    refine ⟨.zipL n ws,by unfold Lx; rw [hc]; simp only [Option.bind_some,hs,Option.map_some],?_,fun k x=>?_⟩
    · show _ ≤ (match Ao L n with | some us=>min us.length ws.length | none=>0)
      rw [hs]; simp [Ea]
    · show (Ao (L ++ x) n).map _ = _
      rw [Jg hs,Option.map_some,Jy]
noncomputable def zU (as:List (List Int)) (p:PN):U:=.tup [nU p,.int (cA as p.2:Int)]
theorem Uu (lf:List PN):Ea (lf.map nU) ((cAs (lf.map Prod.snd)).map U.int) = lf.map (zU (lf.map Prod.snd)):=by
  unfold cAs
  rw [List.map_map,List.map_map]
  generalize lf.map Prod.snd = as
  unfold Ea
  rw [List.zip_map',List.map_map]
  rfl
def E7 (lf:List PN):List PN:=lf.filter fun p=>decide (cA (lf.map Prod.snd) p.2 = 0)
def Tv (lf:List PN):List PN:=lf.filter fun p=>decide (0 < cA (lf.map Prod.snd) p.2)
theorem Yq {tt:FT} {fe:FE} {lf:List PN} {u:U} {L:UH} {δ:UE} (f:PN → Bool) (hu:SeqU u (lf.map nU) L) (hl:lf.length ≤ 1000) {i j:Nat} (hi:Ad i δ L = some (u,L)) (hj:Ad j δ L = some (.tup ((cAs (lf.map Prod.snd)).map U.int),L))
    (ht:∀ p M,tt [some (nU p),some (.int (cA (lf.map Prod.snd) p.2:Int))] M = some (f p,M)) (hfe:∀ p y M,fe [some (nU p),y] M = some (nU p,M)) :
    ∃ L',Bb [none,none] (Lx (Ac (Ad i) (Ac (Ad j) Af))) (MR.gTup 2 (MR.gCons (gN 0) (MR.gCons (gN 1) MR.gNil))) (some tt) fe δ L = some (.ref L'.length,L' ++ [.lst ((lf.filter f).map nU)]) ∧ Gw L L':=by
  obtain ⟨it,e1,hsz,hat⟩:=Acb hu hi hj
  rw [Uu] at hsz hat
  obtain ⟨x,e⟩:=Ez (ix:=[none,none]) (it:=it) (g:=(MR.gTup 2 (MR.gCons (gN 0) (MR.gCons (gN 1) MR.gNil)))) (tt:=some tt) (fe:=fe) (δ:=δ) (L:=L) (L0:=L)
    lf (zU (lf.map Prod.snd)) f nU (fun δ=>∃ a b,δ = [a,b]) e1 (by simpa using hsz) (by omega) ⟨none,none,rfl⟩ hat
    (fun p δ x _ ⟨y,z,hδ⟩=>by
      subst hδ
      exact ⟨[some (nU p),some (.int (cA (lf.map Prod.snd) p.2:Int))],rfl,⟨_,_,rfl⟩,[],by rw [List.append_nil]; exact ht p _,fun _=>⟨[],by rw [List.append_nil,List.append_nil]; exact hfe p _ _⟩⟩)
  exact ⟨L ++ x,e,⟨x,rfl⟩⟩
theorem Rg {i n:Nat} {fe:FE} {v:U} {δ:UE} {L L1:UH} {l l1:List U} (h:Ad i δ L = some (.ref n,L)) (h0:L[n]? = some (.lst l)) (e:fe δ L = some (v,L1)) (h1:L1[n]? = some (.lst l1)) (hl:l1.length ≤ 1000):(Jm (Fn "list" Cr (Ad i) (Ac fe Af))) δ L = some (.nx δ,L1.set n (.lst (l1 ++ [v]))):=by
  rw [Oh,fMeth_eq,h,Option.bind_some,if_pos (Mq h0),fCons_eq,e]
  simp only [Option.bind_some,fNil_eq,Option.map_some,Lr v h1 (by omega)]
theorem Sw {L0 M:UH} {s:Nat} {u:U} {lf:List PN} {sts:List U} (hg:Gw L0 M) (hs0:L0.length ≤ s) (hs:M[s]? = some (.lst sts)) (hu:SeqU u (lf.map nU) M) (hne:∀ n,u = .ref n → n ≠ s) (hl:lf.length ≤ 60) (hd:Dim 2 lf) (hst:sts.length ≤ 1000) (x0 x3 x4:Option U) :
    ∃ (r:Nat) (y3 y4:Option U) (M':UH),Fa [x0,some (.ref s),some u,x3,x4] M = some (.nx [x0,some (.ref s),some (.ref r),y3,y4],M') ∧ M'[s]? = some (.lst (sts ++ [sU ((Fv (E7 lf)).map Prod.fst)])) ∧ M'[r]? = some (.lst ((Tv lf).map nU)) ∧ r ≠ s ∧ Gw L0 M':=by
  have sl:s < M.length:=(List.getElem?_eq_some_iff.mp hs).1
  obtain ⟨M1,e1,g1⟩:=Oy hu (by omega) hd
  have s1:=Fk (i:=3) (Ds (i:=2) (δ:=[x0,some (.ref s),some u,x3,x4]) rfl e1)
  simp only [List.set_cons_succ,List.set_cons_zero] at s1
  obtain ⟨M2,e2,g2⟩:=Yq (tt:=Gm) (fe:=Gf) (δ:=[x0,some (.ref s),some u,some (.tup ((cAs (lf.map Prod.snd)).map U.int)),x4]) (i:=2) (j:=3) (fun p=>decide (cA (lf.map Prod.snd) p.2 = 0)) (hu.gw g1) (by omega) rfl rfl (fun p M=>by
    have hb:(((cA (lf.map Prod.snd) p.2:Nat):Int) == 0) = decide (cA (lf.map Prod.snd) p.2 = 0):=by
      cases h:cA (lf.map Prod.snd) p.2 with
      | zero=>rfl
      | succ n=>rfl
    rw [← hb]; rfl) (fun _ _ _=>rfl)
  have s2:=Fk (i:=4) e2
  simp only [List.set_cons_succ,List.set_cons_zero] at s2
  have g3:Gw M (M2 ++ [HU.lst ((E7 lf).map nU)]):=g1.trans (g2.trans (Gw.new _ _))
  have k3:(M2 ++ [HU.lst ((E7 lf).map nU)])[M2.length]? = some (.lst ((E7 lf).map nU)):=by simp
  have hs3:=g3.get hs
  generalize hM3:M2 ++ [HU.lst ((E7 lf).map nU)] = M3 at g3 k3 hs3
  have s2':(Aw (Bb [none,none] (Lx (Ac (Ad 2) (Ac (Ad 3) Af))) (MR.gTup 2 (MR.gCons (gN 0) (MR.gCons (gN 1) MR.gNil))) (some Gm) Gf) (gN 4)) [x0,some (.ref s),some u,some (.tup ((cAs (lf.map Prod.snd)).map U.int)),x4] M1 = some (.nx [x0,some (.ref s),some u,some (.tup ((cAs (lf.map Prod.snd)).map U.int)),some (.ref M2.length)],M3):=by rw [← hM3]; exact s2
  have hdt:Dim 2 (E7 lf):=fun p hp=>hd p (List.mem_filter.mp hp).1
  have hlt:(E7 lf).length ≤ 60:=Nat.le_trans (List.length_filter_le _ _) hl
  have so:=Aa0 (i:=4) (δ:=[x0,some (.ref s),some u,some (.tup ((cAs (lf.map Prod.snd)).map U.int)),some (.ref M2.length)]) hlt hdt k3 rfl
  have hso:SeqU (.ref M3.length) ((Fv (E7 lf)).map nU) (M3 ++ [HU.lst ((Fv (E7 lf)).map nU)]):=.inr ⟨_,rfl,by simp⟩
  obtain ⟨it,hi,hsz,hat⟩:=hso.it so
  obtain ⟨M4,e4,g4⟩:=Hf (ix:=[none]) (fe:=Ip) (Fv (E7 lf)) nU (fun p=>U.str p.1) [] rfl hi hsz (by rw [(Pq _).length_eq]; omega) hat (fun p x hp=>⟨[],by rw [List.append_nil]; exact Bq rfl rfl (Mp p _)⟩)
  have hm:(Fv (E7 lf)).map (fun p=>U.str p.1) = ((Fv (E7 lf)).map Prod.fst).map U.str:=by rw [List.map_map]; rfl
  rw [hm] at e4
  have g5:Gw M3 (M4 ++ [HU.lst (((Fv (E7 lf)).map Prod.fst).map U.str)]):=(Gw.new _ _).trans (g4.trans (Gw.new _ _))
  have e5:=Gg e4 (Gd (us:=((Fv (E7 lf)).map Prod.fst).map U.str) (by simp))
  have hs5:=g5.get hs3
  generalize M4 ++ [HU.lst (((Fv (E7 lf)).map Prod.fst).map U.str)] = M5 at g5 e5 hs5
  have s3:=Rg (i:=1) (δ:=[x0,some (.ref s),some u,some (.tup ((cAs (lf.map Prod.snd)).map U.int)),some (.ref M2.length)]) rfl hs3 e5 hs5 hst
  have g6:Gw M M5:=g3.trans g5
  have hu6:SeqU u (lf.map nU) (M5.set s (.lst (sts ++ [.tup (((Fv (E7 lf)).map Prod.fst).map U.str)]))):=by
    rcases hu with h | ⟨n,h,h2⟩
    · exact .inl h
    · exact .inr ⟨n,h,by rw [List.getElem?_set_ne (Ne.symm (hne n h))]; exact g6.get h2⟩
  have hs6:(M5.set s (.lst (sts ++ [.tup (((Fv (E7 lf)).map Prod.fst).map U.str)])))[s]? = some (.lst (sts ++ [.tup (((Fv (E7 lf)).map Prod.fst).map U.str)])):=List.getElem?_set_self (Nat.lt_of_lt_of_le sl g6.le)
  have g7:Gw L0 (M5.set s (.lst (sts ++ [.tup (((Fv (E7 lf)).map Prod.fst).map U.str)]))):=(hg.trans g6).set hs0 _
  have ln:M5.length = (M5.set s (.lst (sts ++ [.tup (((Fv (E7 lf)).map Prod.fst).map U.str)]))).length:=by rw [List.length_set]
  generalize M5.set s (.lst (sts ++ [.tup (((Fv (E7 lf)).map Prod.fst).map U.str)])) = M6 at s3 hu6 hs6 g7 ln
  obtain ⟨M7,e7,g8⟩:=Yq (tt:=Ja) (fe:=Iz) (δ:=[x0,some (.ref s),some u,some (.tup ((cAs (lf.map Prod.snd)).map U.int)),some (.ref M2.length)]) (i:=2) (j:=3) (fun p=>decide (0 < cA (lf.map Prod.snd) p.2)) hu6 (by omega) rfl rfl (fun p M=>by
    have hb:decide ((0:Int) < ((cA (lf.map Prod.snd) p.2:Nat):Int)) = decide (0 < cA (lf.map Prod.snd) p.2):=by
      cases h:cA (lf.map Prod.snd) p.2 with
      | zero=>rfl
      | succ n=>simp
    rw [← hb]; rfl) (fun _ _ _=>rfl)
  have s4:=Fk (i:=2) e7
  simp only [List.set_cons_succ,List.set_cons_zero] at s4
  refine ⟨M7.length,some (.tup ((cAs (lf.map Prod.snd)).map U.int)),some (.ref M2.length),M7 ++ [.lst ((Tv lf).map nU)],?_,(Gw.new _ _).get (g8.get hs6),by simp,?_,g7.trans (g8.trans (Gw.new _ _))⟩
  · unfold Fa
    rw [Al s1,Al s2',Al s3]
    exact s4
  · have:=g6.le
    have:=g8.le
    omega
noncomputable def stairsF:Nat → List PN → List (List Str)
  | 0,_=>[]
  | n + 1,lf=>if lf.isEmpty then [] else ((Fv (E7 lf)).map Prod.fst) :: stairsF n (Tv lf)
theorem R0 {L0:UH} {s:Nat} (hs0:L0.length ≤ s) (x0:Option U) (hdec:∀ lf:List PN,lf ≠ [] → Dim 2 lf → (Tv lf).length < lf.length):∀ (n k:Nat) (lf:List PN) (M:UH) (u:U) (sts:List U) (x3 x4:Option U),lf.length ≤ n → lf.length ≤ 60 → Dim 2 lf → sts.length + n ≤ 1000 → Gw L0 M → M[s]? = some (.lst sts) → SeqU u (lf.map nU) M → (∀ n,u = .ref n → n ≠ s) →
    ∃ (δ':UE) (M':UH),Fh C7 Fa (n + (k + 1)) [x0,some (.ref s),some u,x3,x4] M = some (.nx δ',M') ∧ Ad 1 δ' M' = some (.ref s,M') ∧ M'[s]? = some (.lst (sts ++ (stairsF n lf).map sU)) ∧ Gw L0 M':=by
  intro n
  induction n with
  | zero=>
    intro k lf M u sts x3 x4 hn hl hd hst hg hs hu hne
    have h0:lf = []:=List.length_eq_zero_iff.mp (by omega)
    subst h0
    have ht:C7 [x0,some (.ref s),some u,x3,x4] M = some (false,M):=by
      show ((Op u M).map fun k=>(k,M)) = _
      rw [hu.tru]; rfl
    refine ⟨[x0,some (.ref s),some u,x3,x4],M,?_,rfl,by rw [hs]; simp [stairsF],hg⟩
    show Fh _ _ (0 + (k + 1)) _ _ = _
    rw [Nat.zero_add]
    unfold Fh
    rw [ht]; rfl
  | succ n ih=>
    intro k lf M u sts x3 x4 hn hl hd hst hg hs hu hne
    have e1:n + 1 + (k + 1) = (n + (k + 1)) + 1:=by omega
    rw [e1]
    by_cases h0:lf = []
    · subst h0
      have ht:C7 [x0,some (.ref s),some u,x3,x4] M = some (false,M):=by
        show ((Op u M).map fun k=>(k,M)) = _
        rw [hu.tru]; rfl
      refine ⟨[x0,some (.ref s),some u,x3,x4],M,?_,rfl,by rw [hs]; simp [stairsF],hg⟩
      unfold Fh
      rw [ht]; rfl
    · have hem:lf.isEmpty = false:=by cases lf with | nil=>exact absurd rfl h0 | cons _ _=>rfl
      have ht:C7 [x0,some (.ref s),some u,x3,x4] M = some (true,M):=by
        show ((Op u M).map fun k=>(k,M)) = _
        rw [hu.tru]
        cases lf with
        | nil=>exact absurd rfl h0
        | cons _ _=>rfl
      obtain ⟨r,y3,y4,M',e,hs',hr',hrs,hg'⟩:=Sw hg hs0 hs hu hne hl hd (by omega) x0 x3 x4
      have hlt:=hdec lf h0 hd
      obtain ⟨δ',M2,e2,hv,hs2,hg2⟩:=ih k (Tv lf) M' (.ref r) _ y3 y4 (by omega) (by omega) (fun p hp=>hd p (List.mem_filter.mp hp).1) (by rw [List.length_append,List.length_singleton]; omega) hg' hs' (.inr ⟨r,rfl,hr'⟩) (fun m hm=>by cases hm; exact hrs)
      refine ⟨δ',M2,?_,hv,?_,hg2⟩
      · unfold Fh
        rw [ht]
        simp only [Option.bind_some,if_true,e,e2]
      · rw [hs2,stairsF,hem]
        simp
end Lw
set_option Elab.async false
set_option linter.all false
set_option maxRecDepth 100000
set_option maxHeartbeats 1000000
namespace Lw
open PySem L2 MR
theorem Abq:∀ (a b:List Int),a.length = b.length → ((a.zip b).all fun p=>decide (p.1 ≤ p.2)) = true → a.sum ≤ b.sum ∧ (a.sum = b.sum → a = b)
  | [],[],_,_=>⟨Int.le_refl _,fun _=>rfl⟩
  | [],_ :: _,h,_=>by cases h
  | _ :: _,[],h,_=>by cases h
  | x :: a,y :: b,h,hl=>by
    rw [List.zip_cons_cons,List.all_cons,Bool.and_eq_true] at hl
    have h1:=of_decide_eq_true hl.1
    obtain ⟨h2,h3⟩:=Abq a b (by simpa using h) hl.2
    simp only [List.sum_cons]
    refine ⟨by omega,fun he=>?_⟩
    have:x = y:=by simp only at h1; omega
    rw [this,h3 (by simp only at h1; omega)]
theorem Aha {a b:List Int} (hl:a.length = b.length) (h:und a b = true):a.sum < b.sum:=by
  unfold und at h
  rw [Bool.and_eq_true] at h
  obtain ⟨h1,h2⟩:=Abq a b hl h.2
  have hn:a ≠ b:=by simpa using h.1
  have:a.sum ≠ b.sum:=fun e=>hn (h2 e)
  omega
theorem Vm:∀ (l:List PN),l ≠ [] → ∃ p ∈ l,∀ q ∈ l,q.2.sum ≤ p.2.sum
  | [],h=>absurd rfl h
  | [a],_=>⟨a,List.mem_singleton.mpr rfl,fun q hq=>by rw [List.mem_singleton.mp hq]; exact Int.le_refl _⟩
  | a :: b :: l,_=>by
    obtain ⟨p,hp,h⟩:=Vm (b :: l) (by simp)
    by_cases hc:p.2.sum ≤ a.2.sum
    · refine ⟨a,List.mem_cons_self ..,fun q hq=>?_⟩
      rcases List.mem_cons.mp hq with rfl | hq
      · exact Int.le_refl _
      · exact Int.le_trans (h q hq) hc
    · refine ⟨p,List.mem_cons_of_mem _ hp,fun q hq=>?_⟩
      rcases List.mem_cons.mp hq with rfl | hq
      · omega
      · exact h q hq
theorem Agj {lf:List PN} {k:Nat} (h0:lf ≠ []) (hd:Dim k lf):(Tv lf).length < lf.length:=by
  obtain ⟨p,hp,hm⟩:=Vm lf h0
  unfold Tv
  rw [List.length_filter_lt_length_iff_exists]
  refine ⟨p,hp,?_⟩
  have:cA (lf.map Prod.snd) p.2 = 0:=by
    unfold cA
    rw [List.length_eq_zero_iff,List.filter_eq_nil_iff]
    intro a ha
    obtain ⟨q,hq,rfl⟩:=List.mem_map.mp ha
    intro hu
    have:=Aha (by rw [hd p hp,hd q hq]) hu
    have:=hm q hq
    omega
  rw [this]; simp
theorem Wj {lf:List PN} (hl:lf.length ≤ 60) (hd:Dim 2 lf) (L:UH):∃ L',Gv [.tup (lf.map nU)] L = some (.tup ((stairsF lf.length lf).map sU),L') ∧ Gw L L':=by
  have sm0:B9 ([]:List U).length = true:=small_of (by show 0 ≤ 16777216; decide)
  have s1:(Aw (C5 Af) (gN 1)) [some (.tup (lf.map nU)),none,none,none,none] L = some (.nx [some (.tup (lf.map nU)),some (.ref L.length),none,none,none],L ++ [.lst []]):=by
    rw [fAsg_eq,fLst_eq,fNil_eq,Option.bind_some,if_pos sm0]; rfl
  have s2:(Aw (Ad 0) (gN 2)) [some (.tup (lf.map nU)),some (.ref L.length),none,none,none] (L ++ [.lst []]) = some (.nx [some (.tup (lf.map nU)),some (.ref L.length),some (.tup (lf.map nU)),none,none],L ++ [.lst []]):=rfl
  obtain ⟨δ',M',e,hv,hs,g⟩:=R0 (L0:=L) (s:=L.length) (Nat.le_refl _) (some (.tup (lf.map nU))) (fun lf h0 hd=>Agj h0 hd) lf.length (100000 - lf.length - 1) lf (L ++ [.lst []]) (.tup (lf.map nU)) [] none none (Nat.le_refl _) hl hd (by show 0 + lf.length ≤ 1000; omega) (Gw.new _ _) (by simp) (.inl rfl) (fun n h=>by cases h)
  have hk:lf.length + (100000 - lf.length - 1 + 1) = 100000:=by omega
  rw [hk] at e
  rw [List.nil_append] at hs
  refine ⟨M',fnN rfl ?_,g⟩
  show b_stairs_of [some (.tup (lf.map nU)),none,none,none,none] L = _
  unfold b_stairs_of
  rw [Al s1,Al s2,Al e]
  exact J8 (Gg hv (Gd hs))
theorem Hv {β:Type} (f:β → List Int) (as:List β) (a:β):cB (as.map f) (f a) = (as.filter fun q=>und (f q) (f a)).length:=by
  unfold cB
  rw [List.filter_map,List.length_map]; rfl
theorem K8 {β:Type} (f:β → List Int) (as:List β) (a:β):cA (as.map f) (f a) = (as.filter fun q=>und (f a) (f q)).length:=by
  unfold cA
  rw [List.filter_map,List.length_map]; rfl
theorem Abj {β:Type} {f g:β → List Int} {as:List β} (h:∀ a ∈ as,∀ b ∈ as,und (f a) (f b) = und (g a) (g b)):∀ a ∈ as,cB (as.map f) (f a) = cB (as.map g) (g a):=fun a ha=>by
  rw [Hv,Hv]
  congr 1
  exact List.filter_congr fun q hq=>h q hq a ha
theorem Aa6 {β:Type} {f g:β → List Int} {as:List β} (h:∀ a ∈ as,∀ b ∈ as,und (f a) (f b) = und (g a) (g b)):∀ a ∈ as,cA (as.map f) (f a) = cA (as.map g) (g a):=fun a ha=>by
  rw [K8,K8]
  congr 1
  exact List.filter_congr fun q hq=>h a ha q hq
theorem Fs {β:Type} (f:β → List Int) (as:List β):cBs (as.map f) = as.map fun a=>((cB (as.map f) (f a):Nat):Int):=by
  unfold cBs
  rw [List.map_map]; rfl
theorem Pu {β:Type} {f g:β → List Int} {as:List β} (h:∀ a ∈ as,∀ b ∈ as,und (f a) (f b) = und (g a) (g b)):cBs (as.map f) = cBs (as.map g):=by
  rw [Fs,Fs]
  exact List.map_congr_left fun a ha=>by rw [Abj h a ha]
noncomputable def onP (f:List Int → List Int) (p:PN):PN:=(p.1,f p.2)
theorem Jj (f:List Int → List Int) (ps:List PN):(ps.map (onP f)).map Prod.snd = ps.map fun p=>f p.2:=by rw [List.map_map]; rfl
theorem Yn (f:List Int → List Int) (ps:List PN):bst (ps.map (onP f)) = (ps.filter fun p=>decide (cA (ps.map fun p=>f p.2) (f p.2) = 0)).map Prod.fst:=by
  unfold bst
  rw [Jj,List.filter_map,List.map_map]
  rfl
theorem P1 {f g:List Int → List Int} {ps:List PN} (h:∀ a ∈ ps,∀ b ∈ ps,und (f a.2) (f b.2) = und (g a.2) (g b.2)):bst (ps.map (onP f)) = bst (ps.map (onP g)):=by
  rw [Yn,Yn]
  congr 1
  refine List.filter_congr fun p hp=>?_
  rw [Aa6 (f:=fun p:PN=>f p.2) (g:=fun p:PN=>g p.2) h p hp]
theorem Aht (ps:List PN):ps.map (onP id) = ps:=by
  conv=>rhs; rw [← List.map_id ps]
  rfl
theorem und3 (x y z x' y' z':Int):und [x,y,z] [x',y',z'] = (!decide (x = x' ∧ y = y' ∧ z = z') && (decide (x ≤ x') && (decide (y ≤ y') && decide (z ≤ z')))):=by
  unfold und
  simp
theorem Wy (x y x' y':Int):und [x,y] [x',y'] = (!decide (x = x' ∧ y = y') && (decide (x ≤ x') && decide (y ≤ y'))):=by
  unfold und
  simp
theorem Ry {a b:List Int} {k:Nat} (ha:a.length = 3) (hb:b.length = 3) (hk:k < 3):und (a.set k 7) (b.set k 7) = und (a.eraseIdx k) (b.eraseIdx k):=by
  match a,ha,b,hb with
  | [x,y,z],_,[x',y',z'],_=>
    have:k = 0 ∨ k = 1 ∨ k = 2:=by omega
    rcases this with rfl | rfl | rfl
    · show und [7,y,z] [7,y',z'] = und [y,z] [y',z']
      rw [und3,Wy]; simp
    · show und [x,7,z] [x',7,z'] = und [x,z] [x',z']
      rw [und3,Wy]; simp
    · show und [x,y,7] [x',y',7] = und [x,y] [x',y']
      rw [und3,Wy]; simp
def rot (a:List Int):List Int:=a.drop 1 ++ a.take 1
theorem Adg {a b:List Int} (ha:a.length = 3) (hb:b.length = 3):und (rot a) (rot b) = und a b:=by
  match a,ha,b,hb with
  | [x,y,z],_,[x',y',z'],_=>
    show und [y,z,x] [y',z',x'] = und [x,y,z] [x',y',z']
    rw [und3,und3,Bool.eq_iff_iff]
    simp only [Bool.and_eq_true,Bool.not_eq_true',decide_eq_false_iff_not,decide_eq_true_eq]
    omega
def ngs (a:List Int):List Int:=a.map fun x=>0 - x
theorem Ab6 {a b:List Int} (ha:a.length = 3) (hb:b.length = 3):und (ngs a) (ngs b) = und b a:=by
  match a,ha,b,hb with
  | [x,y,z],_,[x',y',z'],_=>
    show und [0 - x,0 - y,0 - z] [0 - x',0 - y',0 - z'] = und [x',y',z'] [x,y,z]
    rw [und3,und3,Bool.eq_iff_iff]
    simp only [Bool.and_eq_true,Bool.not_eq_true',decide_eq_false_iff_not,decide_eq_true_eq]
    omega
theorem Abo {a b:List Int} {k:Nat} (ha:a.length = 3) (hb:b.length = 3) (hk:k < 3) (h:und a b = true):und (a.eraseIdx k) (b.eraseIdx k) = true ∨ (a.eraseIdx k = b.eraseIdx k ∧ a ≠ b):=by
  match a,ha,b,hb with
  | [x,y,z],_,[x',y',z'],_=>
    rw [und3] at h
    simp only [Bool.and_eq_true,Bool.not_eq_true',decide_eq_false_iff_not,decide_eq_true_eq] at h
    have:k = 0 ∨ k = 1 ∨ k = 2:=by omega
    rcases this with rfl | rfl | rfl
    · show und [y,z] [y',z'] = true ∨ ([y,z] = [y',z'] ∧ _)
      rw [Wy]
      simp only [Bool.and_eq_true,Bool.not_eq_true',decide_eq_false_iff_not,decide_eq_true_eq,List.cons.injEq,and_true,ne_eq]
      omega
    · show und [x,z] [x',z'] = true ∨ ([x,z] = [x',z'] ∧ _)
      rw [Wy]
      simp only [Bool.and_eq_true,Bool.not_eq_true',decide_eq_false_iff_not,decide_eq_true_eq,List.cons.injEq,and_true,ne_eq]
      omega
    · show und [x,y] [x',y'] = true ∨ ([x,y] = [x',y'] ∧ _)
      rw [Wy]
      simp only [Bool.and_eq_true,Bool.not_eq_true',decide_eq_false_iff_not,decide_eq_true_eq,List.cons.injEq,and_true,ne_eq]
      omega
theorem Sj {β:Type} (l:List β) (p q r:β → Bool) (h:∀ x ∈ l,p x = true → q x = true ∨ r x = true):(l.filter p).length ≤ (l.filter q).length + (l.filter r).length:=by
  induction l with
  | nil=>simp
  | cons a l ih=>
    have ih:=ih fun x hx=>h x (List.mem_cons_of_mem _ hx)
    have ha:=h a (List.mem_cons_self ..)
    simp only [List.filter_cons]
    cases hp:p a <;> cases hq:q a <;> cases hr:r a <;> simp [hp,hq,hr] at ha ⊢ <;> omega
theorem Te {β:Type} [DecidableEq β] (l:List β) (r:β → Bool) (a:β) (ha:a ∈ l) (hr:r a = true):(l.filter fun x=>r x && !decide (x = a)).length + 1 ≤ (l.filter r).length:=by
  induction l with
  | nil=>cases ha
  | cons b l ih=>
    simp only [List.filter_cons]
    rcases List.mem_cons.mp ha with rfl | h
    · simp only [hr,decide_true,Bool.not_true,Bool.and_false,Bool.false_eq_true,if_false,if_true,List.length_cons]
      have:=Sj l (fun x=>r x && !decide (x = a)) r (fun _=>false) (fun x _ hx=>by rw [Bool.and_eq_true] at hx; exact .inl hx.1)
      have h0:(l.filter fun _=>false).length = 0:=by simp
      omega
    · have ih:=ih h
      cases hb:r b <;> by_cases hc:b = a <;> simp [hb,hc] <;> omega
theorem X3 {ps:List PN} {k:Nat} (hk:k < 3) (hd:Dim 3 ps) {p:PN} (hp:p ∈ ps) :
    cB (ps.map Prod.snd) p.2 + 1 ≤ cB (ps.map fun p=>p.2.eraseIdx k) (p.2.eraseIdx k) + (ps.filter fun q=>decide (q.2.eraseIdx k = p.2.eraseIdx k)).length:=by
  rw [Hv (f:=fun p:PN=>p.2.eraseIdx k),Hv (f:=Prod.snd)]
  have h1:=Sj ps (fun q=>und q.2 p.2) (fun q=>und (q.2.eraseIdx k) (p.2.eraseIdx k)) (fun q=>decide (q.2.eraseIdx k = p.2.eraseIdx k) && !decide (q = p)) (fun q hq h=>by
    rcases Abo (hd q hq) (hd p hp) hk h with h | ⟨h,h'⟩
    · exact .inl h
    · refine .inr ?_
      rw [Bool.and_eq_true]
      exact ⟨decide_eq_true h,by simp only [Bool.not_eq_true',decide_eq_false_iff_not]; intro e; exact h' (by rw [e])⟩)
  have h2:=Te ps (fun q=>decide (q.2.eraseIdx k = p.2.eraseIdx k)) p hp (decide_eq_true rfl)
  have h3:(ps.filter (fun q=>und q.2 p.2)).length + 1 ≤ (ps.filter fun q=>und (q.2.eraseIdx k) (p.2.eraseIdx k)).length + (ps.filter fun q=>decide (q.2.eraseIdx k = p.2.eraseIdx k)).length:=by omega
  exact h3
end Lw
set_option Elab.async false
set_option linter.all false
set_option maxRecDepth 100000
set_option maxHeartbeats 1000000
namespace Lw
open PySem L2 MR
theorem W8 (n:Str) (x y z:Int) {k:Nat} (hk:k < 3) (x0 x2 x3 x5:Option U) (M:UH):(f2 Bd (fSl Ge (Ad 4) (B7 (fC (.int 1))) (B7 (f2 Bd (Ad 1) (fC (.int 1))))) (fSl Ge (Ad 4) (B7 (f2 Bd (Ad 1) (fC (.int 2)))) Bl)) [x0,some (.int (k:Nat)),x2,x3,some (nU (n,[x,y,z])),x5] M = some (tI ([x,y,z].eraseIdx k),M):=by
  have:k = 0 ∨ k = 1 ∨ k = 2:=by omega
  rcases this with rfl | rfl | rfl
  · rfl
  · rfl
  · rfl
theorem Xw (n:Str) (x y z:Int) {k:Nat} (hk:k < 3) (x0 x2 x3 x5:Option U) (M:UH):(f2 Bd (f2 Bd (fSl Ge (Ad 4) Bl (B7 (f2 Bd (Ad 1) (fC (.int 1))))) (Em (Ac (fC (.int 7)) Af))) (fSl Ge (Ad 4) (B7 (f2 Bd (Ad 1) (fC (.int 2)))) Bl)) [x0,some (.int (k:Nat)),x2,x3,some (nU (n,[x,y,z])),x5] M = some (nU (n,[x,y,z].set k 7),M):=by
  have:k = 0 ∨ k = 1 ∨ k = 2:=by omega
  rcases this with rfl | rfl | rfl
  · rfl
  · rfl
  · rfl
theorem T6 (n:Str) (x y z:Int) {k:Nat} (hk:k < 3) (x0 x1 x2 x3:Option U) (M:UH):(f2 Bd (Em (Ac (f2 Ar (Ad 4) (fC (.int 0))) Af)) (Ad 5)) [x0,x1,x2,x3,some (nU (n,[x,y,z])),some (tI ([x,y,z].eraseIdx k))] M = some (nU (n,[x,y,z].eraseIdx k),M):=by
  have:k = 0 ∨ k = 1 ∨ k = 2:=by omega
  rcases this with rfl | rfl | rfl
  · rfl
  · rfl
  · rfl
noncomputable def flP (k:Nat) (p:PN):PN:=onP (fun a=>a.set k 7) p
noncomputable def plP (k:Nat) (p:PN):PN:=onP (fun a=>a.eraseIdx k) p
theorem Xv {M:UH} {f g k:Nat} {fl pl:List U} {p:PN} (h3:p.2.length = 3) (hk:k < 3) (hf:M[f]? = some (.lst fl)) (hg:M[g]? = some (.lst pl)) (hfg:f ≠ g) (hl1:fl.length ≤ 1000) (hl2:pl.length ≤ 1000) (x0 x5:Option U) :
    Hs [x0,some (.int (k:Nat)),some (.ref f),some (.ref g),some (nU p),x5] M = some (.nx [x0,some (.int (k:Nat)),some (.ref f),some (.ref g),some (nU p),some (tI (p.2.eraseIdx k))],(M.set f (.lst (fl ++ [nU (flP k p)]))).set g (.lst (pl ++ [nU (plP k p)]))):=by
  obtain ⟨n,a⟩:=p
  match a,h3 with
  | [x,y,z],_=>
    have s1:=Fk (i:=5) (W8 n x y z hk x0 (some (.ref f)) (some (.ref g)) x5 M)
    simp only [List.set_cons_succ,List.set_cons_zero] at s1
    have s2:=Rg (i:=2) (δ:=[x0,some (.int (k:Nat)),some (.ref f),some (.ref g),some (nU (n,[x,y,z])),some (tI ([x,y,z].eraseIdx k))]) rfl hf (Xw n x y z hk x0 (some (.ref f)) (some (.ref g)) (some (tI ([x,y,z].eraseIdx k))) M) hf hl1
    have hg2:(M.set f (.lst (fl ++ [nU (n,[x,y,z].set k 7)])))[g]? = some (.lst pl):=by rw [List.getElem?_set_ne hfg]; exact hg
    have s3:=Rg (i:=3) (δ:=[x0,some (.int (k:Nat)),some (.ref f),some (.ref g),some (nU (n,[x,y,z])),some (tI ([x,y,z].eraseIdx k))]) rfl hg2 (T6 n x y z hk x0 (some (.int (k:Nat))) (some (.ref f)) (some (.ref g)) _) hg2 hl2
    unfold Hs
    rw [Al s1,Al s2]
    exact s3
theorem Adc {ps:List PN} {k:Nat} (hl:ps.length ≤ 60) (hd:Dim 3 ps) (hk:k < 3) (L:UH):∃ (r:Nat) (L':UH),Kf [.tup (ps.map nU),.int (k:Nat)] L = some (.ref r,L') ∧ L'[r]? = some (.lst [.tup ((ps.map (flP k)).map nU),.tup ((ps.map (plP k)).map nU)]) ∧ Gw L L':=by
  have sm0:B9 ([]:List U).length = true:=small_of (by show 0 ≤ 16777216; decide)
  have sm2:∀ x y:U,B9 [x,y].length = true:=fun _ _=>small_of (by show 2 ≤ 16777216; decide)
  have l0:∀ δ M,(C5 Af) δ M = some (.ref M.length,M ++ [.lst []]):=fun δ M=>by rw [fLst_eq,fNil_eq,Option.bind_some,if_pos sm0]
  generalize hP:U.tup (ps.map nU) = P
  have s1:=Fk (i:=2) (l0 [some P,some (.int (k:Nat)),none,none,none,none] L)
  have s2:=Fk (i:=3) (l0 [some P,some (.int (k:Nat)),some (.ref L.length),none,none,none] (L ++ [.lst []]))
  simp only [List.set_cons_succ,List.set_cons_zero] at s1 s2
  have hi:Bm (Ad 0) [some P,some (.int (k:Nat)),some (.ref L.length),some (.ref (L ++ [HU.lst []]).length),none,none] (L ++ [.lst []] ++ [.lst []]) = some (.seq (ps.map nU),L ++ [.lst []] ++ [.lst []]):=by rw [← hP]; rfl
  have hfg:L.length ≠ (L ++ [HU.lst []]).length:=by simp
  have hgL:L.length ≤ (L ++ [HU.lst []]).length:=by simp
  have k1:(L ++ [HU.lst []] ++ [HU.lst []])[L.length]? = some (.lst []):=by simp
  have k2:(L ++ [HU.lst []] ++ [HU.lst []])[(L ++ [HU.lst []]).length]? = some (.lst []):=by simp
  have g0:Gw L (L ++ [HU.lst []] ++ [HU.lst []]):=(Gw.new _ _).trans (Gw.new _ _)
  generalize (L ++ [HU.lst []]).length = g at hi s2 hfg hgL k2
  generalize L ++ [HU.lst []] ++ [HU.lst []] = L1 at hi s2 k1 k2 g0
  obtain ⟨δ',M,e,y4,y5,hδ,hf,hgg,gM⟩:=Ks (us:=ps.map nU) (body:=Hs) (g:=gN 4)
    (fun j δ' M=>∃ (y4 y5:Option U),δ' = [some P,some (.int (k:Nat)),some (.ref L.length),some (.ref g),y4,y5] ∧ M[L.length]? = some (.lst ((ps.take j).map fun p=>nU (flP k p))) ∧ M[g]? = some (.lst ((ps.take j).map fun p=>nU (plP k p))) ∧ Gw L M)
    hi ⟨none,none,rfl,k1,k2,g0⟩
    (fun j u δ M hu ⟨y4,y5,hδ,hf,hgg,gM⟩=>by
      subst hδ
      rw [List.getElem?_map] at hu
      obtain ⟨p,hp,rfl⟩:=Option.map_eq_some_iff.mp hu
      have hfl:=(List.getElem?_eq_some_iff.mp hf).1
      have hgl:=(List.getElem?_eq_some_iff.mp hgg).1
      have e:=Xv (hd p (List.mem_of_getElem? hp)) hk hf hgg hfg (by rw [List.length_map,List.length_take]; omega) (by rw [List.length_map,List.length_take]; omega) (some P) y5
      refine ⟨[some P,some (.int (k:Nat)),some (.ref L.length),some (.ref g),some (nU p),y5],M,rfl,_,_,.inl e,_,_,rfl,?_,?_,((gM.set (Nat.le_refl _) _).set hgL _)⟩
      · rw [List.getElem?_set_ne (Ne.symm hfg),List.getElem?_set_self hfl,List.take_add_one,hp]; simp
      · rw [List.getElem?_set_self (by rw [List.length_set]; exact hgl),List.take_add_one,hp]; simp)
  rw [List.length_map,List.take_length] at hf hgg
  rw [hδ] at e
  have hf':M[L.length]? = some (.lst ((ps.map (flP k)).map nU)):=by rw [hf,List.map_map]; rfl
  have hg':M[g]? = some (.lst ((ps.map (plP k)).map nU)):=by rw [hgg,List.map_map]; rfl
  generalize (ps.map (flP k)).map nU = F at hf' ⊢
  generalize (ps.map (plP k)).map nU = G at hg' ⊢
  have c1:(A8 A7 (Ac (Ad 2) Af)) [some P,some (.int (k:Nat)),some (.ref L.length),some (.ref g),y4,y5] M = some (.tup F,M):=Gg rfl (Gd hf')
  have c2:(A8 A7 (Ac (Ad 3) Af)) [some P,some (.int (k:Nat)),some (.ref L.length),some (.ref g),y4,y5] M = some (.tup G,M):=Gg rfl (Gd hg')
  refine ⟨M.length,M ++ [.lst [.tup F,.tup G]],fnN rfl ?_,by simp,gM.trans (Gw.new _ _)⟩
  show b_l_flat [some P,some (.int (k:Nat)),none,none,none,none] L = _
  unfold b_l_flat
  rw [Al s1,Al s2,Al e]
  refine J8 ?_
  rw [fLst_eq,fCons_eq,c1,Option.bind_some,fCons_eq,c2]
  simp only [Option.bind_some,fNil_eq,Option.map_some]
  rw [if_pos (sm2 _ _)]
end Lw
set_option Elab.async false
set_option linter.all false
set_option maxRecDepth 100000
set_option maxHeartbeats 1000000
namespace Lw
open PySem L2 MR
def T8 (ps:List PN):Prop:=∀ p ∈ ps,Low p.1
theorem Aif {p:PN} (h:Low p.1):Pl 5 (nU p):=by
  unfold nU
  rw [E6]
  intro u hu
  rcases List.mem_cons.mp hu with rfl | hu
  · show Pl 4 (.str p.1)
    simpa [Pl] using h.ok
  · obtain ⟨i,_,rfl⟩:=List.mem_map.mp hu
    exact Pl.int _ _
theorem Aby {us:List U} (h:∀ u ∈ us,Pl 5 u):eqB (.tup us) (.tup []) = us.isEmpty:=by
  have:=Qs (u:=.tup us) (w:=.tup []) (E6.mpr h) (E6.mpr (fun u hu=>by cases hu))
  cases us with
  | nil=>exact this.mpr rfl
  | cons a us=>
    cases hq:eqB (.tup (a :: us)) (.tup []) with
    | false=>rfl
    | true=>exact absurd (this.mp hq) (by simp)
theorem Afg (δ:UE) (L:UH):(Em Af) δ L = some (.tup [],L):=by
  rw [Jf,fNil_eq,Option.bind_some,if_pos (small_of (by show 0 ≤ 16777216; decide))]
theorem R5 {ps:List PN} (h:T8 ps) (L:UH):Bx (.tup (ps.map nU)) (.tup []) L = some (.bl (!ps.isEmpty),L):=by
  have hp:∀ u ∈ ps.map nU,Pl 5 u:=fun u hu=>by obtain ⟨p,hp,rfl⟩:=List.mem_map.mp hu; exact Aif (h p hp)
  rw [Ni L (E6.mpr hp) (E6.mpr (fun u hu=>by cases hu)),Aby hp]
  cases ps <;> rfl
theorem N3 {ts:List Str} (h:ts.length < 64) (L:UH):Eg [sU ts] L = some (.ref L.length,L ++ [.lst ((Bv ts).map U.str)]):=by
  unfold Eg sU
  simp only [N5,Option.bind_some]
  rw [if_pos h]
theorem Ui {x:Str} (h:Low x) (n:Nat):Pl n (.str x):=by
  cases n <;> simpa [Pl] using h.ok
theorem Acq {ps:List PN} {x:Str} (h:x ∈ bst ps):∃ p ∈ ps,p.1 = x:=by
  obtain ⟨p,hp,rfl⟩:=List.mem_map.mp h
  exact ⟨p,(List.mem_filter.mp hp).1,rfl⟩
theorem V4 {ps:List PN} (h:T8 ps):∀ x ∈ bst ps,Low x:=fun x hx=>by
  obtain ⟨p,hp,rfl⟩:=Acq hx
  exact h p hp
theorem Ad6 (ps:List PN):(bst ps).length ≤ ps.length:=by
  unfold bst
  rw [List.length_map]; exact List.length_filter_le _ _
theorem Tr {ps:List PN} {k:Nat} (hd:Dim 3 ps):Dim 3 (ps.map (flP k)):=fun p hp=>by
  obtain ⟨q,hq,rfl⟩:=List.mem_map.mp hp
  show (q.2.set k 7).length = 3
  rw [List.length_set]; exact hd q hq
theorem Lo {ps:List PN} {k:Nat} (hk:k < 3) (hd:Dim 3 ps):Dim 2 (ps.map (plP k)):=fun p hp=>by
  obtain ⟨q,hq,rfl⟩:=List.mem_map.mp hp
  show (q.2.eraseIdx k).length = 2
  have:=hd q hq
  rw [List.length_eraseIdx,if_pos (by omega)]; omega
theorem Xh {ps:List PN} {k:Nat} (hk:k < 3) (hd:Dim 3 ps):cBs ((ps.map (flP k)).map Prod.snd) = cBs ((ps.map (plP k)).map Prod.snd):=by
  have h1:(ps.map (flP k)).map Prod.snd = ps.map fun p=>p.2.set k 7:=Jj (fun a=>a.set k 7) ps
  have h2:(ps.map (plP k)).map Prod.snd = ps.map fun p=>p.2.eraseIdx k:=Jj (fun a=>a.eraseIdx k) ps
  rw [h1,h2]
  exact Pu fun a ha b hb=>Ry (hd a ha) (hd b hb) hk
theorem Wl {ps:List PN} {k:Nat} (hk:k < 3) (hd:Dim 3 ps):bst (ps.map (flP k)) = (E7 (ps.map (plP k))).map Prod.fst:=
  P1 (f:=fun a=>a.set k 7) (g:=fun a=>a.eraseIdx k) fun a ha b hb=>Ry (hd a ha) (hd b hb) hk
theorem Ab5 {fa fb:FE} {δ:UE} {L L1 L2:UH} {l:List Int} (h1:fa δ L = some (.tup (l.map U.int),L1)) (h2:fb δ L1 = some (.tup (l.map U.int),L2)):Bk (f2 Bx fa fb) δ L = some (false,L2):=
  Dl (Bq h1 h2 (by rw [Qz]; simp))
theorem Af6 {fa fb:FE} {δ:UE} {L L1 L2:UH} {i:Int} (h1:fa δ L = some (.int i,L1)) (h2:fb δ L1 = some (.int i,L2)):Bk (f2 Bx fa fb) δ L = some (false,L2):=
  Dl (Bq h1 h2 (by rw [Ps]; simp))
theorem Ag0 {c d:FT} {δ:UE} {L L1:UH} (h:c δ L = some (false,L1)):Om c d δ L = some (false,L1):=by
  rw [Mw,h]; rfl
theorem Ajg {c d:FT} {δ:UE} {L L1 L2:UH} {b:Bool} (h:c δ L = some (true,L1)) (h2:d δ L1 = some (b,L2)):Om c d δ L = some (b,L2):=by
  rw [Mw,h,Option.bind_some,if_pos rfl,h2]
theorem T5 {ps:List PN} {k:Nat} (hl:ps.length ≤ 60) (hlow:T8 ps) (hd:Dim 3 ps) (hk:k < 3) (x0 x2 x5 x6 x7:Option U) (L:UH) :
    ∃ L',(Fw (Om (Bk (f2 Bx (Ad 1) (Em Af))) (Bk (f2 Bx (A8 Eg (Ac (Ad 4) Af)) (A8 Eg (Ac (f2 Ar (Av 1 Gv (Ac (Ad 3) Af)) (fC (.int 0))) Af))))) (Bz (fC (.bl false))) Du) [x0,some (.tup (ps.map nU)),x2,some (.tup ((ps.map (plP k)).map nU)),some (sU (bst (ps.map (flP k)))),x5,x6,x7] L = some (.nx [x0,some (.tup (ps.map nU)),x2,some (.tup ((ps.map (plP k)).map nU)),some (sU (bst (ps.map (flP k)))),x5,x6,x7],L') ∧ Gw L L':=by
  generalize hδ:[x0,some (.tup (ps.map nU)),x2,some (.tup ((ps.map (plP k)).map nU)),some (sU (bst (ps.map (flP k)))),x5,x6,x7] = δ
  have v1:Ad 1 δ L = some (.tup (ps.map nU),L):=by rw [← hδ]; rfl
  have v3:∀ M,Ad 3 δ M = some (.tup ((ps.map (plP k)).map nU),M):=fun M=>by rw [← hδ]; rfl
  have v4:Ad 4 δ L = some (sU (bst (ps.map (flP k))),L):=by rw [← hδ]; rfl
  have t1:=Dl (Bq v1 (Afg δ L) (R5 hlow L))
  by_cases h0:ps = []
  · have he:ps.isEmpty = true:=by rw [h0]; rfl
    rw [he] at t1
    exact ⟨L,Is (Ag0 t1),Gw.refl L⟩
  · have he:ps.isEmpty = false:=by cases ps with | nil=>exact absurd rfl h0 | cons _ _=>rfl
    rw [he] at t1
    have hlp:(ps.map (plP k)).length ≤ 60:=by rw [List.length_map]; exact hl
    have hb:=Ad6 (ps.map (flP k))
    rw [List.length_map] at hb
    have c1:=Gg v4 (N3 (by omega) L)
    obtain ⟨L2,e2,g2⟩:=Wj hlp (Lo hk hd) (L ++ [.lst ((Bv (bst (ps.map (flP k)))).map U.str)])
    have hst:∃ rest,stairsF (ps.map (plP k)).length (ps.map (plP k)) = ((Fv (E7 (ps.map (plP k)))).map Prod.fst) :: rest:=by
      cases ps with
      | nil=>exact absurd rfl h0
      | cons a ps=>exact ⟨_,rfl⟩
    obtain ⟨rest,hst⟩:=hst
    rw [hst] at e2
    have i2:Ar (.tup ((((Fv (E7 (ps.map (plP k)))).map Prod.fst) :: rest).map sU)) (.int 0) L2 = some (sU ((Fv (E7 (ps.map (plP k)))).map Prod.fst),L2):=by
      rw [P0,Lj (by decide) (by rw [List.map_cons,List.length_cons]; omega)]; rfl
    have hper:((Fv (E7 (ps.map (plP k)))).map Prod.fst).Perm (bst (ps.map (flP k))):=by
      rw [Wl hk hd]; exact (Pq _).map _
    have c2:=Gg (Bq (s:=Ar) (fb:=fC (.int 0)) (Ds (v3 _) e2) rfl i2) (N3 (by rw [hper.length_eq]; omega) L2)
    rw [Sq hper] at c2
    have q1:Ao (L2 ++ [HU.lst ((Bv (bst (ps.map (flP k)))).map U.str)]) L.length = some ((Bv (bst (ps.map (flP k)))).map U.str):=Aq ((Gw.new _ _).get (g2.get (by simp)))
    have q2:Ao (L2 ++ [HU.lst ((Bv (bst (ps.map (flP k)))).map U.str)]) L2.length = some ((Bv (bst (ps.map (flP k)))).map U.str):=Aq (by simp)
    have hpl:∀ u ∈ (Bv (bst (ps.map (flP k)))).map U.str,Pl 6 u:=fun u hu=>by
      obtain ⟨x,hx,rfl⟩:=List.mem_map.mp hu
      refine Ui (V4 (fun p hp=>?_) x ((Ka _).mem_iff.mp hx)) _
      obtain ⟨q,hq,rfl⟩:=List.mem_map.mp hp
      exact hlow q hq
    have hn:=P7 q1 q2 hpl hpl
    rw [(S6 hpl hpl).mpr rfl] at hn
    exact ⟨_,Is (Ajg t1 (Dl (Bq c1 c2 hn))),(Gw.new _ _).trans (g2.trans (Gw.new _ [HU.lst ((Bv (bst (ps.map (flP k)))).map U.str)]))⟩
end Lw
set_option Elab.async false
set_option linter.all false
set_option maxRecDepth 100000
set_option maxHeartbeats 1000000
namespace Lw
open PySem L2 MR
theorem Yt {β:Type} (l:List β) (f g h:β → U):K1 (l.map f) (l.map g) (l.map h) = l.map fun a=>.tup [f a,g a,h a]:=by
  unfold K1
  rw [List.zip_map',List.zip_map',List.map_map]
  rfl
theorem Ah7 {p:PN} (h:p.2.length = 2) (M:UH):Eu (nU p) (some 1) none M = some (tI p.2,M):=by
  obtain ⟨n,a⟩:=p
  match a,h with
  | [x,y],_=>rfl
theorem Abv {pl:List PN} {p:PN} (hl:pl.length ≤ 60) (hd:Dim 2 pl) (hp:p.2.length = 2) {δ:UE} {L:UH} (h3:Ad 3 δ L = some (.tup (pl.map nU),L)) (h7:Ht [none,some 7] δ = [none,some (nU p)]) :
    ∃ L',(A8 Cm (Ac (Bb [none,some 7] (Bm (Ad 3)) (gN 0) (some Ec) Eb) Af)) δ L = some (.int ((pl.filter fun q=>decide (q.2 = p.2)).length:Nat),L') ∧ Gw L L':=by
  obtain ⟨x,e⟩:=Ez (ix:=[none,some 7]) (fi:=Bm (Ad 3)) (it:=.seq (pl.map nU)) (g:=gN 0) (tt:=some Ec) (fe:=Eb) (δ:=δ) (L:=L) (L0:=L)
    pl nU (fun q=>decide (q.2 = p.2)) (fun _=>.int 1) (fun δ=>∃ z,δ = [z,some (nU p)]) (by rw [Hi,h3]; rfl) (by simp [IU.size]) (by omega) ⟨none,h7⟩
    (fun k x=>rfl)
    (fun q δ x hq ⟨y,hδ⟩=>by
      subst hδ
      refine ⟨[some (nU q),some (nU p)],rfl,⟨_,rfl⟩,[],?_,fun _=>⟨[],by rw [List.append_nil,List.append_nil]; rfl⟩⟩
      rw [List.append_nil]
      have c1:(fSl Eu (Ad 0) (B7 (fC (.int 1))) Bl) [some (nU q),some (nU p)] (L ++ x) = some (tI q.2,L ++ x):=by
        have:=Ah7 (hd q hq) (L ++ x)
        simp only [fSl_eq,fVar_eq,fPart_eq,fC_eq,fNoPart_eq,List.getElem?_cons_zero,Option.join_some,Option.map_some,Option.bind_some,this]
      have c2:(fSl Eu (Ad 1) (B7 (fC (.int 1))) Bl) [some (nU q),some (nU p)] (L ++ x) = some (tI p.2,L ++ x):=by
        have:=Ah7 hp (L ++ x)
        simp only [fSl_eq,fVar_eq,fPart_eq,fC_eq,fNoPart_eq,List.getElem?_cons_succ,List.getElem?_cons_zero,Option.join_some,Option.map_some,Option.bind_some,this]
      exact Dl (Bq c1 c2 (Wc q.2 p.2 _)))
  have q1:(L ++ x ++ [HU.lst ((pl.filter fun q=>decide (q.2 = p.2)).map fun _=>U.int 1)])[(L ++ x).length]? = some (.lst ((pl.filter fun q=>decide (q.2 = p.2)).map fun _=>U.int 1)):=by simp
  have hlen:=Mv q1
  rw [List.length_map] at hlen
  exact ⟨_,Gg e hlen,⟨x ++ [HU.lst ((pl.filter fun q=>decide (q.2 = p.2)).map fun _=>U.int 1)],by rw [List.append_assoc]⟩⟩
noncomputable def tpU (ps:List PN) (k:Nat) (p:PN):U:=.tup [.int (cB (ps.map Prod.snd) p.2:Int),.int (cB (ps.map fun p=>p.2.eraseIdx k) (p.2.eraseIdx k):Int),nU (plP k p)]
theorem Ahw {ps:List PN} (k:Nat):K1 ((cBs (ps.map Prod.snd)).map U.int) ((cBs ((ps.map (plP k)).map Prod.snd)).map U.int) ((ps.map (plP k)).map nU) = ps.map (tpU ps k):=by
  have h2:(ps.map (plP k)).map Prod.snd = ps.map fun p=>p.2.eraseIdx k:=Jj (fun a=>a.eraseIdx k) ps
  rw [h2,Fs (fun p:PN=>p.2.eraseIdx k),Fs (Prod.snd:PN → List Int),List.map_map,List.map_map,List.map_map,Yt]
  rfl
theorem Tz {ps:List PN} {k:Nat} (hl:ps.length ≤ 60) (hd:Dim 3 ps) (hk:k < 3) {p:PN} (hp:p ∈ ps) (x0 x1 x2 x4:Option U) (L:UH) :
    ∃ L',Et [x0,x1,x2,some (.tup ((ps.map (plP k)).map nU)),x4,some (.int (cB (ps.map Prod.snd) p.2:Int)),some (.int (cB (ps.map fun p=>p.2.eraseIdx k) (p.2.eraseIdx k):Int)),some (nU (plP k p))] L = some (.nx [x0,x1,x2,some (.tup ((ps.map (plP k)).map nU)),x4,some (.int (cB (ps.map Prod.snd) p.2:Int)),some (.int (cB (ps.map fun p=>p.2.eraseIdx k) (p.2.eraseIdx k):Int)),some (nU (plP k p))],L') ∧ Gw L L':=by
  have hfew:=X3 hk hd hp
  generalize cB (ps.map Prod.snd) p.2 = a at hfew ⊢
  generalize cB (ps.map fun p=>p.2.eraseIdx k) (p.2.eraseIdx k) = b at hfew ⊢
  have hpl:(plP k p).2.length = 2:=Lo hk hd _ (List.mem_map_of_mem hp)
  obtain ⟨L',e,g⟩:=Abv (pl:=ps.map (plP k)) (p:=plP k p) (by rw [List.length_map]; exact hl) (Lo hk hd) hpl (δ:=[x0,x1,x2,some (.tup ((ps.map (plP k)).map nU)),x4,some (.int (a:Int)),some (.int (b:Int)),some (nU (plP k p))]) (L:=L) rfl rfl
  have hc:((ps.map (plP k)).filter fun q=>decide (q.2 = (plP k p).2)).length = (ps.filter fun q=>decide (q.2.eraseIdx k = p.2.eraseIdx k)).length:=by
    rw [List.filter_map,List.length_map]; rfl
  rw [hc] at e
  generalize (ps.filter fun q=>decide (q.2.eraseIdx k = p.2.eraseIdx k)).length = c at hfew e
  refine ⟨L',Is (Dl ?_),g⟩
  have h1:=Bq (s:=At) (fa:=Ad 6) (δ:=[x0,x1,x2,some (.tup ((ps.map (plP k)).map nU)),x4,some (.int (a:Int)),some (.int (b:Int)),some (nU (plP k p))]) rfl e rfl
  have h2:=Bq (s:=Gn) (fb:=fC (.int 1)) h1 rfl rfl
  refine Bq (fa:=Ad 5) rfl h2 ?_
  rw [W1,decide_eq_false (by omega)]
theorem Nn {ps:List PN} {L:UH} {d:Nat} {B:Int} (hl:ps.length ≤ 60) (hlow:T8 ps) (hd:Dim 3 ps) (D:Gdk L d B) (hB:B ≤ 1000000) :
    ∃ L',Fg [.ref d,.tup (ps.map nU)] L = some (.bl true,L') ∧ Gdk L' d (B + 1) ∧ Ex d L L':=by
  obtain ⟨i,L1,e1,i0,i1,D1,x1⟩:=B8 (many:=3) D (by omega) (by decide) (by decide)
  obtain ⟨k,rfl⟩:∃ k:Nat,i = (k:Int):=⟨i.toNat,by omega⟩
  have hk:k < 3:=by omega
  obtain ⟨r,L2,e2,hr,g2⟩:=Adc hl hd hk L1
  have hlf:(ps.map (flP k)).length ≤ 1000:=by rw [List.length_map]; omega
  have hlp:(ps.map (plP k)).length ≤ 1000:=by rw [List.length_map]; omega
  have s1:(Aw (Av 2 Kf (Ac (Ad 1) (Ac (Av 2 An (Ac (Ad 0) (Ac (fC (.int 3)) Af))) Af))) (Qd 2 (MR.gCons (gN 2) (MR.gCons (gN 3) MR.gNil)))) [some (.ref d),some (.tup (ps.map nU)),none,none,none,none,none,none] L = some (.nx [some (.ref d),some (.tup (ps.map nU)),some (.tup ((ps.map (flP k)).map nU)),some (.tup ((ps.map (plP k)).map nU)),none,none,none,none],L2):=by
    have hd1:=K0 (f:=An) (i:=0) (δ:=[some (.ref d),some (.tup (ps.map nU)),none,none,none,none,none,none]) (L:=L) rfl e1
    have v1:Ad 1 [some (.ref d),some (.tup (ps.map nU)),none,none,none,none,none,none] L = some (.tup (ps.map nU),L):=rfl
    have ho:=Afw v1 hd1 e2
    have hs:=Aq hr
    rw [fAsg_eq,ho,Option.bind_some]
    unfold Qd
    simp only [hs,Option.bind_some,List.length_cons,List.length_nil,if_true,Aaa,gN_eq,Ad5,Option.map_some,List.set_cons_succ,List.set_cons_zero]
  obtain ⟨L3,e3,g3⟩:=Bt hlf (Tr (k:=k) hd) L2
  obtain ⟨L4,e4,g4⟩:=G5 hlp (Lo hk hd) L3
  obtain ⟨L5,e5,g5⟩:=G9 hlf (Tr (k:=k) hd) L4
  obtain ⟨L6,e6,g6⟩:=Rs hlp (Lo hk hd) L5
  obtain ⟨L7,e7,g7⟩:=Cw hlf (Tr (k:=k) hd) L6
  rw [Xh hk hd] at e3 e5
  generalize hδ1:([some (.ref d),some (.tup (ps.map nU)),some (.tup ((ps.map (flP k)).map nU)),some (.tup ((ps.map (plP k)).map nU)),none,none,none,none]:UE) = δ1 at s1
  have v2:∀ M,Ad 2 δ1 M = some (.tup ((ps.map (flP k)).map nU),M):=fun M=>by rw [← hδ1]; rfl
  have v3:∀ M,Ad 3 δ1 M = some (.tup ((ps.map (plP k)).map nU),M):=fun M=>by rw [← hδ1]; rfl
  have s2:=Is (f:=Bz (fC (.bl false))) (Va (Ab5 (Ds (v2 _) e3) (Ds (v3 _) e4)) (Af6 (Ds (v2 _) e5) (Ds (v3 _) e6)))
  have s3:=Fk (i:=4) (Ds (v2 _) e7)
  have hδ2:δ1.set 4 (some (sU (bst (ps.map (flP k))))) = [some (.ref d),some (.tup (ps.map nU)),some (.tup ((ps.map (flP k)).map nU)),some (.tup ((ps.map (plP k)).map nU)),some (sU (bst (ps.map (flP k)))),none,none,none]:=by rw [← hδ1]; rfl
  rw [hδ2] at s3
  obtain ⟨L8,s4,g8⟩:=T5 hl hlow hd hk (some (.ref d)) (some (.tup ((ps.map (flP k)).map nU))) none none none L7
  obtain ⟨L9,e9,g9⟩:=Bt (ps:=ps) (by omega) hd L8
  obtain ⟨L10,e10,g10⟩:=G5 hlp (Lo hk hd) L9
  have hi:(Wd (Ac (Av 1 A0 (Ac (Ad 1) Af)) (Ac (Av 1 Cv (Ac (Ad 3) Af)) (Ac (Ad 3) Af)))) [some (.ref d),some (.tup (ps.map nU)),some (.tup ((ps.map (flP k)).map nU)),some (.tup ((ps.map (plP k)).map nU)),some (sU (bst (ps.map (flP k)))),none,none,none] L8 = some (.seq (ps.map (tpU ps k)),L10):=by
    generalize hδ:([some (.ref d),some (.tup (ps.map nU)),some (.tup ((ps.map (flP k)).map nU)),some (.tup ((ps.map (plP k)).map nU)),some (sU (bst (ps.map (flP k)))),none,none,none]:UE) = δ
    have w1:∀ M,Ad 1 δ M = some (.tup (ps.map nU),M):=fun M=>by rw [← hδ]; rfl
    have w3:∀ M,Ad 3 δ M = some (.tup ((ps.map (plP k)).map nU),M):=fun M=>by rw [← hδ]; rfl
    have hc:(Ac (Av 1 A0 (Ac (Ad 1) Af)) (Ac (Av 1 Cv (Ac (Ad 3) Af)) (Ac (Ad 3) Af))) δ L8 = some ([.tup ((cBs (ps.map Prod.snd)).map U.int),.tup ((cBs ((ps.map (plP k)).map Prod.snd)).map U.int),.tup ((ps.map (plP k)).map nU)],L10):=by
      rw [fCons_eq,Ds (w1 _) e9,Option.bind_some,fCons_eq,Ds (w3 _) e10,Option.bind_some,fCons_eq,w3]
      rfl
    rw [← Ahw k]
    unfold Wd
    rw [hc]
    simp only [Option.bind_some]
    rw [if_pos (by simp [cBs])]
  obtain ⟨δ',L11,e11,y5,y6,y7,hδ',g11⟩:=Ks (us:=ps.map (tpU ps k)) (body:=Et) (g:=(MR.gTup 3 (MR.gCons (gN 5) (MR.gCons (gN 6) (MR.gCons (gN 7) MR.gNil)))))
    (fun j δ' M=>∃ (y5 y6 y7:Option U),δ' = [some (.ref d),some (.tup (ps.map nU)),some (.tup ((ps.map (flP k)).map nU)),some (.tup ((ps.map (plP k)).map nU)),some (sU (bst (ps.map (flP k)))),y5,y6,y7] ∧ Gw L10 M)
    hi ⟨none,none,none,rfl,Gw.refl _⟩
    (fun j u δ M hu ⟨y5,y6,y7,hδ,gM⟩=>by
      subst hδ
      rw [List.getElem?_map] at hu
      obtain ⟨p,hp,rfl⟩:=Option.map_eq_some_iff.mp hu
      obtain ⟨M',e,g⟩:=Tz hl hd hk (List.mem_of_getElem? hp) (some (.ref d)) (some (.tup (ps.map nU))) (some (.tup ((ps.map (flP k)).map nU))) (some (sU (bst (ps.map (flP k))))) M
      exact ⟨_,M,rfl,_,M',.inl e,_,_,_,rfl,gM.trans g⟩)
  subst hδ'
  have gAll:Gw L1 L11:=g2.trans (g3.trans (g4.trans (g5.trans (g6.trans (g7.trans (g8.trans (g9.trans (g10.trans g11))))))))
  refine ⟨L11,fnN rfl ?_,D1.gw gAll,x1.trans (gAll.ex d)⟩
  show b_l_plane_right [some (.ref d),some (.tup (ps.map nU)),none,none,none,none,none,none] L = _
  unfold b_l_plane_right
  rw [Al s1,Al s2,Al s3,Al s4,Al e11]
  refine J8 ?_
  generalize hδ:([some (.ref d),some (.tup (ps.map nU)),some (.tup ((ps.map (flP k)).map nU)),some (.tup ((ps.map (plP k)).map nU)),some (sU (bst (ps.map (flP k)))),y5,y6,y7]:UE) = δ
  have w1:Ad 1 δ L11 = some (.tup (ps.map nU),L11):=by rw [← hδ]; rfl
  have w4:Ad 4 δ L11 = some (sU (bst (ps.map (flP k))),L11):=by rw [← hδ]; rfl
  have t1:=Bq w1 (Afg δ L11) (R5 hlow L11)
  rw [Acp,t1]
  simp only [Option.bind_some]
  cases ps with
  | nil=>
    have t2:=Bq (s:=Co) w4 (Afg δ L11) (w:=.bl true) (L3:=L11) rfl
    rw [t2]
    rfl
  | cons a ps=>rfl
end Lw
set_option Elab.async false
set_option linter.all false
set_option maxRecDepth 100000
set_option maxHeartbeats 1000000
namespace Lw
open PySem L2 MR
theorem Vh {β:Type} (l:List β) (p:β → Bool):(l.reverse.filter p).length = (l.filter p).length:=by
  rw [List.filter_reverse,List.length_reverse]
theorem Ahe (as:List (List Int)) (a:List Int):cB as.reverse a = cB as a:=Vh as _
theorem Afq (as:List (List Int)) (a:List Int):cA as.reverse a = cA as a:=Vh as _
theorem Adj (ps:List PN):bst ps.reverse = (bst ps).reverse:=by
  unfold bst
  rw [List.map_reverse,List.filter_reverse,List.map_reverse]
  congr 2
  exact List.filter_congr fun p _=>by rw [Afq]
theorem Ah3 {β:Type} (r:β → β → Bool) (a:β) (l:List β):∀ m:List β,(m.map fun b=>(((a :: l).filter fun x=>r x b).length:Int)).sum = ((m.filter (r a)).length:Int) + (m.map fun b=>((l.filter fun x=>r x b).length:Int)).sum
  | []=>by simp
  | b :: m=>by
    have h1:((a :: l).filter fun x=>r x b).length = (if r a b = true then 1 else 0) + (l.filter fun x=>r x b).length:=by
      rw [List.filter_cons]
      cases r a b <;> simp; omega
    have h2:((b :: m).filter (r a)).length = (if r a b = true then 1 else 0) + (m.filter (r a)).length:=by
      rw [List.filter_cons]
      cases r a b <;> simp; omega
    rw [List.map_cons,List.sum_cons,Ah3 r a l m,List.map_cons,List.sum_cons,h1,h2]
    omega
theorem dbl {β:Type} (r:β → β → Bool) (m:List β):∀ l:List β,(l.map fun a=>((m.filter fun b=>r a b).length:Int)).sum = (m.map fun b=>((l.filter fun a=>r a b).length:Int)).sum
  | []=>by
    simp only [List.map_nil,List.sum_nil,List.filter_nil,List.length_nil]
    induction m with
    | nil=>rfl
    | cons b m ih=>simp only [List.map_cons,List.sum_cons,← ih]; rfl
  | a :: l=>by
    rw [Ah3,List.map_cons,List.sum_cons,dbl r m l]
theorem Sy {ps:List PN} (hd:Dim 3 ps):cBs ((ps.map (onP ngs)).map Prod.snd) = ps.map fun p=>((cA (ps.map Prod.snd) p.2:Nat):Int):=by
  rw [Jj,Fs (fun p:PN=>ngs p.2)]
  refine List.map_congr_left fun p hp=>?_
  rw [Hv (fun p:PN=>ngs p.2),K8 (Prod.snd:PN → List Int)]
  congr 2
  exact List.filter_congr fun q hq=>Ab6 (hd q hq) (hd p hp)
theorem Aay {ps:List PN} (hd:Dim 3 ps):(cBs ((ps.map (onP ngs)).map Prod.snd)).sum = (cBs (ps.map Prod.snd)).sum:=by
  rw [Sy hd,Fs (Prod.snd:PN → List Int)]
  have h1:(ps.map fun p=>((cA (ps.map Prod.snd) p.2:Nat):Int)) = ps.map fun p=>((ps.filter fun q=>und p.2 q.2).length:Int):=
    List.map_congr_left fun p _=>by rw [K8 (Prod.snd:PN → List Int)]
  have h2:(ps.map fun p=>((cB (ps.map Prod.snd) p.2:Nat):Int)) = ps.map fun p=>((ps.filter fun q=>und q.2 p.2).length:Int):=
    List.map_congr_left fun p _=>by rw [Hv (Prod.snd:PN → List Int)]
  rw [h1,h2]
  exact dbl (fun p q:PN=>und p.2 q.2) ps ps
theorem Ack {ps:List PN} (hn:(ps.map Prod.fst).Nodup) {p:PN} (hp:p ∈ ps):p.1 ∈ bst ps ↔ cA (ps.map Prod.snd) p.2 = 0:=by
  unfold bst
  rw [List.mem_map]
  constructor
  · rintro ⟨q,hq,e⟩
    obtain ⟨h1,h2⟩:=List.mem_filter.mp hq
    have:q = p:=by
      have hpw:=List.pairwise_map.mp (List.nodup_iff_pairwise_ne.mp hn)
      by_cases hqp:q = p
      · exact hqp
      · exfalso
        obtain ⟨i,hi,rfl⟩:=List.getElem_of_mem h1
        obtain ⟨j,hj,rfl⟩:=List.getElem_of_mem hp
        have hpw:=List.pairwise_iff_getElem.mp hpw
        rcases Nat.lt_trichotomy i j with h | h | h
        · exact hpw i j hi hj h e
        · subst h; exact hqp rfl
        · exact hpw j i hj hi h e.symm
    rw [this] at h2
    exact of_decide_eq_true h2
  · intro h
    exact ⟨p,List.mem_filter.mpr ⟨hp,decide_eq_true h⟩,rfl⟩
theorem Ach (s:Str) (l:List Str):inV (.str s) (l.map L2.V.str) = decide (s ∈ l):=by
  induction l with
  | nil=>rfl
  | cons a r ih=>
    have h1:inV (.str s) (List.map L2.V.str (a :: r)) = (eqV (.str a) (.str s) || inV (.str s) (r.map L2.V.str)):=rfl
    have h2:eqV (.str a) (.str s) = (a == s):=rfl
    rw [h1,ih,h2]
    by_cases h:a = s
    · simp [h]
    · have h':¬ s = a:=fun z=>h z.symm
      simp [h,h']
theorem toV_strs (ts:List Str):mapO toV (ts.map U.str) = some (ts.map L2.V.str):=by
  induction ts with
  | nil=>rfl
  | cons t ts ih=>simp only [List.map_cons,mapO,toV,ih,Option.bind_some,Option.map_some]
theorem Ac3 (a:Str) (l:List Str) (L:UH):Qh false (.str a) (sU l) L = some (.bl (decide (a ∈ l)),L):=by
  unfold Qh sU
  simp only [toV,Option.bind_some,toV_strs,Option.map_some,Ach]
  simp
noncomputable def kiU (xs:List (Key × Int)):List (Key × U):=xs.map fun p=>(p.1,U.int p.2)
theorem toKIs (xs:List (Key × Int)):mapO Aai (kiU xs) = some xs:=by
  induction xs with
  | nil=>rfl
  | cons p xs ih=>
    unfold kiU at ih ⊢
    simp only [List.map_cons,mapO,Aai,ih,Option.bind_some,Option.map_some]
theorem Sz:∀ (xs:List (Key × Int)),(xs.map (·.1)).Nodup → ∀ p ∈ xs,(xs.find? fun q=>decide (q.1 = p.1)) = some p
  | [],_,p,hp=>by cases hp
  | x :: xs,hn,p,hp=>by
    rw [List.map_cons,List.nodup_cons] at hn
    rw [List.find?_cons]
    rcases List.mem_cons.mp hp with e | e
    · subst e; simp
    · have:x.1 ≠ p.1:=fun q=>hn.1 (by rw [q]; exact List.mem_map_of_mem e)
      simp only [this,decide_false]
      exact Sz xs hn.2 p e
theorem Yg {xs ys:List (Key × Int)} (hp:xs.Perm ys) (hn:(ys.map (·.1)).Nodup):eqD xs ys = true:=by
  unfold eqD Qg
  rw [hp.length_eq,beq_self_eq_true,Bool.true_and,List.all_eq_true]
  intro p hpm
  rw [Sz ys hn p (hp.mem_iff.mp hpm)]
  simp
theorem Ac0 (kvs:List (Key × U)) (k:Key) (v:U) (h:k ∉ kvs.map (·.1)):Pc kvs k v = kvs ++ [(k,v)]:=by
  unfold Pc
  rw [if_neg]
  intro ha
  obtain ⟨x,hx,e⟩:=List.any_eq_true.mp ha
  exact h (List.mem_map.mpr ⟨x,hx,by simpa using e⟩)
theorem Qc:∀ (more kvs:List (Key × U)),((kvs ++ more).map (·.1)).Nodup → more.foldl (fun acc kv=>Pc acc kv.1 kv.2) kvs = kvs ++ more
  | [],kvs,_=>by simp
  | p :: more,kvs,h=>by
    have hk:p.1 ∉ kvs.map (·.1):=by
      rw [List.map_append,List.map_cons] at h
      intro hm
      exact (List.nodup_append.mp h).2.2 _ hm _ (List.mem_cons_self ..) rfl
    show more.foldl _ (Pc kvs p.1 p.2) = _
    rw [Ac0 kvs p.1 p.2 hk,Qc more (kvs ++ [p]) (by rw [List.append_assoc]; exact h),List.append_assoc]
    rfl
noncomputable def nmK (qs:List PN):List (Key × Int):=qs.map fun p=>(.inr p.1,(cB (qs.map Prod.snd) p.2:Int))
theorem S8 {qs:List PN} (h:(qs.map Prod.fst).Nodup):((nmK qs).map (·.1)).Nodup:=by
  unfold nmK
  rw [List.map_map]
  have:(qs.map ((fun x:Key × Int=>x.1) ∘ fun p=>((.inr p.1:Key),(cB (qs.map Prod.snd) p.2:Int)))) = (qs.map Prod.fst).map (fun n=>(Sum.inr n:Key)):=by rw [List.map_map]; rfl
  rw [this]
  exact List.nodup_iff_pairwise_ne.mpr (List.pairwise_map.mpr ((List.nodup_iff_pairwise_ne.mp h).imp fun hab e=>hab (by injection e)))
theorem Ab9 (ps:List PN):nmK ps.reverse = (nmK ps).reverse:=by
  unfold nmK
  rw [← List.map_reverse]
  refine List.map_congr_left fun p _=>?_
  rw [List.map_reverse,Ahe]
theorem Y7 (ts:List Str):mapO toK (ts.map U.str) = some (ts.map fun s=>(Sum.inr s:Key)):=by
  induction ts with
  | nil=>rfl
  | cons t ts ih=>simp only [List.map_cons,mapO,toK,ih,Option.bind_some,Option.map_some]
theorem zip_nmK (qs:List PN):((qs.map Prod.fst).map fun s=>(Sum.inr s:Key)).zip ((cBs (qs.map Prod.snd)).map U.int) = kiU (nmK qs):=by
  rw [Fs (Prod.snd:PN → List Int),List.map_map,List.map_map,List.zip_map']
  unfold kiU nmK
  rw [List.map_map]
  rfl
theorem Ma {qs:List PN} (hl:qs.length ≤ 60) (hd:Dim 3 qs) (hn:(qs.map Prod.fst).Nodup) (L:UH):∃ (r:Nat) (L':UH),Ft [.tup (qs.map nU)] L = some (.ref r,L') ∧ L'[r]? = some (.dic (kiU (nmK qs))) ∧ Gw L L':=by
  obtain ⟨L1,e1,g1⟩:=Hf (ix:=[none]) (fi:=Bm (Ad 0)) (it:=.seq (qs.map nU)) (fe:=Fi) (δ:=[some (.tup (qs.map nU))]) (L:=L) (L0:=L) qs nU (fun p=>U.str p.1) [] rfl rfl (by simp [IU.size]) (by omega) (fun k x=>rfl) (fun p x hp=>⟨[],by rw [List.append_nil]; exact Bq rfl rfl (Mp p _)⟩)
  have hm:qs.map (fun p=>U.str p.1) = (qs.map Prod.fst).map U.str:=by rw [List.map_map]; rfl
  rw [hm] at e1
  obtain ⟨L2,e2,g2⟩:=Bt (ps:=qs) (by omega) hd (L1 ++ [.lst ((qs.map Prod.fst).map U.str)])
  have hs:Ao L2 L1.length = some ((qs.map Prod.fst).map U.str):=Aq (g2.get (by simp))
  refine ⟨L2.length,L2 ++ [.dic (kiU (nmK qs))],Ag1 ?_,by simp,g1.trans ((Gw.new _ _).trans (g2.trans (Gw.new _ _)))⟩
  have v0:Ad 0 [some (.tup (qs.map nU))] (L1 ++ [.lst ((qs.map Prod.fst).map U.str)]) = some (.tup (qs.map nU),L1 ++ [.lst ((qs.map Prod.fst).map U.str)]):=rfl
  have hc:(Ac (Bb [none] (Bm (Ad 0)) (gN 0) none Fi) (Ac (Av 1 A0 (Ac (Ad 0) Af)) Af)) [some (.tup (qs.map nU))] L = some ([.ref L1.length,.tup ((cBs (qs.map Prod.snd)).map U.int)],L2):=by
    rw [fCons_eq,e1,Option.bind_some,fCons_eq,Ds v0 e2]
    rfl
  have hmg:T0 (kiU (nmK qs)) = kiU (nmK qs):=by
    unfold T0
    rw [Qc _ [] (by
      rw [List.nil_append]
      have:(kiU (nmK qs)).map (·.1) = (nmK qs).map (·.1):=by unfold kiU; rw [List.map_map]; rfl
      rw [this]; exact S8 hn),List.nil_append]
  unfold Y2
  rw [hc]
  simp only [Option.bind_some,hs,Y7,zip_nmK,hmg]
  rw [if_pos (by simp [cBs]; omega)]
theorem Sl {L:UH} {n:Nat} {kvs:List (Key × U)} (h:L[n]? = some (.dic kvs)):Nv L n = some kvs:=by
  unfold Nv; rw [h]
theorem Ac4 {xs ys:List (Key × Int)} {L:UH} {n m:Nat} (h1:L[n]? = some (.dic (kiU xs))) (h2:L[m]? = some (.dic (kiU ys))) (hp:xs.Perm ys) (hn:(ys.map (·.1)).Nodup):E3 (.ref n) (.ref m) L = some (.bl false,L):=by
  unfold E3
  simp only [Sl h1,Sl h2,Option.bind_some,toKIs,Option.map_some,Yg hp hn,Bool.not_true]
theorem Yo {l:List Str} (h:∀ x ∈ l,Low x) (L:UH):Bx (sU l) (sU l) L = some (.bl false,L):=by
  have hp:Pl 6 (sU l):=by
    unfold sU
    rw [E6]
    intro u hu
    obtain ⟨x,hx,rfl⟩:=List.mem_map.mp hu
    exact Ui (h x hx) _
  rw [Ni L hp hp,R9 hp]; rfl
end Lw
set_option Elab.async false
set_option linter.all false
set_option maxRecDepth 100000
set_option maxHeartbeats 1000000
namespace Lw
open PySem L2 MR
theorem Aeo {ps:List PN} {fe:FE} (f:List Int → List Int) (hl:ps.length ≤ 60) (hd:Dim 3 ps) (hfe:∀ (n:Str) (x y z:Int) (M:UH),fe [some (.str n),some (.int x),some (.int y),some (.int z)] M = some (nU (n,f [x,y,z]),M)) {δ:UE} {L:UH} (h1:Ad 1 δ L = some (.tup (ps.map nU),L)) :
    ∃ L',(A8 A7 (Ac (Bb [none,none,none,none] (Bm (Ad 1)) (MR.gTup 4 (MR.gCons (gN 0) (MR.gCons (gN 1) (MR.gCons (gN 2) (MR.gCons (gN 3) MR.gNil))))) none fe) Af)) δ L = some (.tup ((ps.map (onP f)).map nU),L') ∧ Gw L L':=by
  obtain ⟨x,e⟩:=Ez (ix:=[none,none,none,none]) (fi:=Bm (Ad 1)) (it:=.seq (ps.map nU)) (g:=(MR.gTup 4 (MR.gCons (gN 0) (MR.gCons (gN 1) (MR.gCons (gN 2) (MR.gCons (gN 3) MR.gNil)))))) (tt:=none) (fe:=fe) (δ:=δ) (L:=L) (L0:=L)
    ps nU (fun _=>true) (fun p=>nU (onP f p)) (fun δ=>∃ a b c d,δ = [a,b,c,d]) (by rw [Hi,h1]; rfl) (by simp [IU.size]) (by omega) ⟨none,none,none,none,rfl⟩
    (fun k x=>rfl)
    (fun p δ x hp ⟨a,b,c,d,hδ⟩=>by
      subst hδ
      have h3:=hd p hp
      obtain ⟨n,q⟩:=p
      match q,h3 with
      | [x1,y1,z1],_=>exact ⟨[some (.str n),some (.int x1),some (.int y1),some (.int z1)],rfl,⟨_,_,_,_,rfl⟩,[],by simp [Oo],fun _=>⟨[],by rw [List.append_nil,List.append_nil]; exact hfe n x1 y1 z1 _⟩⟩)
  have hff:List.filter (fun _=>true) ps = ps:=List.filter_eq_self.mpr (fun _ _=>rfl)
  have hm:ps.map (fun p=>nU (onP f p)) = (ps.map (onP f)).map nU:=by rw [List.map_map]; rfl
  rw [hff,hm] at e
  exact ⟨_,Gg e (Gd (by simp)),⟨x ++ [HU.lst ((ps.map (onP f)).map nU)],by rw [List.append_assoc]⟩⟩
theorem Aar {ps:List PN} {f:List Int → List Int} (hf:∀ a:List Int,a.length = 3 → (f a).length = 3) (hd:Dim 3 ps):Dim 3 (ps.map (onP f)):=fun p hp=>by
  obtain ⟨q,hq,rfl⟩:=List.mem_map.mp hp
  exact hf q.2 (hd q hq)
theorem Aau {fa fb:FE} {δ:UE} {L L1 L2:UH} {l:List Int} (h1:fa δ L = some (.tup (l.map U.int),L1)) (h2:fb δ L1 = some (.tup (l.map U.int),L2)):Bk (f2 E3 fa fb) δ L = some (false,L2):=
  Dl (Bq h1 h2 (by show Bx _ _ _ = _; rw [Qz]; simp))
theorem Ss {fa fb:FE} {δ:UE} {L L1 L2:UH} {l:List Str} (hl:∀ x ∈ l,Low x) (h1:fa δ L = some (sU l,L1)) (h2:fb δ L1 = some (sU l,L2)):Bk (f2 E3 fa fb) δ L = some (false,L2):=
  Dl (Bq h1 h2 (by show Bx (sU l) (sU l) _ = _; exact Yo hl _))
theorem Adw {fa fb:FE} {δ:UE} {L L1 L2:UH} {i:Int} (h1:fa δ L = some (.int i,L1)) (h2:fb δ L1 = some (.int i,L2)):Bk (f2 E3 fa fb) δ L = some (false,L2):=
  Dl (Bq h1 h2 (by show Bx _ _ _ = _; rw [Ps]; simp))
theorem Vx {fe:FE} {δ:UE} {L L':UH} {l:List U} (h:fe δ L = some (.tup l,L')):Abh fe δ L = some (.tup l.reverse,L'):=by
  rw [Adu,h]; rfl
theorem R3 {ps:List PN} (hn:(ps.map Prod.fst).Nodup) {p:PN} (hp:p ∈ ps) (x0 x1 x2 x3 x4:Option U) (L:UH) :
    Ed [x0,x1,x2,x3,x4,some (sU (bst ps)),some (nU p),some (.int (cA (ps.map Prod.snd) p.2:Int))] L = some (.nx [x0,x1,x2,x3,x4,some (sU (bst ps)),some (nU p),some (.int (cA (ps.map Prod.snd) p.2:Int))],L):=by
  have hiff:=Ack hn hp
  generalize hδ:([x0,x1,x2,x3,x4,some (sU (bst ps)),some (nU p),some (.int (cA (ps.map Prod.snd) p.2:Int))]:UE) = δ
  have v5:Ad 5 δ L = some (sU (bst ps),L):=by rw [← hδ]; rfl
  have v6:Ad 6 δ L = some (nU p,L):=by rw [← hδ]; rfl
  have v7:Ad 7 δ L = some (.int (cA (ps.map Prod.snd) p.2:Int),L):=by rw [← hδ]; rfl
  have h1:=Bq (s:=Qh false) (Bq (s:=Ar) (fb:=fC (.int 0)) v6 rfl (Mp p L)) v5 (Ac3 p.1 (bst ps) L)
  have h2:=Bq (s:=Co) (fb:=fC (.int 0)) v7 rfl (semEq_int _ _ L)
  have hb:decide (p.1 ∈ bst ps) = (((cA (ps.map Prod.snd) p.2:Nat):Int) == 0):=by
    rw [Bool.eq_iff_iff,decide_eq_true_iff,hiff,beq_iff_eq]
    omega
  rw [hb] at h1
  exact Is (Dl (Bq h1 h2 (by show Bx _ _ _ = _; rw [Aa7]; simp)))
theorem Mh {ps:List PN} (hl:ps.length ≤ 60) (hlow:T8 ps) (hn:(ps.map Prod.fst).Nodup) (hd:Dim 3 ps) (x0:U) (L:UH) :
    ∃ L',Ey [x0,.tup (ps.map nU)] L = some (.bl true,L') ∧ Gw L L':=by
  have hlf:∀ f:List Int → List Int,(ps.map (onP f)).length ≤ 1000:=fun f=>by rw [List.length_map]; omega
  have hlr:ps.reverse.length ≤ 60:=by rw [List.length_reverse]; exact hl
  have hdr:Dim 3 ps.reverse:=fun p hp=>hd p (List.mem_reverse.mp hp)
  have hnr:(ps.reverse.map Prod.fst).Nodup:=by rw [List.map_reverse]; exact (List.reverse_perm _).nodup_iff.mpr hn
  have drot:Dim 3 (ps.map (onP rot)):=Aar (fun a h=>by unfold rot; simp; omega) hd
  have dngs:Dim 3 (ps.map (onP ngs)):=Aar (fun a h=>by unfold ngs; simpa using h) hd
  have hrot:∀ a ∈ ps,∀ b ∈ ps,und (rot a.2) (rot b.2) = und (id a.2) (id b.2):=fun a ha b hb=>Adg (hd a ha) (hd b hb)
  have crot:cBs ((ps.map (onP rot)).map Prod.snd) = cBs (ps.map Prod.snd):=by
    rw [Jj]
    exact Pu (f:=fun p:PN=>rot p.2) (g:=Prod.snd) hrot
  have brot:bst (ps.map (onP rot)) = bst ps:=by
    rw [P1 (f:=rot) (g:=id) hrot,Aht]
  have hlowB:=V4 hlow
  generalize hδ0:([some x0,some (.tup (ps.map nU)),none,none,none,none,none,none]:UE) = δ0
  obtain ⟨L1,e1,g1⟩:=Aeo (fe:=Fp) rot hl hd (fun n x y z M=>rfl) (δ:=δ0) (L:=L) (by rw [← hδ0]; rfl)
  have s1:=Fk (i:=2) e1
  have hδ1:δ0.set 2 (some (.tup ((ps.map (onP rot)).map nU))) = [some x0,some (.tup (ps.map nU)),some (.tup ((ps.map (onP rot)).map nU)),none,none,none,none,none]:=by rw [← hδ0]; rfl
  rw [hδ1] at s1
  have r1:=Vx (fe:=Ad 1) (δ:=[some x0,some (.tup (ps.map nU)),some (.tup ((ps.map (onP rot)).map nU)),none,none,none,none,none]) (L:=L1) rfl
  rw [← List.map_reverse] at r1
  have s2:=Fk (i:=3) r1
  simp only [List.set_cons_succ,List.set_cons_zero] at s2
  generalize hδ2:([some x0,some (.tup (ps.map nU)),some (.tup ((ps.map (onP rot)).map nU)),some (.tup (ps.reverse.map nU)),none,none,none,none]:UE) = δ2 at s2
  have v1:∀ M,Ad 1 δ2 M = some (.tup (ps.map nU),M):=fun M=>by rw [← hδ2]; rfl
  have v2:∀ M,Ad 2 δ2 M = some (.tup ((ps.map (onP rot)).map nU),M):=fun M=>by rw [← hδ2]; rfl
  have v3:∀ M,Ad 3 δ2 M = some (.tup (ps.reverse.map nU),M):=fun M=>by rw [← hδ2]; rfl
  obtain ⟨L2,e2,g2⟩:=Bt (hlf rot) drot L1
  rw [crot] at e2
  obtain ⟨L3,e3,g3⟩:=Bt (ps:=ps) (by omega) hd L2
  obtain ⟨a,L4,e4,k4,g4⟩:=Ma hlr hdr hnr L3
  obtain ⟨b,L5,e5,k5,g5⟩:=Ma hl hd hn L4
  have nd:=Ac4 (g5.get k4) k5 (by rw [Ab9]; exact List.reverse_perm _) (S8 hn)
  have s3:=Is (f:=Bz (fC (.bl false))) (Va (Aau (Ds (v2 _) e2) (Ds (v1 _) e3)) (Dl (Bq (Ds (v3 _) e4) (Ds (v1 _) e5) nd)))
  obtain ⟨L6,e6,g6⟩:=Cw (hlf rot) drot L5
  rw [brot] at e6
  obtain ⟨L7,e7,g7⟩:=Cw (ps:=ps) (by omega) hd L6
  obtain ⟨L8,e8,g8⟩:=Cw (ps:=ps.reverse) (by omega) hdr L7
  rw [Adj] at e8
  obtain ⟨L9,e9,g9⟩:=Cw (ps:=ps) (by omega) hd L8
  have r9:=Vx (Ds (v1 _) e9)
  rw [← List.map_reverse] at r9
  have s4:=Is (f:=Bz (fC (.bl false))) (Va (Ss hlowB (Ds (v2 _) e6) (Ds (v1 _) e7)) (Ss (l:=(bst ps).reverse) (fun x hx=>hlowB x (List.mem_reverse.mp hx)) (Ds (v3 _) e8) r9))
  obtain ⟨L10,e10,g10⟩:=Aeo (fe:=Fo) ngs hl hd (fun n x y z M=>rfl) (δ:=δ2) (L:=L9) (v1 _)
  have s5:=Fk (i:=4) e10
  have hδ3:δ2.set 4 (some (.tup ((ps.map (onP ngs)).map nU))) = [some x0,some (.tup (ps.map nU)),some (.tup ((ps.map (onP rot)).map nU)),some (.tup (ps.reverse.map nU)),some (.tup ((ps.map (onP ngs)).map nU)),none,none,none]:=by rw [← hδ2]; rfl
  generalize hδ4:([some x0,some (.tup (ps.map nU)),some (.tup ((ps.map (onP rot)).map nU)),some (.tup (ps.reverse.map nU)),some (.tup ((ps.map (onP ngs)).map nU)),none,none,none]:UE) = δ4 at hδ3
  rw [hδ3] at s5
  have w1:∀ M,Ad 1 δ4 M = some (.tup (ps.map nU),M):=fun M=>by rw [← hδ4]; rfl
  have w4:∀ M,Ad 4 δ4 M = some (.tup ((ps.map (onP ngs)).map nU),M):=fun M=>by rw [← hδ4]; rfl
  obtain ⟨L11,e11,g11⟩:=G9 (hlf ngs) dngs L10
  rw [Aay hd] at e11
  obtain ⟨L12,e12,g12⟩:=G9 (ps:=ps) (by omega) hd L11
  have s6:=Is (f:=Bz (fC (.bl false))) (Adw (Ds (w4 _) e11) (Ds (w1 _) e12))
  obtain ⟨L13,e13,g13⟩:=Cw (ps:=ps) (by omega) hd L12
  have s7:=Fk (i:=5) (Ds (w1 _) e13)
  have hδ5:δ4.set 5 (some (sU (bst ps))) = [some x0,some (.tup (ps.map nU)),some (.tup ((ps.map (onP rot)).map nU)),some (.tup (ps.reverse.map nU)),some (.tup ((ps.map (onP ngs)).map nU)),some (sU (bst ps)),none,none]:=by rw [← hδ4]; rfl
  rw [hδ5] at s7
  obtain ⟨L14,e14,g14⟩:=Bt (hlf ngs) dngs L13
  rw [Sy hd] at e14
  have hi:(Nm (Ac (Ad 1) (Ac (Av 1 A0 (Ac (Ad 4) Af)) Af))) [some x0,some (.tup (ps.map nU)),some (.tup ((ps.map (onP rot)).map nU)),some (.tup (ps.reverse.map nU)),some (.tup ((ps.map (onP ngs)).map nU)),some (sU (bst ps)),none,none] L13 = some (.seq (ps.map (zU (ps.map Prod.snd))),L14):=by
    have hz:=Uu ps
    have hc:cAs (ps.map Prod.snd) = ps.map fun p=>((cA (ps.map Prod.snd) p.2:Nat):Int):=by unfold cAs; rw [List.map_map]; rfl
    rw [hc] at hz
    rw [← hz]
    generalize hδ:([some x0,some (.tup (ps.map nU)),some (.tup ((ps.map (onP rot)).map nU)),some (.tup (ps.reverse.map nU)),some (.tup ((ps.map (onP ngs)).map nU)),some (sU (bst ps)),none,none]:UE) = δ
    have u1:Ad 1 δ L13 = some (.tup (ps.map nU),L13):=by rw [← hδ]; rfl
    have u4:Ad 4 δ L13 = some (.tup ((ps.map (onP ngs)).map nU),L13):=by rw [← hδ]; rfl
    have hcc:(Ac (Ad 1) (Ac (Av 1 A0 (Ac (Ad 4) Af)) Af)) δ L13 = some ([.tup (ps.map nU),.tup ((ps.map fun p=>((cA (ps.map Prod.snd) p.2:Nat):Int)).map U.int)],L14):=by
      rw [fCons_eq,u1,Option.bind_some,fCons_eq,Ds u4 e14]; rfl
    unfold Nm
    rw [hcc]; rfl
  obtain ⟨δ',L15,e15,y6,y7,hδ',hL⟩:=Ks (us:=ps.map (zU (ps.map Prod.snd))) (body:=Ed) (g:=(MR.gTup 2 (MR.gCons (gN 6) (MR.gCons (gN 7) MR.gNil))))
    (fun j δ' M=>∃ (y6 y7:Option U),δ' = [some x0,some (.tup (ps.map nU)),some (.tup ((ps.map (onP rot)).map nU)),some (.tup (ps.reverse.map nU)),some (.tup ((ps.map (onP ngs)).map nU)),some (sU (bst ps)),y6,y7] ∧ M = L14)
    hi ⟨none,none,rfl,rfl⟩
    (fun j u δ M hu ⟨y6,y7,hδ,hM⟩=>by
      subst hδ
      rw [List.getElem?_map] at hu
      obtain ⟨p,hp,rfl⟩:=Option.map_eq_some_iff.mp hu
      have e:=R3 hn (List.mem_of_getElem? hp) (some x0) (some (.tup (ps.map nU))) (some (.tup ((ps.map (onP rot)).map nU))) (some (.tup (ps.reverse.map nU))) (some (.tup ((ps.map (onP ngs)).map nU))) M
      exact ⟨_,M,rfl,_,M,.inl e,_,_,rfl,hM⟩)
  subst hδ'
  refine ⟨L15,fnN rfl ?_,by rw [hL]; exact g1.trans (g2.trans (g3.trans (g4.trans (g5.trans (g6.trans (g7.trans (g8.trans (g9.trans (g10.trans (g11.trans (g12.trans (g13.trans g14))))))))))))⟩
  show b_l_turned_right [some x0,some (.tup (ps.map nU)),none,none,none,none,none,none] L = _
  rw [hδ0]
  unfold b_l_turned_right
  rw [Al s1,Al s2,Al s3,Al s4,Al s5,Al s6,Al s7,Al e15]
  rfl
end Lw
set_option Elab.async false
set_option linter.all false
set_option maxRecDepth 100000
set_option maxHeartbeats 1000000
namespace Lw
open PySem L2 MR
theorem U5 {x:Int}:∀ {l:List Int},x ∈ l → x ≤ J7 l
  | [a],h=>by rw [List.mem_singleton.mp h]; exact Int.le_refl _
  | a :: b :: r,h=>by
    show x ≤ max a (J7 (b :: r))
    rcases List.mem_cons.mp h with rfl | h
    · exact Int.le_max_left ..
    · exact Int.le_trans (U5 h) (Int.le_max_right ..)
def mxk (ps:List PN) (j:Nat):Int:=J7 (0 :: ps.map fun p=>p.2.getD j 0)
theorem Uf {ps:List PN} {p:PN} (h:p ∈ ps) (j:Nat):p.2.getD j 0 ≤ mxk ps j:=U5 (List.mem_cons_of_mem _ (List.mem_map.mpr ⟨p,h,rfl⟩))
noncomputable def Gz (nm:Str) (ps:List PN):PN:=(nm,[mxk ps 0 + 1,mxk ps 1,mxk ps 2])
theorem Mu {ps:List PN} (nm:Str) (hd:Dim 3 ps) {p:PN} (hp:p ∈ ps):und p.2 (Gz nm ps).2 = true ∧ und (Gz nm ps).2 p.2 = false:=by
  have h0:=Uf hp 0
  have h1:=Uf hp 1
  have h2:=Uf hp 2
  have h3:=hd p hp
  obtain ⟨n,a⟩:=p
  match a,h3 with
  | [x,y,z],_=>
    have e0:([x,y,z]:List Int).getD 0 0 = x:=rfl
    have e1:([x,y,z]:List Int).getD 1 0 = y:=rfl
    have e2:([x,y,z]:List Int).getD 2 0 = z:=rfl
    simp only [e0,e1,e2] at h0 h1 h2
    show und [x,y,z] [mxk ps 0 + 1,mxk ps 1,mxk ps 2] = true ∧ und [mxk ps 0 + 1,mxk ps 1,mxk ps 2] [x,y,z] = false
    generalize mxk ps 0 = a at *
    generalize mxk ps 1 = b at *
    generalize mxk ps 2 = c at *
    constructor
    · rw [und3]
      simp only [Bool.and_eq_true,Bool.not_eq_true',decide_eq_false_iff_not,decide_eq_true_eq]
      omega
    · rw [und3,Bool.and_eq_false_iff]
      right
      rw [Bool.and_eq_false_iff]
      left
      exact decide_eq_false (by omega)
theorem R8 (a:List Int):und a a = false:=by unfold und; simp
theorem Aa3 {ps:List PN} (nm:Str) (hd:Dim 3 ps):cBs ((ps ++ [Gz nm ps]).map Prod.snd) = cBs (ps.map Prod.snd) ++ [(ps.length:Int)]:=by
  rw [Fs (Prod.snd:PN → List Int),Fs (Prod.snd:PN → List Int),List.map_append]
  congr 1
  · refine List.map_congr_left fun p hp=>?_
    rw [Hv (Prod.snd:PN → List Int),Hv (Prod.snd:PN → List Int),List.filter_append,List.length_append]
    have:([Gz nm ps].filter fun q=>und q.2 p.2) = []:=by
      rw [List.filter_eq_nil_iff]
      intro q hq
      rw [List.mem_singleton.mp hq,(Mu nm hd hp).2]; decide
    rw [this]; rfl
  · rw [List.map_singleton,Hv (Prod.snd:PN → List Int),List.filter_append,List.length_append]
    have h1:([Gz nm ps].filter fun q=>und q.2 (Gz nm ps).2) = []:=by
      rw [List.filter_eq_nil_iff]
      intro q hq
      rw [List.mem_singleton.mp hq,R8]; decide
    have h2:(ps.filter fun q=>und q.2 (Gz nm ps).2) = ps:=List.filter_eq_self.mpr fun q hq=>(Mu nm hd hq).1
    rw [h1,h2]; rfl
theorem Aac {ps:List PN} (nm:Str) (hd:Dim 3 ps):bst (ps ++ [Gz nm ps]) = [nm]:=by
  unfold bst
  rw [List.filter_append]
  have h1:(ps.filter fun p=>decide (cA ((ps ++ [Gz nm ps]).map Prod.snd) p.2 = 0)) = []:=by
    rw [List.filter_eq_nil_iff]
    intro p hp
    rw [decide_eq_true_iff,K8 (Prod.snd:PN → List Int),List.length_eq_zero_iff,List.filter_eq_nil_iff]
    intro h
    exact h (Gz nm ps) (List.mem_append_right _ (List.mem_singleton.mpr rfl)) (Mu nm hd hp).1
  have h2:([Gz nm ps].filter fun p=>decide (cA ((ps ++ [Gz nm ps]).map Prod.snd) p.2 = 0)) = [Gz nm ps]:=by
    refine List.filter_eq_self.mpr fun p hp=>?_
    rw [List.mem_singleton.mp hp,decide_eq_true_iff,K8 (Prod.snd:PN → List Int),List.length_eq_zero_iff,List.filter_eq_nil_iff]
    intro q hq
    rcases List.mem_append.mp hq with h | h
    · rw [(Mu nm hd h).2]; decide
    · rw [List.mem_singleton.mp h,R8]; decide
  rw [h1,h2]; rfl
theorem Aga {p:PN} (h:p.2.length = 3) {j:Nat} (hj:j < 3) (L:UH):Ar (nU p) (.int ((j:Int) + 1)) L = some (.int (p.2.getD j 0),L):=by
  obtain ⟨n,a⟩:=p
  match a,h with
  | [x,y,z],_=>
    have:j = 0 ∨ j = 1 ∨ j = 2:=by omega
    rcases this with rfl | rfl | rfl
    · rfl
    · rfl
    · rfl
theorem Aj0 {fa:FE} {u:U} {δ:UE} {L L':UH} (h:fa δ L = some (u,L')):(C5 (Ac fa Af)) δ L = some (.ref L'.length,L' ++ [.lst [u]]):=by
  rw [fLst_eq,fCons_eq,h,Option.bind_some,fNil_eq,Option.map_some,Option.bind_some,if_pos (small_of (by show 1 ≤ 16777216; decide))]
theorem Vr {L:UH} {n:Nat} {a:Int} {l:List Int} (h:L[n]? = some (.lst ((a :: l).map U.int))):J9 [.ref n] L = some (.int (J7 (a :: l)),L):=by
  unfold J9 Vo
  simp only [Aq h,Option.bind_some,toI_ints]
  rw [if_neg (by simp)]
theorem Aa8 {ps:List PN} (hl:ps.length ≤ 60) (hd:Dim 3 ps) {j:Nat} (hj:j < 3) (L:UH) :
    ∃ z,C3 [some (.int ((j:Int) + 1)),some (.tup (ps.map nU))] L = some (.int (mxk ps j),L ++ z):=by
  have e0:=Aj0 (fa:=fC (.int 0)) (δ:=[some (.int ((j:Int) + 1)),some (.tup (ps.map nU))]) (L:=L) rfl
  obtain ⟨L1,e1,x1,hx1⟩:=Hf (ix:=[none,some 0]) (fi:=Bm (Ad 1)) (it:=.seq (ps.map nU)) (fe:=Gq) (δ:=[some (.int ((j:Int) + 1)),some (.tup (ps.map nU))]) (L:=L ++ [.lst [.int 0]]) (L0:=L ++ [.lst [.int 0]]) ps nU (fun p=>U.int (p.2.getD j 0)) [some (.int ((j:Int) + 1))] rfl rfl (by simp [IU.size]) (by omega) (fun k x=>rfl) (fun p x hp=>⟨[],by rw [List.append_nil]; exact Bq rfl rfl (Aga (hd p hp) hj _)⟩)
  have hm:ps.map (fun p=>U.int (p.2.getD j 0)) = (ps.map fun p=>p.2.getD j 0).map U.int:=by rw [List.map_map]; rfl
  rw [hm] at e1
  subst hx1
  generalize hk:(ps.map fun p=>p.2.getD j 0) = ks at e1
  have hkl:ks.length ≤ 60:=by rw [← hk,List.length_map]; exact hl
  have k0:(L ++ [HU.lst [.int 0]] ++ x1 ++ [HU.lst (ks.map U.int)])[L.length]? = some (.lst [.int 0]):=by simp
  have k1:(L ++ [HU.lst [.int 0]] ++ x1 ++ [HU.lst (ks.map U.int)])[(L ++ [HU.lst [.int 0]] ++ x1).length]? = some (.lst (ks.map U.int)):=by simp
  have ha:Bd (.ref L.length) (.ref (L ++ [HU.lst [.int 0]] ++ x1).length) (L ++ [HU.lst [.int 0]] ++ x1 ++ [HU.lst (ks.map U.int)]) = some (.ref (L ++ [HU.lst [.int 0]] ++ x1 ++ [HU.lst (ks.map U.int)]).length,L ++ [HU.lst [.int 0]] ++ x1 ++ [HU.lst (ks.map U.int)] ++ [.lst ((0 :: ks).map U.int)]):=by
    show At (.ref L.length) (.ref (L ++ [HU.lst [.int 0]] ++ x1).length) _ = _
    unfold At
    simp only [Dd k0,Dd k1,Option.bind_some]
    rw [if_pos (small_of (by rw [List.length_map,List.length_singleton]; omega))]
    rfl
  have k2:(L ++ [HU.lst [.int 0]] ++ x1 ++ [HU.lst (ks.map U.int)] ++ [HU.lst ((0 :: ks).map U.int)])[(L ++ [HU.lst [.int 0]] ++ x1 ++ [HU.lst (ks.map U.int)]).length]? = some (.lst ((0 :: ks).map U.int)):=by simp
  have c:=Gg (s:=J9) (Bq e0 e1 ha) (Vr k2)
  refine ⟨[HU.lst [.int 0]] ++ x1 ++ [HU.lst (ks.map U.int)] ++ [.lst ((0 :: ks).map U.int)],?_⟩
  unfold mxk
  rw [hk]
  have hap:L ++ ([HU.lst [.int 0]] ++ x1 ++ [HU.lst (ks.map U.int)] ++ [.lst ((0 :: ks).map U.int)]) = L ++ [HU.lst [.int 0]] ++ x1 ++ [HU.lst (ks.map U.int)] ++ [.lst ((0 :: ks).map U.int)]:=by simp only [List.append_assoc]
  rw [hap]
  exact c
theorem Adl {ps:List PN} (hl:ps.length ≤ 60) (hd:Dim 3 ps) (L:UH):∃ (r:Nat) (L':UH),(Aw (Bb [none,some 0] (Bm (Em (Ac (fC (.int 1)) (Ac (fC (.int 2)) (Ac (fC (.int 3)) Af))))) (gN 0) none C3) (gN 1)) [some (.tup (ps.map nU)),none,none,none,none] L = some (.nx [some (.tup (ps.map nU)),some (.ref r),none,none,none],L') ∧ L'[r]? = some (.lst ([mxk ps 0,mxk ps 1,mxk ps 2].map U.int)) ∧ Gw L L':=by
  have hi:(Bm (Em (Ac (fC (.int 1)) (Ac (fC (.int 2)) (Ac (fC (.int 3)) Af))))) [some (.tup (ps.map nU)),none,none,none,none] L = some (.seq ([0,1,2].map fun j:Nat=>U.int ((j:Int) + 1)),L):=rfl
  obtain ⟨L1,e1,g1⟩:=Hf (ix:=[none,some 0]) (it:=.seq ([0,1,2].map fun j:Nat=>U.int ((j:Int) + 1))) (fe:=C3) (δ:=[some (.tup (ps.map nU)),none,none,none,none]) (L:=L) (L0:=L) [0,1,2] (fun j:Nat=>U.int ((j:Int) + 1)) (fun j=>U.int (mxk ps j)) [some (.tup (ps.map nU))] rfl hi (by simp [IU.size]) (by simp) (fun k x=>rfl) (fun j x hj=>Aa8 hl hd (by simp at hj; omega) _)
  have s1:=Fk (i:=1) e1
  simp only [List.set_cons_succ,List.set_cons_zero] at s1
  exact ⟨_,_,s1,by simp,g1.trans (Gw.new _ _)⟩
theorem Rx (a b:List U) (h:a.length + b.length ≤ 1000) (L:UH):Bd (.tup a) (.tup b) L = some (.tup (a ++ b),L):=by
  cases a with
  | nil=>rfl
  | cons x a=>
    show At (.tup (x :: a)) (.tup b) L = _
    unfold At
    simp only
    rw [if_pos ⟨rfl,small_of (by omega)⟩]
theorem Afe {fa:FE} {u:U} {δ:UE} {L L':UH} (h:fa δ L = some (u,L')):(Em (Ac fa Af)) δ L = some (.tup [u],L'):=by
  rw [Jf,fCons_eq,h,Option.bind_some,fNil_eq,Option.map_some,Option.bind_some,if_pos (small_of (by show 1 ≤ 16777216; decide))]
theorem Aj2 {fa fb fc fd:FE} {u v w x:U} {δ:UE} {L:UH} (h:fa δ L = some (u,L)) (h2:fb δ L = some (v,L)) (h3:fc δ L = some (w,L)) (h4:fd δ L = some (x,L)):(Em (Ac fa (Ac fb (Ac fc (Ac fd Af))))) δ L = some (.tup [u,v,w,x],L):=by
  rw [Jf,fCons_eq,h,Option.bind_some,fCons_eq,h2,Option.bind_some,fCons_eq,h3,Option.bind_some,fCons_eq,h4]
  simp only [Option.bind_some,fNil_eq,Option.map_some]
  rw [if_pos (small_of (by show 4 ≤ 16777216; decide))]
theorem Rm:Low "topmost" := Vp (by decide +kernel)
theorem Ais (δ:UE) (L:UH):(f2 Gn (f2 Fm (fC (.int 10)) (fC (.int 10))) (fC (.int 1))) δ L = some (.int 9999999999,L):=by
  have p:Pn 10 10 = true:=rfl
  have h:Fm (.int 10) (.int 10) L = some (.int 10000000000,L):=by simp [p]
  exact Bq (Bq rfl rfl h) rfl rfl
theorem Ph {ps:List PN} (hl:ps.length ≤ 60) (hlow:T8 ps) (hd:Dim 3 ps) (L:UH) :
    ∃ L',Gc [.tup (ps.map nU)] L = some (.bl true,L') ∧ Gw L L':=by
  obtain ⟨r,L1,s1,hr,g1⟩:=Adl hl hd L
  have hmx:=Vr hr
  have t0:(Bk (f2 Kl (A8 J9 (Ac (Ad 1) Af)) (f2 Gn (f2 Fm (fC (.int 10)) (fC (.int 10))) (fC (.int 1))))) [some (.tup (ps.map nU)),some (.ref r),none,none,none] L1 = some (decide (9999999999 ≤ J7 [mxk ps 0,mxk ps 1,mxk ps 2]),L1):=Dl (Bq (Gg rfl hmx) (Ais _ _) (Xk _ _ _))
  cases hq:decide ((9999999999:Int) ≤ J7 [mxk ps 0,mxk ps 1,mxk ps 2]) with
  | true=>
    rw [hq] at t0
    refine ⟨L1,fnN rfl ?_,g1⟩
    show b_l_more_right [some (.tup (ps.map nU)),none,none,none,none] L = _
    unfold b_l_more_right
    rw [Al s1,fSeq_eq,E8,t0]
    rfl
  | false=>
    rw [hq] at t0
    have s2:=Is (f:=Bz (fC (.bl true))) t0
    obtain ⟨nm,hnm⟩:∃ nm:Str,nm = Str.ofString "topmost" := ⟨_,rfl⟩
    have s3:(Aw (fC (.str (Str.ofString "topmost"))) (gN 2)) [some (.tup (ps.map nU)),some (.ref r),none,none,none] L1 = some (.nx [some (.tup (ps.map nU)),some (.ref r),some (.str nm),none,none],L1):=by rw [hnm]; rfl
    have hlow2:Low nm:=by rw [hnm]; exact Rm
    have hmo:(f2 Bd (Ad 0) (Em (Ac (Em (Ac (Ad 2) (Ac (f2 Bd (f2 Ar (Ad 1) (fC (.int 0))) (fC (.int 1))) (Ac (f2 Ar (Ad 1) (fC (.int 1))) (Ac (f2 Ar (Ad 1) (fC (.int 2))) Af))))) Af))) [some (.tup (ps.map nU)),some (.ref r),some (.str nm),none,none] L1 = some (.tup ((ps ++ [Gz nm ps]).map nU),L1):=by
      have hs:=Aq hr
      have i0:Ar (.ref r) (.int 0) L1 = some (.int (mxk ps 0),L1):=by rw [semIx_ref,hs]; rfl
      have i1:Ar (.ref r) (.int 1) L1 = some (.int (mxk ps 1),L1):=by rw [semIx_ref,hs]; rfl
      have i2:Ar (.ref r) (.int 2) L1 = some (.int (mxk ps 2),L1):=by rw [semIx_ref,hs]; rfl
      have ht:=Afe (Aj2 (fa:=Ad 2) (δ:=[some (.tup (ps.map nU)),some (.ref r),some (.str nm),none,none]) (L:=L1) rfl (Bq (s:=Bd) (fb:=fC (.int 1)) (Bq (fa:=Ad 1) (fb:=fC (.int 0)) rfl rfl i0) rfl rfl) (Bq (fa:=Ad 1) (fb:=fC (.int 1)) rfl rfl i1) (Bq (fa:=Ad 1) (fb:=fC (.int 2)) rfl rfl i2))
      have hap:(ps ++ [Gz nm ps]).map nU = ps.map nU ++ [nU (Gz nm ps)]:=by rw [List.map_append]; rfl
      rw [hap]
      exact Bq (fa:=Ad 0) rfl ht (Rx _ _ (by rw [List.length_map]; show ps.length + 1 ≤ 1000; omega) L1)
    have s4:=Fk (i:=3) hmo
    simp only [List.set_cons_succ,List.set_cons_zero] at s4
    have hdm:Dim 3 (ps ++ [Gz nm ps]):=fun p hp=>by
      rcases List.mem_append.mp hp with h | h
      · exact hd p h
      · rw [List.mem_singleton.mp h]; rfl
    have hlm:(ps ++ [Gz nm ps]).length ≤ 1000:=by rw [List.length_append,List.length_singleton]; omega
    obtain ⟨L2,e2,g2⟩:=Bt hlm hdm L1
    rw [Aa3 nm hd] at e2
    have s5:=Fk (i:=4) (Ds (i:=3) (δ:=[some (.tup (ps.map nU)),some (.ref r),some (.str nm),some (.tup ((ps ++ [Gz nm ps]).map nU)),none]) rfl e2)
    simp only [List.set_cons_succ,List.set_cons_zero] at s5
    obtain ⟨L3,e3,g3⟩:=Bt (ps:=ps) (by omega) hd L2
    obtain ⟨L4,e4,g4⟩:=Cw hlm hdm L3
    rw [Aac nm hd] at e4
    refine ⟨L4,fnN rfl ?_,g1.trans (g2.trans (g3.trans g4))⟩
    show b_l_more_right [some (.tup (ps.map nU)),none,none,none,none] L = _
    unfold b_l_more_right
    rw [Al s1,Al s2,Al s3,Al s4,Al s5]
    refine J8 ?_
    generalize hδ:([some (.tup (ps.map nU)),some (.ref r),some (.str nm),some (.tup ((ps ++ [Gz nm ps]).map nU)),some (.tup ((cBs (ps.map Prod.snd) ++ [(ps.length:Int)]).map U.int))]:UE) = δ
    have v0:∀ M,Ad 0 δ M = some (.tup (ps.map nU),M):=fun M=>by rw [← hδ]; rfl
    have v2:∀ M,Ad 2 δ M = some (.str nm,M):=fun M=>by rw [← hδ]; rfl
    have v3:∀ M,Ad 3 δ M = some (.tup ((ps ++ [Gz nm ps]).map nU),M):=fun M=>by rw [← hδ]; rfl
    have v4:∀ M,Ad 4 δ M = some (.tup ((cBs (ps.map Prod.snd) ++ [(ps.length:Int)]).map U.int),M):=fun M=>by rw [← hδ]; rfl
    have hlen:Cm [.tup (ps.map nU)] L3 = some (.int (ps.length:Int),L3):=by
      show some (U.int ((ps.map nU).length:Nat),L3) = _
      rw [List.length_map]
    have hr1:=Bq (Ds (v0 _) e3) (Afe (Gg (v0 _) hlen)) (Rx _ _ (by rw [List.length_map]; show (cBs (ps.map Prod.snd)).length + 1 ≤ 1000; unfold cBs; rw [List.length_map,List.length_map]; omega) L3)
    have hap:(cBs (ps.map Prod.snd)).map U.int ++ [U.int (ps.length:Int)] = (cBs (ps.map Prod.snd) ++ [(ps.length:Int)]).map U.int:=by rw [List.map_append]; rfl
    rw [hap] at hr1
    have t1:=Bq (v4 _) hr1 (Wc _ _ L3)
    have hp:Pl 6 (.tup [.str nm]):=by
      rw [E6]
      intro u hu
      rw [List.mem_singleton.mp hu]
      exact Ui hlow2 _
    have t2:=Bq (s:=Co) (Ds (v3 _) e4) (Afe (v2 L4)) (by show Co (.tup [.str nm]) (.tup [.str nm]) L4 = _; exact Rz L4 hp hp)
    rw [R9 hp] at t2
    rw [Np,t1]
    simp only [Option.bind_some,decide_true,if_true,t2]
end Lw
set_option Elab.async false
set_option linter.all false
set_option maxRecDepth 100000
set_option maxHeartbeats 1000000
namespace Lw
open PySem L2 MR
noncomputable def toN (p:P4):PN:=(p.1,[p.2.1,p.2.2.1,p.2.2.2])
theorem Aci (ps:List P4):ps.map p4U = (ps.map toN).map nU:=by rw [List.map_map]; rfl
theorem Ajf {j:Int} (h0:0 ≤ j) (h1:j < 4):∃ m:Nat,L2.atI [U.int 12,.int 12,.int 12,.int 40] j = some (.int (m:Int)) ∧ m ≤ 60:=by
  have:j = 0 ∨ j = 1 ∨ j = 2 ∨ j = 3:=by omega
  rcases this with rfl | rfl | rfl | rfl
  · exact ⟨12,rfl,by decide⟩
  · exact ⟨12,rfl,by decide⟩
  · exact ⟨12,rfl,by decide⟩
  · exact ⟨40,rfl,by decide⟩
theorem Rc {fe:FE} {δ:UE} {L L':UH} (h:fe δ L = some (.bl true,L')):(Xs (O0 fe)) δ L = some (false,L'):=by
  rw [Aec,Td h]; rfl
theorem Agd {M:UH} {d:Nat} {B:Int} (D:Gdk M d B) (hB:B ≤ 10000) (x0 x2 x3:Option U) :
    ∃ (y3:Option U) (M':UH),Mz [x0,some (.ref d),x2,x3] M = some (.nx [x0,some (.ref d),x2,y3],M') ∧ Gdk M' d (B + 1002):=by
  have sm4:∀ a b c e:U,B9 [a,b,c,e].length = true:=fun _ _ _ _=>small_of (by show 4 ≤ 16777216; decide)
  obtain ⟨j,M1,e1,j0,j1,D1,x1⟩:=B8 (many:=4) (D.new [HU.lst [.int 12,.int 12,.int 12,.int 40]]) (by omega) (by decide) (by decide)
  obtain ⟨m,hm,hm60⟩:=Ajf j0 j1
  have hdl:=D.lt
  have q1:Ao M1 M.length = some [.int 12,.int 12,.int 12,.int 40]:=Aq (x1.get (by simp) (by omega))
  have hix:(f2 Ar (C5 (Ac (fC (.int 12)) (Ac (fC (.int 12)) (Ac (fC (.int 12)) (Ac (fC (.int 40)) Af))))) (Av 2 An (Ac (Ad 1) (Ac (fC (.int 4)) Af)))) [x0,some (.ref d),x2,x3] M = some (.int (m:Int),M1):=by
    have hl:(C5 (Ac (fC (.int 12)) (Ac (fC (.int 12)) (Ac (fC (.int 12)) (Ac (fC (.int 40)) Af))))) [x0,some (.ref d),x2,x3] M = some (.ref M.length,M ++ [.lst [.int 12,.int 12,.int 12,.int 40]]):=by
      rw [fLst_eq]
      simp only [fCons_eq,fC_eq,fNil_eq,Option.bind_some,Option.map_some]
      rw [if_pos (sm4 _ _ _ _)]
    exact Bq hl (K0 (i:=1) rfl e1) (by rw [semIx_ref,q1,Option.bind_some,hm]; rfl)
  obtain ⟨ps,M2,e2,h60,_,hnod,hlow,D2,x2'⟩:=Adk D1 (by omega) hm60
  rw [Aci] at e2
  have hl':(ps.map toN).length ≤ 60:=by rw [List.length_map]; exact h60
  have hlow':T8 (ps.map toN):=fun p hp=>by obtain ⟨q,hq,rfl⟩:=List.mem_map.mp hp; exact hlow q hq
  have hn':((ps.map toN).map Prod.fst).Nodup:=by rw [List.map_map]; exact hnod
  have hd':Dim 3 (ps.map toN):=fun p hp=>by obtain ⟨q,hq,rfl⟩:=List.mem_map.mp hp; rfl
  generalize ps.map toN = qs at e2 hl' hlow' hn' hd'
  have v1:∀ N,Ad 1 [x0,some (.ref d),x2,x3] N = some (.ref d,N):=fun N=>rfl
  have s1:=Fk (i:=3) (Afw (v1 M) hix e2)
  simp only [List.set_cons_succ,List.set_cons_zero] at s1
  obtain ⟨M3,e3,D3,x3'⟩:=Nn hl' hlow' hd' D2 (by omega)
  obtain ⟨M4,e4,g4⟩:=Mh hl' hlow' hn' hd' (.ref d) M3
  obtain ⟨M5,e5,g5⟩:=Ph hl' hlow' hd' M4
  have s2:=Is (f:=Bz (fC (.bl false))) (Va (Rc (Nf (i:=1) (j:=3) (δ:=[x0,some (.ref d),x2,some (.tup (qs.map nU))]) rfl rfl e3)) (Rc (Nf (i:=1) (j:=3) rfl rfl e4)))
  have s3:=Is (f:=Bz (fC (.bl false))) (Rc (Ds (i:=3) (δ:=[x0,some (.ref d),x2,some (.tup (qs.map nU))]) rfl e5))
  refine ⟨some (.tup (qs.map nU)),M5,?_,((D3.gw g4).gw g5).mono (by omega)⟩
  unfold Mz
  rw [Al s1,Al s2]
  exact s3
theorem Aah (ns:List Int) (hl:ns.length ≤ 63) (hb:∀ n ∈ ns,Builtin.Int.intBits n ≤ 2 ^ 20):∃ L',U9 [.ref 0] [.ro (ns.map U.int)] = some (.bl true,L'):=by
  have h20:(2:Nat) ^ 20 ≤ 1048576:=by decide
  obtain ⟨d,L1,e1,D1,_⟩:=W4 ns [.ro (ns.map U.int)] 0 rfl hl h20 (fun c hc=>Ac8 (hb c hc))
  have s1:=Fk (i:=1) (Ds (i:=0) (δ:=[some (.ref 0),none,none,none]) rfl e1)
  simp only [List.set_cons_succ,List.set_cons_zero] at s1
  obtain ⟨δ2,K2,e2,y2,y3,hδ,_⟩:=Ks (us:=Cc 0 3) (L0:=L1) (L:=L1) (δ:=[some (.ref 0),some (.ref d),none,none]) (body:=Mz) (g:=gN 2) (fi:=C6 (Ac (fC (.int 3)) Af))
    (fun k δ' L'=>∃ y2 y3,δ' = [some (.ref 0),some (.ref d),y2,y3] ∧ Gdk L' d (1002 * k) ∧ k ≤ 3)
    (I0 (n:=3) rfl (by omega)) ⟨_,_,rfl,by simpa using D1,by omega⟩
    (fun k u δ M hu ⟨y2,y3,hδ,D,_⟩=>by
      subst hδ
      obtain ⟨hk,rfl⟩:=Go hu
      obtain ⟨z3,M',e,D'⟩:=Agd D (by omega) (some (.ref 0)) (some (.int (0 + (k:Int)))) y3
      refine ⟨[some (.ref 0),some (.ref d),some (.int (0 + (k:Int))),y3],M,rfl,_,M',.inl e,_,_,rfl,?_,by omega⟩
      have:(1002:Int) * ((k + 1:Nat):Int) = 1002 * (k:Int) + 1002:=by omega
      rw [this]; exact D')
  refine ⟨K2,fnN rfl ?_⟩
  show b_law [some (.ref 0),none,none,none] _ = _
  unfold b_law
  rw [Al s1,Al e2]
  rfl
end Lw
namespace Lw
open PySem L2 MR
set_option maxHeartbeats 4000000
def top (i:Nat):Stmt:=PySem.Challenge.pw_belowpoints_k32_whole_room_by_planes.main.body.getD i (.Pass ⟨0,0,0,0⟩)
abbrev Hd:Stmt:=top 17
theorem Fx:FnScope ["script","great","mixed","cell"] ["script"] (Aj Hd):=⟨rfl,rfl,rfl,by decide +kernel,rfl,by decide +kernel,by decide +kernel⟩
abbrev Hh:Stmt:=top 18
theorem Hg:FnScope ["deck","most","found","turn","one"] ["deck","most"] (Aj Hh):=⟨rfl,rfl,rfl,by decide +kernel,rfl,by decide +kernel,by decide +kernel⟩
abbrev Dc:Stmt:=top 1
theorem Pd:FnScope ["one","other"] ["one","other"] (Aj Dc):=⟨rfl,rfl,rfl,by decide +kernel,rfl,by decide +kernel,by decide +kernel⟩
abbrev Dg:Stmt:=top 7
theorem Ox:FnScope ["places","place"] ["places","place"] (Aj Dg):=⟨rfl,rfl,rfl,by decide +kernel,rfl,by decide +kernel,by decide +kernel⟩
abbrev Cg:Stmt:=top 13
theorem Li:FnScope ["point"] ["point"] (Aj Cg):=⟨rfl,rfl,rfl,by decide +kernel,rfl,by decide +kernel,by decide +kernel⟩
abbrev Dh:Stmt:=top 10
theorem Jp:FnScope ["points","places"] ["points"] (Aj Dh):=⟨rfl,rfl,rfl,by decide +kernel,rfl,by decide +kernel,by decide +kernel⟩
abbrev De:Stmt:=top 8
theorem Ow:FnScope ["places","place"] ["places","place"] (Aj De):=⟨rfl,rfl,rfl,by decide +kernel,rfl,by decide +kernel,by decide +kernel⟩
abbrev Ef:Stmt:=top 12
theorem Ky:FnScope ["points","places"] ["points"] (Aj Ef):=⟨rfl,rfl,rfl,by decide +kernel,rfl,by decide +kernel,by decide +kernel⟩
abbrev Cp:Stmt:=top 27
theorem C1:FnScope ["points","top","name","more","below"] ["points"] (Aj Cp):=⟨rfl,rfl,rfl,by decide +kernel,rfl,by decide +kernel,by decide +kernel⟩
abbrev Hc:Stmt:=top 23
theorem He:FnScope ["points","at","flat","plane","point","rest"] ["points","at"] (Aj Hc):=⟨rfl,rfl,rfl,by decide +kernel,rfl,by decide +kernel,by decide +kernel⟩
abbrev Ev:Stmt:=top 2
theorem Sa:FnScope ["point"] ["point"] (Aj Ev):=⟨rfl,rfl,rfl,by decide +kernel,rfl,by decide +kernel,by decide +kernel⟩
abbrev Df:Stmt:=top 4
theorem Jq:FnScope ["points","places"] ["points"] (Aj Df):=⟨rfl,rfl,rfl,by decide +kernel,rfl,by decide +kernel,by decide +kernel⟩
abbrev Cq:Stmt:=top 6
theorem Md:FnScope ["points"] ["points"] (Aj Cq):=⟨rfl,rfl,rfl,by decide +kernel,rfl,by decide +kernel,by decide +kernel⟩
abbrev Dm:Stmt:=top 11
theorem Pb:FnScope ["points"] ["points"] (Aj Dm):=⟨rfl,rfl,rfl,by decide +kernel,rfl,by decide +kernel,by decide +kernel⟩
abbrev Dr:Stmt:=top 5
theorem Jr:FnScope ["points","places"] ["points"] (Aj Dr):=⟨rfl,rfl,rfl,by decide +kernel,rfl,by decide +kernel,by decide +kernel⟩
abbrev Eh:Stmt:=top 15
theorem Dt:FnScope ["points","stairs","left","above","best"] ["points"] (Aj Eh):=⟨rfl,rfl,rfl,by decide +kernel,rfl,by decide +kernel,by decide +kernel⟩
abbrev Ce:Stmt:=top 24
theorem Br:FnScope ["deck","points","flat","plane","best","many","more","point"] ["deck","points"] (Aj Ce):=⟨rfl,rfl,rfl,by decide +kernel,rfl,by decide +kernel,by decide +kernel⟩
abbrev Fy:Stmt:=top 19
theorem Cl:FnScope ["deck","many","letters","spare","begin","near","place","alike","k","sign"] ["deck","many"] (Aj Fy):=⟨rfl,rfl,rfl,by decide +kernel,rfl,by decide +kernel,by decide +kernel⟩
abbrev E2:Stmt:=top 20
theorem Ls:FnScope ["deck","kind","far"] ["deck","kind"] (Aj E2):=⟨rfl,rfl,rfl,by decide +kernel,rfl,by decide +kernel,by decide +kernel⟩
abbrev Ha:Stmt:=top 21
theorem Dj:FnScope ["deck","most","kind","way","found","name","place","at"] ["deck","most"] (Aj Ha):=⟨rfl,rfl,rfl,by decide +kernel,rfl,by decide +kernel,by decide +kernel⟩
abbrev Do:Stmt:=top 25
theorem O8:FnScope ["points"] ["points"] (Aj Do):=⟨rfl,rfl,rfl,by decide +kernel,rfl,by decide +kernel,by decide +kernel⟩
abbrev B5:Stmt:=top 26
theorem Bp:FnScope ["deck","points","one","other","back","best","point","above"] ["deck","points"] (Aj B5):=⟨rfl,rfl,rfl,by decide +kernel,rfl,by decide +kernel,by decide +kernel⟩
abbrev Kw:Stmt:=top 28
theorem Ri:FnScope ["script","deck","turn","points"] ["script"] (Aj Kw):=⟨rfl,rfl,rfl,by decide +kernel,rfl,by decide +kernel,by decide +kernel⟩
set_option genInjectivity false
set_option genSizeOf false
set_option genSizeOfSpec false
structure Defs (K:PySem.W.Frag) (mg:Str → Option Value) where
  f_l_deck:Addr
  d_l_deck:FuncData
  F_l_deck:Fun K "_law_deck" "_law_deck" Hd f_l_deck d_l_deck
  b_l_deck:Binds K d_l_deck ["script"] []
  g_l_deck:mg "_law_deck" = some (.ref f_l_deck)
  f_l_draw:Addr
  d_l_draw:FuncData
  F_l_draw:Fun K "_law_draw" "_law_draw" Hh f_l_draw d_l_draw
  b_l_draw:Binds K d_l_draw ["deck","most"] []
  g_l_draw:mg "_law_draw" = some (.ref f_l_draw)
  f_lies_below:Addr
  d_lies_below:FuncData
  F_lies_below:Fun K "lies_below" "lies_below" Dc f_lies_below d_lies_below
  b_lies_below:Binds K d_lies_below ["one","other"] []
  g_lies_below:mg "lies_below" = some (.ref f_lies_below)
  f_many_below:Addr
  d_many_below:FuncData
  F_many_below:Fun K "many_below" "many_below" Dg f_many_below d_many_below
  b_many_below:Binds K d_many_below ["places","place"] []
  g_many_below:mg "many_below" = some (.ref f_many_below)
  f_room_place_of:Addr
  d_room_place_of:FuncData
  F_room_place_of:Fun K "room_place_of" "room_place_of" Cg f_room_place_of d_room_place_of
  b_room_place_of:Binds K d_room_place_of ["point"] []
  g_room_place_of:mg "room_place_of" = some (.ref f_room_place_of)
  f_room_below:Addr
  d_room_below:FuncData
  F_room_below:Fun K "room_below" "room_below" Dh f_room_below d_room_below
  b_room_below:Binds K d_room_below ["points"] []
  g_room_below:mg "room_below" = some (.ref f_room_below)
  f_many_above:Addr
  d_many_above:FuncData
  F_many_above:Fun K "many_above" "many_above" De f_many_above d_many_above
  b_many_above:Binds K d_many_above ["places","place"] []
  g_many_above:mg "many_above" = some (.ref f_many_above)
  f_room_best:Addr
  d_room_best:FuncData
  F_room_best:Fun K "room_best" "room_best" Ef f_room_best d_room_best
  b_room_best:Binds K d_room_best ["points"] []
  g_room_best:mg "room_best" = some (.ref f_room_best)
  f_l_more_right:Addr
  d_l_more_right:FuncData
  F_l_more_right:Fun K "_law_more_right" "_law_more_right" Cp f_l_more_right d_l_more_right
  b_l_more_right:Binds K d_l_more_right ["points"] []
  g_l_more_right:mg "_law_more_right" = some (.ref f_l_more_right)
  f_l_flat:Addr
  d_l_flat:FuncData
  F_l_flat:Fun K "_law_flat" "_law_flat" Hc f_l_flat d_l_flat
  b_l_flat:Binds K d_l_flat ["points","at"] []
  g_l_flat:mg "_law_flat" = some (.ref f_l_flat)
  f_place_of:Addr
  d_place_of:FuncData
  F_place_of:Fun K "place_of" "place_of" Ev f_place_of d_place_of
  b_place_of:Binds K d_place_of ["point"] []
  g_place_of:mg "place_of" = some (.ref f_place_of)
  f_below_each:Addr
  d_below_each:FuncData
  F_below_each:Fun K "below_each" "below_each" Df f_below_each d_below_each
  b_below_each:Binds K d_below_each ["points"] []
  g_below_each:mg "below_each" = some (.ref f_below_each)
  f_pairs_in_all:Addr
  d_pairs_in_all:FuncData
  F_pairs_in_all:Fun K "pairs_in_all" "pairs_in_all" Cq f_pairs_in_all d_pairs_in_all
  b_pairs_in_all:Binds K d_pairs_in_all ["points"] []
  g_pairs_in_all:mg "pairs_in_all" = some (.ref f_pairs_in_all)
  f_room_pairs:Addr
  d_room_pairs:FuncData
  F_room_pairs:Fun K "room_pairs" "room_pairs" Dm f_room_pairs d_room_pairs
  b_room_pairs:Binds K d_room_pairs ["points"] []
  g_room_pairs:mg "room_pairs" = some (.ref f_room_pairs)
  f_above_each:Addr
  d_above_each:FuncData
  F_above_each:Fun K "above_each" "above_each" Dr f_above_each d_above_each
  b_above_each:Binds K d_above_each ["points"] []
  g_above_each:mg "above_each" = some (.ref f_above_each)
  f_stairs_of:Addr
  d_stairs_of:FuncData
  F_stairs_of:Fun K "stairs_of" "stairs_of" Eh f_stairs_of d_stairs_of
  b_stairs_of:Binds K d_stairs_of ["points"] []
  g_stairs_of:mg "stairs_of" = some (.ref f_stairs_of)
  f_l_plane_right:Addr
  d_l_plane_right:FuncData
  F_l_plane_right:Fun K "_law_plane_right" "_law_plane_right" Ce f_l_plane_right d_l_plane_right
  b_l_plane_right:Binds K d_l_plane_right ["deck","points"] []
  g_l_plane_right:mg "_law_plane_right" = some (.ref f_l_plane_right)
  f_l_names:Addr
  d_l_names:FuncData
  F_l_names:Fun K "_law_names" "_law_names" Fy f_l_names d_l_names
  b_l_names:Binds K d_l_names ["deck","many"] []
  g_l_names:mg "_law_names" = some (.ref f_l_names)
  f_l_number:Addr
  d_l_number:FuncData
  F_l_number:Fun K "_law_number" "_law_number" E2 f_l_number d_l_number
  b_l_number:Binds K d_l_number ["deck","kind"] []
  g_l_number:mg "_law_number" = some (.ref f_l_number)
  f_l_room:Addr
  d_l_room:FuncData
  F_l_room:Fun K "_law_room" "_law_room" Ha f_l_room d_l_room
  b_l_room:Binds K d_l_room ["deck","most"] []
  g_l_room:mg "_law_room" = some (.ref f_l_room)
  f_l_by_names:Addr
  d_l_by_names:FuncData
  F_l_by_names:Fun K "_law_by_names" "_law_by_names" Do f_l_by_names d_l_by_names
  b_l_by_names:Binds K d_l_by_names ["points"] []
  g_l_by_names:mg "_law_by_names" = some (.ref f_l_by_names)
  f_l_turned_right:Addr
  d_l_turned_right:FuncData
  F_l_turned_right:Fun K "_law_turned_right" "_law_turned_right" B5 f_l_turned_right d_l_turned_right
  b_l_turned_right:Binds K d_l_turned_right ["deck","points"] []
  g_l_turned_right:mg "_law_turned_right" = some (.ref f_l_turned_right)
  f_law:Addr
  d_law:FuncData
  F_law:Fun K "law" "law" Kw f_law d_law
  b_law:Binds K d_law ["script"] []
  g_law:mg "law" = some (.ref f_law)
  n_abs:mg "abs" = none
  n_all:mg "all" = none
  n_dict:mg "dict" = none
  n_len:mg "len" = none
  n_list:mg "list" = none
  n_max:mg "max" = none
  n_range:mg "range" = none
  n_sorted:mg "sorted" = none
  n_sum:mg "sum" = none
  n_tuple:mg "tuple" = none
  n_zip:mg "zip" = none
section
variable {P:Program} {w:World} {K:PySem.W.Frag} {mg:Str → Option Value} {base:Heap}
theorem Xe (C:Defs K mg):FnOk P w K mg base CX0 1 C.f_l_deck C.d_l_deck ["script"] (spF K 1 K3):=by
  refine Fun.okF (N:=["script","great","mixed","cell"]) C.F_l_deck Fx (fun cdv A outer s H E hr=>?_)
  have hu:=hr.units
  refine Ai ?s0 ?t0
  case s0=>exact (As (i:=1) (by exact Fx.nd) Ah)
  refine Ai ?s1 ?t1
  case s1=>exact (As (i:=2) (by exact Fx.nd) (Au B2 B1 (Au Dp Di Ah (Bu Ff Gp (by rfl) C.n_len PySem.boot_len (Aa (Ag 0) Ae))) Ah))
  refine Ai ?s2 ?t2
  case s2=>exact (Hl PassesOwn.never rfl (By (C9 Lh Ix (Ag 0) Dz (Ci Ah))) (Am (i:=3) (by exact Fx.nd)) (Ap (Dv (Bo Aem Abp (Bu Sb Uz (by rfl) C.n_abs (by decide +kernel) (Aa (Ag 3) Ae)) (Au Nk Kn Ah Ah) (Bn _)) (Ap (As (i:=1) (by exact Fx.nd) (Au B2 B1 (Au Abx Aan (Ag 1) Ah) (Bu Sb Uz (by rfl) C.n_abs (by decide +kernel) (Aa (Ag 3) Ae))))) (Ap (As (i:=2) (by exact Fx.nd) (Au Io Gy (Au B2 B1 (Au Dp Di (Ag 2) Ah) (Ag 3)) Ah))))))
  exact (Ap (Ax (Dx (Aa (Ag 1) (Aa (Ag 2) (Aa Ah Ae))))))
theorem Bi (C:Defs K mg):FnOk P w K mg base CX0 1 C.f_l_draw C.d_l_draw ["deck","most"] (spF K 2 An):=by
  refine Fun.okF (N:=["deck","most","found","turn","one"]) C.F_l_draw Hg (fun cdv A outer s H E hr=>?_)
  have hu:=hr.units
  refine Ai ?s0 ?t0
  case s0=>exact (Mo (Au B2 B1 (Bw Bh Bg (Ag 0) Ah (fun _ _=>rfl)) Ah) (Qv (Ag 0) Ah))
  refine Ai ?s1 ?t1
  case s1=>exact (Dv (Bo Aag Uk (Bw Bh Bg (Ag 0) Ah (fun _ _=>rfl)) Ah (Bn _)) (Ai (As (i:=2) (by exact Hg.nd) (Au Io Gy (Bw Bh Bg (Ag 0) Ah (fun _ _=>rfl)) (Ag 1))) (Ai (Mo (Au Kv Mn (Bw Bh Bg (Ag 0) Ah (fun _ _=>rfl)) (Ag 1)) (Qv (Ag 0) Ah)) (Ap (Ax (Ag 2))))) Cs)
  refine Ai ?s2 ?t2
  case s2=>exact (As (i:=3) (by exact Hg.nd) (Bw Bh Bg (Ag 0) Ah (fun _ _=>rfl)))
  refine Ai ?s3 ?t3
  case s3=>exact (As (i:=4) (by exact Hg.nd) (Au Io Gy (Au B2 B1 (Au B2 B1 (Bw Bh Bg (Ag 0) Ah (fun _ _=>rfl)) (Au Dp Di (Au Dp Di Ah (Ag 3)) (Ag 3))) (Au Dp Di Ah (Ag 3))) Ah))
  refine Ai ?s4 ?t4
  case s4=>exact (As (i:=4) (by exact Hg.nd) (Au Io Gy (Au Dp Di (Ag 4) (Ag 4)) Ah))
  exact (Ap (Ax (Au Io Gy (Au Kv Mn (Au Io Gy (Au B2 B1 (Au Dp Di (Ag 4) Ah) (Au Dp Di (Ag 3) Ah)) Ah) Ah) (Ag 1))))
theorem Jo (C:Defs K mg):FnOk P w K mg base CX0 1 C.f_lies_below C.d_lies_below ["one","other"] (spF K 2 Dk):=by
  refine Fun.okF (N:=["one","other"]) C.F_lies_below Pd (fun cdv A outer s H E hr=>?_)
  have hu:=hr.units
  exact (Ap (Ax (Aaq (Il (Hq hu) G6 (Ag 0) (Ag 1) (Bn _)) (Tg (Bu (X2 rfl) Ad7 (by rfl) C.n_all PyProof.Rows.boot_all (Aa (Cu (N':=["number","above"]) (ix:=[none,none]) ⟨rfl,rfl,rfl,rfl,rfl,rfl⟩ rfl (Sd (by rfl) C.n_zip (Aa (Ag 0) (Aa (Ag 1) Ae))) (fun _ _ _ _ _ _=>(Gx rfl (Ba (Am (i:=0) (show List.Nodup (α:=Str) ["number","above"] by decide +kernel)) (Ba (Am (i:=1) (show List.Nodup (α:=Str) ["number","above"] by decide +kernel)) Fb)))) (fun _ _ _ _ _ _=>(Il Ai3 Agy (Ag 0) (Ag 1) (Bn _)))) Ae))))))
theorem Jt (C:Defs K mg):FnOk P w K mg base CX0 2 C.f_many_below C.d_many_below ["places","place"] (spF K 2 Fq):=by
  refine Fun.okF (N:=["places","place"]) C.F_many_below Ox (fun cdv A outer s H E hr=>?_)
  have hu:=hr.units
  exact (Ap (Ax (Bu Ff Gp (by rfl) C.n_len PySem.boot_len (Aa (Ki (N':=["other","place"]) (ix:=[none,some 1]) ⟨rfl,rfl,rfl,rfl,rfl,rfl⟩ rfl (By (Ag 0)) (fun _ _ _ _ _ _=>(Am (i:=0) (show List.Nodup (α:=Str) ["other","place"] by decide +kernel))) (fun _ _ _ _ _ _=>(Jh (Ak (Jo C) (hr.mono (by decide)) (by rfl) C.g_lies_below C.F_lies_below.kp C.b_lies_below (Aa (Ag 0) (Aa (Ag 1) Ae))))) (fun _ _ _ _ _ _=>(Ag 0))) Ae))))
theorem Ew (C:Defs K mg):FnOk P w K mg base CX0 1 C.f_room_place_of C.d_room_place_of ["point"] (spF K 1 Cf):=by
  refine Fun.okF (N:=["point"]) C.F_room_place_of Li (fun cdv A outer s H E hr=>?_)
  have hu:=hr.units
  exact (Ap (Ax (D8 (Aa (Bw Bh Bg (Ag 0) Ah (fun _ _=>rfl)) (Aa (Bw Bh Bg (Ag 0) Ah (fun _ _=>rfl)) (Aa (Bw Bh Bg (Ag 0) Ah (fun _ _=>rfl)) Ae))))))
theorem Bs (C:Defs K mg):FnOk P w K mg base CX0 3 C.f_room_below C.d_room_below ["points"] (spF K 1 A0):=by
  refine Fun.okF (N:=["points","places"]) C.F_room_below Jp (fun cdv A outer s H E hr=>?_)
  have hu:=hr.units
  refine Ai ?s0 ?t0
  case s0=>exact (As (i:=1) (by exact Jp.nd) (Cu (N':=["point"]) (ix:=[none]) ⟨rfl,rfl,rfl,rfl,rfl,rfl⟩ rfl (By (Ag 0)) (fun _ _ _ _ _ _=>(Am (i:=0) (show List.Nodup (α:=Str) ["point"] by decide +kernel))) (fun _ _ _ _ _ _=>(Ak (Ew C) (hr.mono (by decide)) (by rfl) C.g_room_place_of C.F_room_place_of.kp C.b_room_place_of (Aa (Ag 0) Ae)))))
  exact (Ap (Ax (B4 Bf Cd (by rfl) C.n_tuple (by decide +kernel) (Aa (Cu (N':=["place","places"]) (ix:=[none,some 1]) ⟨rfl,rfl,rfl,rfl,rfl,rfl⟩ rfl (By (Ag 1)) (fun _ _ _ _ _ _=>(Am (i:=0) (show List.Nodup (α:=Str) ["place","places"] by decide +kernel))) (fun _ _ _ _ _ _=>(Ak (Jt C) (hr.mono (by decide)) (by rfl) C.g_many_below C.F_many_below.kp C.b_many_below (Aa (Ag 1) (Aa (Ag 0) Ae))))) Ae))))
theorem Jv (C:Defs K mg):FnOk P w K mg base CX0 2 C.f_many_above C.d_many_above ["places","place"] (spF K 2 Eo):=by
  refine Fun.okF (N:=["places","place"]) C.F_many_above Ow (fun cdv A outer s H E hr=>?_)
  have hu:=hr.units
  exact (Ap (Ax (Bu Ff Gp (by rfl) C.n_len PySem.boot_len (Aa (Ki (N':=["other","place"]) (ix:=[none,some 1]) ⟨rfl,rfl,rfl,rfl,rfl,rfl⟩ rfl (By (Ag 0)) (fun _ _ _ _ _ _=>(Am (i:=0) (show List.Nodup (α:=Str) ["other","place"] by decide +kernel))) (fun _ _ _ _ _ _=>(Jh (Ak (Jo C) (hr.mono (by decide)) (by rfl) C.g_lies_below C.F_lies_below.kp C.b_lies_below (Aa (Ag 1) (Aa (Ag 0) Ae))))) (fun _ _ _ _ _ _=>(Ag 0))) Ae))))
theorem Cy (C:Defs K mg):FnOk P w K mg base CX0 3 C.f_room_best C.d_room_best ["points"] (spF K 1 Ck):=by
  refine Fun.okF (N:=["points","places"]) C.F_room_best Ky (fun cdv A outer s H E hr=>?_)
  have hu:=hr.units
  refine Ai ?s0 ?t0
  case s0=>exact (As (i:=1) (by exact Ky.nd) (Cu (N':=["point"]) (ix:=[none]) ⟨rfl,rfl,rfl,rfl,rfl,rfl⟩ rfl (By (Ag 0)) (fun _ _ _ _ _ _=>(Am (i:=0) (show List.Nodup (α:=Str) ["point"] by decide +kernel))) (fun _ _ _ _ _ _=>(Ak (Ew C) (hr.mono (by decide)) (by rfl) C.g_room_place_of C.F_room_place_of.kp C.b_room_place_of (Aa (Ag 0) Ae)))))
  exact (Ap (Ax (B4 Bf Cd (by rfl) C.n_tuple (by decide +kernel) (Aa (Ki (N':=["point","places"]) (ix:=[none,some 1]) ⟨rfl,rfl,rfl,rfl,rfl,rfl⟩ rfl (By (Ag 0)) (fun _ _ _ _ _ _=>(Am (i:=0) (show List.Nodup (α:=Str) ["point","places"] by decide +kernel))) (fun _ _ _ _ _ _=>(Bo (G7 hu) G1 (Ak (Jv C) (hr.mono (by decide)) (by rfl) C.g_many_above C.F_many_above.kp C.b_many_above (Aa (Ag 1) (Aa (Ak (Ew C) (hr.mono (by decide)) (by rfl) C.g_room_place_of C.F_room_place_of.kp C.b_room_place_of (Aa (Ag 0) Ae)) Ae))) Ah (Bn _))) (fun _ _ _ _ _ _=>(Bw Bh Bg (Ag 0) Ah (fun _ _=>rfl)))) Ae))))
theorem Mg (C:Defs K mg):FnOk P w K mg base CX0 4 C.f_l_more_right C.d_l_more_right ["points"] (spF K 1 Gc):=by
  refine Fun.okF (N:=["points","top","name","more","below"]) C.F_l_more_right C1 (fun cdv A outer s H E hr=>?_)
  have hu:=hr.units
  refine Ai ?s0 ?t0
  case s0=>exact (Xa (i:=1) (N':=["k","points"]) (ix:=[none,some 0]) (by exact C1.nd) ⟨rfl,rfl,rfl,rfl,rfl⟩ rfl (By (D8 (Aa Ah (Aa Ah (Aa Ah Ae))))) (fun _ _ _ _ _ _=>(Am (i:=0) (show List.Nodup (α:=Str) ["k","points"] by decide +kernel))) (fun _ _ _ _ _ _=>(Bu (Qa rfl) We (by rfl) C.n_max PyProof.Rows.boot_max (Aa (Au D0 C0 (Dx (Aa Ah Ae)) (Cu (N':=["point","k"]) (ix:=[none,some 0]) ⟨rfl,rfl,rfl,rfl,rfl,rfl⟩ rfl (By (Ag 1)) (fun _ _ _ _ _ _=>(Am (i:=0) (show List.Nodup (α:=Str) ["point","k"] by decide +kernel))) (fun _ _ _ _ _ _=>(Bw Bh Bg (Ag 0) (Ag 1) (fun _ _=>rfl))))) Ae))))
  refine Ai ?s1 ?t1
  case s1=>exact (Dv (Bo Aem Abp (Bu (Qa rfl) We (by rfl) C.n_max PyProof.Rows.boot_max (Aa (Ag 1) Ae)) (Au Lg Jc (Au Nk Kn Ah Ah) Ah) (Bn _)) (Ap (Ax Hz)) Cs)
  refine Ai ?s2 ?t2
  case s2=>exact (As (i:=2) (by exact C1.nd) Db)
  refine Ai ?s3 ?t3
  case s3=>exact (As (i:=3) (by exact C1.nd) (Au D0 C0 (Ag 0) (D8 (Aa (D8 (Aa (Ag 2) (Aa (Au D0 C0 (Bw Bh Bg (Ag 1) Ah (fun _ _=>rfl)) Ah) (Aa (Bw Bh Bg (Ag 1) Ah (fun _ _=>rfl)) (Aa (Bw Bh Bg (Ag 1) Ah (fun _ _=>rfl)) Ae))))) Ae))))
  refine Ai ?s4 ?t4
  case s4=>exact (As (i:=4) (by exact C1.nd) (Ak (Bs C) (hr.mono (by decide)) (by rfl) C.g_room_below C.F_room_below.kp C.b_room_below (Aa (Ag 3) Ae)))
  exact (Ap (Ax (Aaq (Il (G7 hu) G1 (Ag 4) (Au D0 C0 (Ak (Bs C) (hr.mono (by decide)) (by rfl) C.g_room_below C.F_room_below.kp C.b_room_below (Aa (Ag 0) Ae)) (D8 (Aa (Bu Ff Gp (by rfl) C.n_len PySem.boot_len (Aa (Ag 0) Ae)) Ae))) (Bn _)) (Tg (Il (G7 hu) G1 (Ak (Cy C) (hr.mono (by decide)) (by rfl) C.g_room_best C.F_room_best.kp C.b_room_best (Aa (Ag 3) Ae)) (D8 (Aa (Ag 2) Ae)) (Bn _))))))
theorem X1 (C:Defs K mg):FnOk P w K mg base CX0 1 C.f_l_flat C.d_l_flat ["points","at"] (spF K 2 Kf):=by
  refine Fun.okF (N:=["points","at","flat","plane","point","rest"]) C.F_l_flat He (fun cdv A outer s H E hr=>?_)
  have hu:=hr.units
  refine Ai ?s0 ?t0
  case s0=>exact (As (i:=2) (by exact He.nd) (Dx Ae))
  refine Ai ?s1 ?t1
  case s1=>exact (As (i:=3) (by exact He.nd) (Dx Ae))
  refine Ai ?s2 ?t2
  case s2=>exact (Hl PassesOwn.never rfl (By (Ag 0)) (Am (i:=4) (by exact He.nd)) (Ai (As (i:=5) (by exact He.nd) (Au D0 C0 (C9 Ms M0 (Ag 4) (Ci Ah) (Ci (Au D0 C0 (Ag 1) Ah))) (C9 Ms M0 (Ag 4) (Ci (Au D0 C0 (Ag 1) Ah)) Dz))) (Ai (Ij (N6 PySem.F.plainAttrs_list PySem.F.slot_list_append PySem.F.type_list_append Hj Gb (Ag 2) (Aa (Au D0 C0 (Au D0 C0 (C9 Ms M0 (Ag 4) Dz (Ci (Au D0 C0 (Ag 1) Ah))) (D8 (Aa Ah Ae))) (C9 Ms M0 (Ag 4) (Ci (Au D0 C0 (Ag 1) Ah)) Dz)) Ae))) (Ap (Ij (N6 PySem.F.plainAttrs_list PySem.F.slot_list_append PySem.F.type_list_append Hj Gb (Ag 3) (Aa (Au D0 C0 (D8 (Aa (Bw Bh Bg (Ag 4) Ah (fun _ _=>rfl)) Ae)) (Ag 5)) Ae)))))))
  exact (Ap (Ax (Dx (Aa (B4 Bf Cd (by rfl) C.n_tuple (by decide +kernel) (Aa (Ag 2) Ae)) (Aa (B4 Bf Cd (by rfl) C.n_tuple (by decide +kernel) (Aa (Ag 3) Ae)) Ae)))))
theorem Im (C:Defs K mg):FnOk P w K mg base CX0 1 C.f_place_of C.d_place_of ["point"] (spF K 1 Ct):=by
  refine Fun.okF (N:=["point"]) C.F_place_of Sa (fun cdv A outer s H E hr=>?_)
  have hu:=hr.units
  exact (Ap (Ax (D8 (Aa (Bw Bh Bg (Ag 0) Ah (fun _ _=>rfl)) (Aa (Bw Bh Bg (Ag 0) Ah (fun _ _=>rfl)) Ae)))))
theorem G3 (C:Defs K mg):FnOk P w K mg base CX0 3 C.f_below_each C.d_below_each ["points"] (spF K 1 Cv):=by
  refine Fun.okF (N:=["points","places"]) C.F_below_each Jq (fun cdv A outer s H E hr=>?_)
  have hu:=hr.units
  refine Ai ?s0 ?t0
  case s0=>exact (As (i:=1) (by exact Jq.nd) (Cu (N':=["point"]) (ix:=[none]) ⟨rfl,rfl,rfl,rfl,rfl,rfl⟩ rfl (By (Ag 0)) (fun _ _ _ _ _ _=>(Am (i:=0) (show List.Nodup (α:=Str) ["point"] by decide +kernel))) (fun _ _ _ _ _ _=>(Ak (Im C) (hr.mono (by decide)) (by rfl) C.g_place_of C.F_place_of.kp C.b_place_of (Aa (Ag 0) Ae)))))
  exact (Ap (Ax (B4 Bf Cd (by rfl) C.n_tuple (by decide +kernel) (Aa (Cu (N':=["place","places"]) (ix:=[none,some 1]) ⟨rfl,rfl,rfl,rfl,rfl,rfl⟩ rfl (By (Ag 1)) (fun _ _ _ _ _ _=>(Am (i:=0) (show List.Nodup (α:=Str) ["place","places"] by decide +kernel))) (fun _ _ _ _ _ _=>(Ak (Jt C) (hr.mono (by decide)) (by rfl) C.g_many_below C.F_many_below.kp C.b_many_below (Aa (Ag 1) (Aa (Ag 0) Ae))))) Ae))))
theorem Me (C:Defs K mg):FnOk P w K mg base CX0 4 C.f_pairs_in_all C.d_pairs_in_all ["points"] (spF K 1 Ga):=by
  refine Fun.okF (N:=["points"]) C.F_pairs_in_all Md (fun cdv A outer s H E hr=>?_)
  have hu:=hr.units
  exact (Ap (Ax (Bu (Pi rfl) Vj (by rfl) C.n_sum PyProof.Rows.boot_sum (Aa (Ak (G3 C) (hr.mono (by decide)) (by rfl) C.g_below_each C.F_below_each.kp C.b_below_each (Aa (Ag 0) Ae)) Ae))))
theorem G0 (C:Defs K mg):FnOk P w K mg base CX0 4 C.f_room_pairs C.d_room_pairs ["points"] (spF K 1 Ek):=by
  refine Fun.okF (N:=["points"]) C.F_room_pairs Pb (fun cdv A outer s H E hr=>?_)
  have hu:=hr.units
  exact (Ap (Ax (Bu (Pi rfl) Vj (by rfl) C.n_sum PyProof.Rows.boot_sum (Aa (Ak (Bs C) (hr.mono (by decide)) (by rfl) C.g_room_below C.F_room_below.kp C.b_room_below (Aa (Ag 0) Ae)) Ae))))
theorem Pe (C:Defs K mg):FnOk P w K mg base CX0 3 C.f_above_each C.d_above_each ["points"] (spF K 1 Hn):=by
  refine Fun.okF (N:=["points","places"]) C.F_above_each Jr (fun cdv A outer s H E hr=>?_)
  have hu:=hr.units
  refine Ai ?s0 ?t0
  case s0=>exact (As (i:=1) (by exact Jr.nd) (Cu (N':=["point"]) (ix:=[none]) ⟨rfl,rfl,rfl,rfl,rfl,rfl⟩ rfl (By (Ag 0)) (fun _ _ _ _ _ _=>(Am (i:=0) (show List.Nodup (α:=Str) ["point"] by decide +kernel))) (fun _ _ _ _ _ _=>(Ak (Im C) (hr.mono (by decide)) (by rfl) C.g_place_of C.F_place_of.kp C.b_place_of (Aa (Ag 0) Ae)))))
  exact (Ap (Ax (B4 Bf Cd (by rfl) C.n_tuple (by decide +kernel) (Aa (Cu (N':=["place","places"]) (ix:=[none,some 1]) ⟨rfl,rfl,rfl,rfl,rfl,rfl⟩ rfl (By (Ag 1)) (fun _ _ _ _ _ _=>(Am (i:=0) (show List.Nodup (α:=Str) ["place","places"] by decide +kernel))) (fun _ _ _ _ _ _=>(Ak (Jv C) (hr.mono (by decide)) (by rfl) C.g_many_above C.F_many_above.kp C.b_many_above (Aa (Ag 1) (Aa (Ag 0) Ae))))) Ae))))
theorem Qo (C:Defs K mg):FnOk P w K mg base CX0 4 C.f_stairs_of C.d_stairs_of ["points"] (spF K 1 Gv):=by
  refine Fun.okF (N:=["points","stairs","left","above","best"]) C.F_stairs_of Dt (fun cdv A outer s H E hr=>?_)
  have hu:=hr.units
  refine Ai ?s0 ?t0
  case s0=>exact (As (i:=1) (by exact Dt.nd) (Dx Ae))
  refine Ai ?s1 ?t1
  case s1=>exact (As (i:=2) (by exact Dt.nd) (Ag 0))
  refine Ai ?s2 ?t2
  case s2=>exact (Wg 100000 PassesOwn.never (Jh (Ag 2)) (Ai (As (i:=3) (by exact Dt.nd) (Ak (Pe C) (hr.mono (by decide)) (by rfl) C.g_above_each C.F_above_each.kp C.b_above_each (Aa (Ag 2) Ae))) (Ai (Pw (i:=4) (N':=["point","many"]) (ix:=[none,none]) (by exact Dt.nd) ⟨rfl,rfl,rfl,rfl,rfl,rfl⟩ rfl (So (by rfl) C.n_zip (Aa (Ag 2) (Aa (Ag 3) Ae))) (fun _ _ _ _ _ _=>(Gx rfl (Ba (Am (i:=0) (show List.Nodup (α:=Str) ["point","many"] by decide +kernel)) (Ba (Am (i:=1) (show List.Nodup (α:=Str) ["point","many"] by decide +kernel)) Fb)))) (fun _ _ _ _ _ _=>(Bo (G7 hu) G1 (Ag 1) Ah (Bn _))) (fun _ _ _ _ _ _=>(Ag 0))) (Ai (Ij (N6 PySem.F.plainAttrs_list PySem.F.slot_list_append PySem.F.type_list_append Hj Gb (Ag 1) (Aa (B4 Bf Cd (by rfl) C.n_tuple (by decide +kernel) (Aa (Cu (N':=["point"]) (ix:=[none]) ⟨rfl,rfl,rfl,rfl,rfl,rfl⟩ rfl (By (Yj (Im C) (hr.mono (by decide)) C.b_place_of (by rfl) C.n_sorted (by rfl) C.g_place_of (Ag 4))) (fun _ _ _ _ _ _=>(Am (i:=0) (show List.Nodup (α:=Str) ["point"] by decide +kernel))) (fun _ _ _ _ _ _=>(Bw Bh Bg (Ag 0) Ah (fun _ _=>rfl)))) Ae)) Ae))) (Ap (Pw (i:=2) (N':=["point","many"]) (ix:=[none,none]) (by exact Dt.nd) ⟨rfl,rfl,rfl,rfl,rfl,rfl⟩ rfl (So (by rfl) C.n_zip (Aa (Ag 2) (Aa (Ag 3) Ae))) (fun _ _ _ _ _ _=>(Gx rfl (Ba (Am (i:=0) (show List.Nodup (α:=Str) ["point","many"] by decide +kernel)) (Ba (Am (i:=1) (show List.Nodup (α:=Str) ["point","many"] by decide +kernel)) Fb)))) (fun _ _ _ _ _ _=>(Bo Aag Uk (Ag 1) Ah (Bn _))) (fun _ _ _ _ _ _=>(Ag 0))))))))
  exact (Ap (Ax (B4 Bf Cd (by rfl) C.n_tuple (by decide +kernel) (Aa (Ag 1) Ae))))
theorem Lb (C:Defs K mg):FnOk P w K mg base CX0 5 C.f_l_plane_right C.d_l_plane_right ["deck","points"] (spF K 2 Fg):=by
  refine Fun.okF (N:=["deck","points","flat","plane","best","many","more","point"]) C.F_l_plane_right Br (fun cdv A outer s H E hr=>?_)
  have hu:=hr.units
  refine Ai ?s0 ?t0
  case s0=>exact (Mo (Ak (X1 C) (hr.mono (by decide)) (by rfl) C.g_l_flat C.F_l_flat.kp C.b_l_flat (Aa (Ag 1) (Aa (Ak (Bi C) (hr.mono (by decide)) (by rfl) C.g_l_draw C.F_l_draw.kp C.b_l_draw (Aa (Ag 0) (Aa Ah Ae))) Ae))) (Abr rfl (Ba (Am (i:=2) (by exact Br.nd)) (Ba (Am (i:=3) (by exact Br.nd)) Fb))))
  refine Ai ?s1 ?t1
  case s1=>exact (Dv (PWF.pt (Qw (Bo (Hq hu) G6 (Ak (Bs C) (hr.mono (by decide)) (by rfl) C.g_room_below C.F_room_below.kp C.b_room_below (Aa (Ag 2) Ae)) (Ak (G3 C) (hr.mono (by decide)) (by rfl) C.g_below_each C.F_below_each.kp C.b_below_each (Aa (Ag 3) Ae)) (Bn _)) (Mr (Bo (Hq hu) G6 (Ak (G0 C) (hr.mono (by decide)) (by rfl) C.g_room_pairs C.F_room_pairs.kp C.b_room_pairs (Aa (Ag 2) Ae)) (Ak (Me C) (hr.mono (by decide)) (by rfl) C.g_pairs_in_all C.F_pairs_in_all.kp C.b_pairs_in_all (Aa (Ag 3) Ae)) (Bn _))))) (Ap (Ax Hz)) Cs)
  refine Ai ?s2 ?t2
  case s2=>exact (As (i:=4) (by exact Br.nd) (Ak (Cy C) (hr.mono (by decide)) (by rfl) C.g_room_best C.F_room_best.kp C.b_room_best (Aa (Ag 2) Ae)))
  refine Ai ?s3 ?t3
  case s3=>exact (Dv (PWF.pt (Qn (Bo (Hq hu) G6 (Ag 1) (D8 Ae) (Bn _)) (Nh (Bo (Hq hu) G6 (Bu (Lz rfl) Ov (by rfl) C.n_sorted PyProof.Rows.boot_sorted (Aa (Ag 4) Ae)) (Bu (Lz rfl) Ov (by rfl) C.n_sorted PyProof.Rows.boot_sorted (Aa (Bw Bh Bg (Ak (Qo C) (hr.mono (by decide)) (by rfl) C.g_stairs_of C.F_stairs_of.kp C.b_stairs_of (Aa (Ag 3) Ae)) Ah (fun _ _=>rfl)) Ae)) (Bn _))))) (Ap (Ax Hz)) Cs)
  refine Ai ?s4 ?t4
  case s4=>exact (Hl PassesOwn.never rfl (Y4 (by rfl) C.n_zip (Aa (Ak (Bs C) (hr.mono (by decide)) (by rfl) C.g_room_below C.F_room_below.kp C.b_room_below (Aa (Ag 1) Ae)) (Aa (Ak (G3 C) (hr.mono (by decide)) (by rfl) C.g_below_each C.F_below_each.kp C.b_below_each (Aa (Ag 3) Ae)) (Aa (Ag 3) Ae)))) (Gx rfl (Ba (Am (i:=5) (by exact Br.nd)) (Ba (Am (i:=6) (by exact Br.nd)) (Ba (Am (i:=7) (by exact Br.nd)) Fb)))) (Ap (Dv (Bo Aag Uk (Ag 5) (Au Lg Jc (Au B2 B1 (Ag 6) (Bu Ff Gp (by rfl) C.n_len PySem.boot_len (Aa (Ki (N':=["other","point"]) (ix:=[none,some 7]) ⟨rfl,rfl,rfl,rfl,rfl,rfl⟩ rfl (By (Ag 3)) (fun _ _ _ _ _ _=>(Am (i:=0) (show List.Nodup (α:=Str) ["other","point"] by decide +kernel))) (fun _ _ _ _ _ _=>(Bo (G7 hu) G1 (C9 Lh Ix (Ag 0) (Ci Ah) Dz) (C9 Lh Ix (Ag 1) (Ci Ah) Dz) (Bn _))) (fun _ _ _ _ _ _=>Ah)) Ae))) Ah) (Bn _)) (Ap (Ax Hz)) Cs)))
  exact (Ap (Ax (Aik (Il (Hq hu) G6 (Ag 1) (D8 Ae) (Bn _)) (Tg (Il (G7 hu) G1 (Ag 4) (D8 Ae) (Bn _))))))
theorem Ul (C:Defs K mg):FnOk P w K mg base CX0 2 C.f_l_names C.d_l_names ["deck","many"] (spF K 2 Fz):=by
  refine Fun.okF (N:=["deck","many","letters","spare","begin","near","place","alike","k","sign"]) C.F_l_names Cl (fun cdv A outer s H E hr=>?_)
  have hu:=hr.units
  refine Ai ?s0 ?t0
  case s0=>exact (As (i:=2) (by exact Cl.nd) Db)
  refine Ai ?s1 ?t1
  case s1=>
    refine As (i:=3) (hi:=?h1_1) (hx:=?h2_1) (hf:=?h3_1) (hs:=?h4_1) ?h5_1 ?h6_1
    case h1_1=>rfl
    case h2_1=>first | exact Or.inl rfl | exact Or.inr rfl
    case h3_1=>first | exact .inl rfl | exact .inr rfl
    case h4_1=>rfl
    case h5_1=>exact (by exact Cl.nd)
    case h6_1=>
      refine Dx ?g
      refine Aa (hs:=?q0) ?e0 ?r0
      case q0=>rfl
      case e0=>exact Db
      refine Aa (hs:=?q1) ?e1 ?r1
      case q1=>rfl
      case e1=>exact Db
      refine Aa (hs:=?q2) ?e2 ?r2
      case q2=>rfl
      case e2=>exact Db
      refine Aa (hs:=?q3) ?e3 ?r3
      case q3=>rfl
      case e3=>exact Db
      refine Aa (hs:=?q4) ?e4 ?r4
      case q4=>rfl
      case e4=>exact Db
      refine Aa (hs:=?q5) ?e5 ?r5
      case q5=>rfl
      case e5=>exact Db
      refine Aa (hs:=?q6) ?e6 ?r6
      case q6=>rfl
      case e6=>exact Db
      refine Aa (hs:=?q7) ?e7 ?r7
      case q7=>rfl
      case e7=>exact Db
      refine Aa (hs:=?q8) ?e8 ?r8
      case q8=>rfl
      case e8=>exact Db
      refine Aa (hs:=?q9) ?e9 ?r9
      case q9=>rfl
      case e9=>exact Db
      refine Aa (hs:=?q10) ?e10 ?r10
      case q10=>rfl
      case e10=>exact Db
      refine Aa (hs:=?q11) ?e11 ?r11
      case q11=>rfl
      case e11=>exact Db
      exact Ae
  refine Ai ?s2 ?t2
  case s2=>exact (As (i:=4) (by exact Cl.nd) (Ak (Bi C) (hr.mono (by decide)) (by rfl) C.g_l_draw C.F_l_draw.kp C.b_l_draw (Aa (Ag 0) (Aa Ah Ae))))
  refine Ai ?s3 ?t3
  case s3=>exact (As (i:=5) (by exact Cl.nd) (N6 PySem.F.plainAttrs_str PySem.F.slot_str_join PySem.F.type_str_join Ad4 Aas Db (Aa (Cu (N':=["k","letters","deck"]) (ix:=[none,some 2,some 0]) ⟨rfl,rfl,rfl,rfl,rfl,rfl⟩ rfl (Gk (by rfl) C.n_range (Aa Ah Ae)) (fun _ _ _ _ _ _=>(Am (i:=0) (show List.Nodup (α:=Str) ["k","letters","deck"] by decide +kernel))) (fun _ _ _ _ _ _=>(Bw Bh Bg (Ag 1) (Ak (Bi C) (hr.mono (by decide)) (by rfl) C.g_l_draw C.F_l_draw.kp C.b_l_draw (Aa (Ag 2) (Aa Ah Ae))) (fun _ _=>rfl)))) Ae)))
  refine Ai ?s4 ?t4
  case s4=>exact (As (i:=6) (by exact Cl.nd) (Ak (Bi C) (hr.mono (by decide)) (by rfl) C.g_l_draw C.F_l_draw.kp C.b_l_draw (Aa (Ag 0) (Aa Ah Ae))))
  refine Ai ?s5 ?t5
  case s5=>exact (As (i:=7) (by exact Cl.nd) (Ak (Bi C) (hr.mono (by decide)) (by rfl) C.g_l_draw C.F_l_draw.kp C.b_l_draw (Aa (Ag 0) (Aa Ah Ae))))
  refine Ai ?s6 ?t6
  case s6=>exact (As (i:=3) (by exact Cl.nd) (C9 Q0 Qq (Ag 3) (Ci (Au Dp Di Ah (Ag 7))) Dz))
  refine Ai ?s7 ?t7
  case s7=>exact (Hl PassesOwn.never rfl (Gk (by rfl) C.n_range (Aa Ah Ae)) (Am (i:=8) (by exact Cl.nd)) (Ai (As (i:=9) (by exact Cl.nd) (Bw Bh Bg (Ag 2) (Au Io Gy (Au B2 B1 (Ag 4) (Ag 8)) Ah) (fun _ _=>rfl))) (Ap (Ij (N6 PySem.F.plainAttrs_list PySem.F.slot_list_append PySem.F.type_list_append Hj Gb (Ag 3) (Aa (Bw Bh Bg (Dx (Aa (Au B2 B1 (Ag 9) (Au Dp Di (Bw Bh Bg Db (Au Kv Mn (Ag 8) Ah) (fun _ _=>rfl)) (Au B2 B1 Ah (Au Io Gy (Ag 8) Ah)))) (Aa (Au B2 B1 (Au B2 B1 (Au B2 B1 (C9 Q0 Qq (Ag 5) Dz (Ci (Ag 6))) (Ag 9)) (Bw Bh Bg Db (Au Kv Mn (Ag 8) Ah) (fun _ _=>rfl))) (C9 Q0 Qq (Ag 5) (Ci (Ag 6)) Dz)) Ae))) (Ag 7) (fun _ _=>rfl)) Ae))))))
  exact (Ap (Ax (Cu (N':=["k","spare","deck"]) (ix:=[none,some 3,some 0]) ⟨rfl,rfl,rfl,rfl,rfl,rfl⟩ rfl (Gk (by rfl) C.n_range (Aa (Ag 1) Ae)) (fun _ _ _ _ _ _=>(Am (i:=0) (show List.Nodup (α:=Str) ["k","spare","deck"] by decide +kernel))) (fun _ _ _ _ _ _=>(N6 PySem.F.plainAttrs_list PySem.F.slot_list_pop PySem.F.type_list_pop Yu Ady (Ag 1) (Aa (Ak (Bi C) (hr.mono (by decide)) (by rfl) C.g_l_draw C.F_l_draw.kp C.b_l_draw (Aa (Ag 2) (Aa (Bu Ff Gp (by rfl) C.n_len PySem.boot_len (Aa (Ag 1) Ae)) Ae))) Ae))))))
theorem R1 (C:Defs K mg):FnOk P w K mg base CX0 2 C.f_l_number C.d_l_number ["deck","kind"] (spF K 2 E4):=by
  refine Fun.okF (N:=["deck","kind","far"]) C.F_l_number Ls (fun cdv A outer s H E hr=>?_)
  have hu:=hr.units
  refine Ai ?s0 ?t0
  case s0=>exact (Dv (Bo Aiw Af1 (Ag 1) Ah (Bn _)) (Ap (Ax (Au Lg Jc (Ak (Bi C) (hr.mono (by decide)) (by rfl) C.g_l_draw C.F_l_draw.kp C.b_l_draw (Aa (Ag 0) (Aa (Bw Bh Bg (Dx (Aa Ah (Aa Ah Ae))) (Ag 1) (fun _ _=>rfl)) Ae))) (Bw Bh Bg (Dx (Aa Ah (Aa Ah Ae))) (Ag 1) (fun _ _=>rfl))))) Cs)
  refine Ai ?s1 ?t1
  case s1=>exact (As (i:=2) (by exact Ls.nd) (Au B2 B1 (Au Dp Di (Ak (Bi C) (hr.mono (by decide)) (by rfl) C.g_l_draw C.F_l_draw.kp C.b_l_draw (Aa (Ag 0) (Aa (Au Nk Kn Ah Ah) Ae))) (Au Nk Kn Ah Ah)) (Ak (Bi C) (hr.mono (by decide)) (by rfl) C.g_l_draw C.F_l_draw.kp C.b_l_draw (Aa (Ag 0) (Aa (Au Nk Kn Ah Ah) Ae)))))
  exact (Ap (Ax (Au Dp Di (Ag 2) (Bw Bh Bg (Dx (Aa Ah (Aa (Th Ah) Ae))) (Ak (Bi C) (hr.mono (by decide)) (by rfl) C.g_l_draw C.F_l_draw.kp C.b_l_draw (Aa (Ag 0) (Aa Ah Ae))) (fun _ _=>rfl)))))
theorem Xu (C:Defs K mg):FnOk P w K mg base CX0 3 C.f_l_room C.d_l_room ["deck","most"] (spF K 2 Kx):=by
  refine Fun.okF (N:=["deck","most","kind","way","found","name","place","at"]) C.F_l_room Dj (fun cdv A outer s H E hr=>?_)
  have hu:=hr.units
  refine Ai ?s0 ?t0
  case s0=>exact (As (i:=2) (by exact Dj.nd) (Ak (Bi C) (hr.mono (by decide)) (by rfl) C.g_l_draw C.F_l_draw.kp C.b_l_draw (Aa (Ag 0) (Aa Ah Ae))))
  refine Ai ?s1 ?t1
  case s1=>exact (As (i:=3) (by exact Dj.nd) (Ak (Bi C) (hr.mono (by decide)) (by rfl) C.g_l_draw C.F_l_draw.kp C.b_l_draw (Aa (Ag 0) (Aa Ah Ae))))
  refine Ai ?s2 ?t2
  case s2=>exact (As (i:=4) (by exact Dj.nd) (Dx Ae))
  refine Ai ?s3 ?t3
  case s3=>exact (Hl PassesOwn.never rfl (By (Ak (Ul C) (hr.mono (by decide)) (by rfl) C.g_l_names C.F_l_names.kp C.b_l_names (Aa (Ag 0) (Aa (Ak (Bi C) (hr.mono (by decide)) (by rfl) C.g_l_draw C.F_l_draw.kp C.b_l_draw (Aa (Ag 0) (Aa (Au B2 B1 (Ag 1) Ah) Ae))) Ae)))) (Am (i:=5) (by exact Dj.nd)) (Ai (Yb (i:=6) (N':=["k","deck","kind"]) (ix:=[none,some 0,some 2]) (by exact Dj.nd) ⟨rfl,rfl,rfl,rfl,rfl,rfl⟩ rfl (Gk (by rfl) C.n_range (Aa Ah Ae)) (fun _ _ _ _ _ _=>(Am (i:=0) (show List.Nodup (α:=Str) ["k","deck","kind"] by decide +kernel))) (fun _ _ _ _ _ _=>(Ak (R1 C) (hr.mono (by decide)) (by rfl) C.g_l_number C.F_l_number.kp C.b_l_number (Aa (Ag 1) (Aa (Ag 2) Ae))))) (Ai (Dv (Bo (G7 hu) G1 (Ag 3) Ah (Bn _)) (Ap (As (i:=6) (by exact Dj.nd) (Au Dp Di (Dx (Aa (Bw Bh Bg (Ag 6) Ah (fun _ _=>rfl)) Ae)) Ah))) Cs) (Ai (Dv (PWF.pt (Qn (Bo (Hq hu) G6 (Ag 4) (Dx Ae) (Bn _)) (Nh (Bo (G7 hu) G1 (Ak (Bi C) (hr.mono (by decide)) (by rfl) C.g_l_draw C.F_l_draw.kp C.b_l_draw (Aa (Ag 0) (Aa Ah Ae))) Ah (Bn _))))) (Ap (As (i:=6) (by exact Dj.nd) (B4 Q3 Ym (by rfl) C.n_list (by decide +kernel) (Aa (C9 Lh Ix (Bw Bh Bg (Ag 4) (Ak (Bi C) (hr.mono (by decide)) (by rfl) C.g_l_draw C.F_l_draw.kp C.b_l_draw (Aa (Ag 0) (Aa (Bu Ff Gp (by rfl) C.n_len PySem.boot_len (Aa (Ag 4) Ae)) Ae))) (fun _ _=>rfl)) (Ci Ah) Dz) Ae)))) Cs) (Ai (Dv (PWF.pt (Qn (Bo (Hq hu) G6 (Ag 4) (Dx Ae) (Bn _)) (Nh (Bo (G7 hu) G1 (Ak (Bi C) (hr.mono (by decide)) (by rfl) C.g_l_draw C.F_l_draw.kp C.b_l_draw (Aa (Ag 0) (Aa Ah Ae))) Ah (Bn _))))) (Ai (As (i:=7) (by exact Dj.nd) (Ak (Bi C) (hr.mono (by decide)) (by rfl) C.g_l_draw C.F_l_draw.kp C.b_l_draw (Aa (Ag 0) (Aa Ah Ae)))) (Ap (Mo (Bw Bh Bg (Bw Bh Bg (Ag 4) (Ak (Bi C) (hr.mono (by decide)) (by rfl) C.g_l_draw C.F_l_draw.kp C.b_l_draw (Aa (Ag 0) (Aa (Bu Ff Gp (by rfl) C.n_len PySem.boot_len (Aa (Ag 4) Ae)) Ae))) (fun _ _=>rfl)) (Au B2 B1 Ah (Ag 7)) (fun _ _=>rfl)) (Qv (Ag 6) (Ag 7))))) Cs) (Ap (Ij (N6 PySem.F.plainAttrs_list PySem.F.slot_list_append PySem.F.type_list_append Hj Gb (Ag 4) (Aa (Au B2 B1 (D8 (Aa (Ag 5) Ae)) (B4 Bf Cd (by rfl) C.n_tuple (by decide +kernel) (Aa (Ag 6) Ae))) Ae)))))))))
  exact (Ap (Ax (B4 Bf Cd (by rfl) C.n_tuple (by decide +kernel) (Aa (Ag 4) Ae))))
theorem Jn (C:Defs K mg):FnOk P w K mg base CX0 4 C.f_l_by_names C.d_l_by_names ["points"] (spF K 1 Ft):=by
  refine Fun.okF (N:=["points"]) C.F_l_by_names O8 (fun cdv A outer s H E hr=>?_)
  have hu:=hr.units
  exact (Ap (Ax (Acv rfl (by rfl) C.n_dict (by rfl) C.n_zip (Aa (Cu (N':=["point"]) (ix:=[none]) ⟨rfl,rfl,rfl,rfl,rfl,rfl⟩ rfl (By (Ag 0)) (fun _ _ _ _ _ _=>(Am (i:=0) (show List.Nodup (α:=Str) ["point"] by decide +kernel))) (fun _ _ _ _ _ _=>(Bw Bh Bg (Ag 0) Ah (fun _ _=>rfl)))) (Aa (Ak (Bs C) (hr.mono (by decide)) (by rfl) C.g_room_below C.F_room_below.kp C.b_room_below (Aa (Ag 0) Ae)) Ae)))))
theorem Km (C:Defs K mg):FnOk P w K mg base CX0 5 C.f_l_turned_right C.d_l_turned_right ["deck","points"] (spF K 2 Ey):=by
  refine Fun.okF (N:=["deck","points","one","other","back","best","point","above"]) C.F_l_turned_right Bp (fun cdv A outer s H E hr=>?_)
  have hu:=hr.units
  refine Ai ?s0 ?t0
  case s0=>exact (As (i:=2) (by exact Bp.nd) (B4 Bf Cd (by rfl) C.n_tuple (by decide +kernel) (Aa (Cu (N':=["name","x","y","z"]) (ix:=[none,none,none,none]) ⟨rfl,rfl,rfl,rfl,rfl,rfl⟩ rfl (By (Ag 1)) (fun _ _ _ _ _ _=>(Gx rfl (Ba (Am (i:=0) (show List.Nodup (α:=Str) ["name","x","y","z"] by decide +kernel)) (Ba (Am (i:=1) (show List.Nodup (α:=Str) ["name","x","y","z"] by decide +kernel)) (Ba (Am (i:=2) (show List.Nodup (α:=Str) ["name","x","y","z"] by decide +kernel)) (Ba (Am (i:=3) (show List.Nodup (α:=Str) ["name","x","y","z"] by decide +kernel)) Fb)))))) (fun _ _ _ _ _ _=>(D8 (Aa (Ag 0) (Aa (Ag 2) (Aa (Ag 3) (Aa (Ag 1) Ae))))))) Ae)))
  refine Ai ?s1 ?t1
  case s1=>exact (As (i:=3) (by exact Bp.nd) (Aal (Ag 1)))
  refine Ai ?s2 ?t2
  case s2=>exact (Dv (PWF.pt (Qw (Bo (Lm hu) Jd (Ak (Bs C) (hr.mono (by decide)) (by rfl) C.g_room_below C.F_room_below.kp C.b_room_below (Aa (Ag 2) Ae)) (Ak (Bs C) (hr.mono (by decide)) (by rfl) C.g_room_below C.F_room_below.kp C.b_room_below (Aa (Ag 1) Ae)) (Bn _)) (Mr (Bo (Lm hu) Jd (Ak (Jn C) (hr.mono (by decide)) (by rfl) C.g_l_by_names C.F_l_by_names.kp C.b_l_by_names (Aa (Ag 3) Ae)) (Ak (Jn C) (hr.mono (by decide)) (by rfl) C.g_l_by_names C.F_l_by_names.kp C.b_l_by_names (Aa (Ag 1) Ae)) (Bn _))))) (Ap (Ax Hz)) Cs)
  refine Ai ?s3 ?t3
  case s3=>exact (Dv (PWF.pt (Qw (Bo (Lm hu) Jd (Ak (Cy C) (hr.mono (by decide)) (by rfl) C.g_room_best C.F_room_best.kp C.b_room_best (Aa (Ag 2) Ae)) (Ak (Cy C) (hr.mono (by decide)) (by rfl) C.g_room_best C.F_room_best.kp C.b_room_best (Aa (Ag 1) Ae)) (Bn _)) (Mr (Bo (Lm hu) Jd (Ak (Cy C) (hr.mono (by decide)) (by rfl) C.g_room_best C.F_room_best.kp C.b_room_best (Aa (Ag 3) Ae)) (Aal (Ak (Cy C) (hr.mono (by decide)) (by rfl) C.g_room_best C.F_room_best.kp C.b_room_best (Aa (Ag 1) Ae))) (Bn _))))) (Ap (Ax Hz)) Cs)
  refine Ai ?s4 ?t4
  case s4=>exact (As (i:=4) (by exact Bp.nd) (B4 Bf Cd (by rfl) C.n_tuple (by decide +kernel) (Aa (Cu (N':=["name","x","y","z"]) (ix:=[none,none,none,none]) ⟨rfl,rfl,rfl,rfl,rfl,rfl⟩ rfl (By (Ag 1)) (fun _ _ _ _ _ _=>(Gx rfl (Ba (Am (i:=0) (show List.Nodup (α:=Str) ["name","x","y","z"] by decide +kernel)) (Ba (Am (i:=1) (show List.Nodup (α:=Str) ["name","x","y","z"] by decide +kernel)) (Ba (Am (i:=2) (show List.Nodup (α:=Str) ["name","x","y","z"] by decide +kernel)) (Ba (Am (i:=3) (show List.Nodup (α:=Str) ["name","x","y","z"] by decide +kernel)) Fb)))))) (fun _ _ _ _ _ _=>(D8 (Aa (Ag 0) (Aa (Au Lg Jc Ah (Ag 1)) (Aa (Au Lg Jc Ah (Ag 2)) (Aa (Au Lg Jc Ah (Ag 3)) Ae))))))) Ae)))
  refine Ai ?s5 ?t5
  case s5=>exact (Dv (Bo (Lm hu) Jd (Ak (G0 C) (hr.mono (by decide)) (by rfl) C.g_room_pairs C.F_room_pairs.kp C.b_room_pairs (Aa (Ag 4) Ae)) (Ak (G0 C) (hr.mono (by decide)) (by rfl) C.g_room_pairs C.F_room_pairs.kp C.b_room_pairs (Aa (Ag 1) Ae)) (Bn _)) (Ap (Ax Hz)) Cs)
  refine Ai ?s6 ?t6
  case s6=>exact (As (i:=5) (by exact Bp.nd) (Ak (Cy C) (hr.mono (by decide)) (by rfl) C.g_room_best C.F_room_best.kp C.b_room_best (Aa (Ag 1) Ae)))
  refine Ai ?s7 ?t7
  case s7=>exact (Hl PassesOwn.never rfl (Sd (by rfl) C.n_zip (Aa (Ag 1) (Aa (Ak (Bs C) (hr.mono (by decide)) (by rfl) C.g_room_below C.F_room_below.kp C.b_room_below (Aa (Ag 4) Ae)) Ae))) (Gx rfl (Ba (Am (i:=6) (by exact Bp.nd)) (Ba (Am (i:=7) (by exact Bp.nd)) Fb))) (Ap (Dv (Bo (Lm hu) Jd (Il Af8 (Ae1 false) (Bw Bh Bg (Ag 6) Ah (fun _ _=>rfl)) (Ag 5) (by with_unfolding_all rfl)) (Il (G7 hu) G1 (Ag 7) Ah (Bn _)) (Bn _)) (Ap (Ax Hz)) Cs)))
  exact (Ap (Ax Hz))
theorem Ae9 (C:Defs K mg):FnOk P w K mg base CX0 6 C.f_law C.d_law ["script"] (spF K 1 U9):=by
  refine Fun.okF (N:=["script","deck","turn","points"]) C.F_law Ri (fun cdv A outer s H E hr=>?_)
  have hu:=hr.units
  refine Ai ?s0 ?t0
  case s0=>exact (As (i:=1) (by exact Ri.nd) (Ak (Xe C) (hr.mono (by decide)) (by rfl) C.g_l_deck C.F_l_deck.kp C.b_l_deck (Aa (Ag 0) Ae)))
  refine Ai ?s1 ?t1
  case s1=>exact (Hl PassesOwn.never rfl (Gk (by rfl) C.n_range (Aa Ah Ae)) (Am (i:=2) (by exact Ri.nd)) (Ai (As (i:=3) (by exact Ri.nd) (Ak (Xu C) (hr.mono (by decide)) (by rfl) C.g_l_room C.F_l_room.kp C.b_l_room (Aa (Ag 1) (Aa (Bw Bh Bg (Dx (Aa Ah (Aa Ah (Aa Ah (Aa Ah Ae))))) (Ak (Bi C) (hr.mono (by decide)) (by rfl) C.g_l_draw C.F_l_draw.kp C.b_l_draw (Aa (Ag 1) (Aa Ah Ae))) (fun _ _=>rfl)) Ae)))) (Ai (Dv (PWF.pt (Qw (Rf (Jh (Ak (Lb C) (hr.mono (by decide)) (by rfl) C.g_l_plane_right C.F_l_plane_right.kp C.b_l_plane_right (Aa (Ag 1) (Aa (Ag 3) Ae))))) (Mr (Rf (Jh (Ak (Km C) (hr.mono (by decide)) (by rfl) C.g_l_turned_right C.F_l_turned_right.kp C.b_l_turned_right (Aa (Ag 1) (Aa (Ag 3) Ae)))))))) (Ap (Ax Hz)) Cs) (Ap (Dv (Rf (Jh (Ak (Mg C) (hr.mono (by decide)) (by rfl) C.g_l_more_right C.F_l_more_right.kp C.b_l_more_right (Aa (Ag 3) Ae)))) (Ap (Ax Hz)) Cs)))))
  exact (Ap (Ax Hz))
end
theorem Ago {l:PySem.W.OpenLaw} {w:World} {K:PySem.W.Frag} {h:Heap} {mg:Str → Option Value} {fa:Addr} (X:K.In h) (G:h.Ns mainGlobals mg) (hfa:mg "law" = some (.ref fa))
    {od0 an0:Option Addr} {sl0:Array (Option Value)} {oc0 kV0 dc0 pm0 cd0 ct0:Value} {f0:Addr} {od1 an1:Option Addr} {sl1:Array (Option Value)} {oc1 kV1 dc1 pm1 cd1 ct1:Value} {f1:Addr} {od2 an2:Option Addr} {sl2:Array (Option Value)} {oc2 kV2 dc2 pm2 cd2 ct2:Value} {f2:Addr} {od3 an3:Option Addr} {sl3:Array (Option Value)} {oc3 kV3 dc3 pm3 cd3 ct3:Value} {f3:Addr} {od4 an4:Option Addr} {sl4:Array (Option Value)} {oc4 kV4 dc4 pm4 cd4 ct4:Value} {f4:Addr} {od5 an5:Option Addr} {sl5:Array (Option Value)} {oc5 kV5 dc5 pm5 cd5 ct5:Value} {f5:Addr} {od6 an6:Option Addr} {sl6:Array (Option Value)} {oc6 kV6 dc6 pm6 cd6 ct6:Value} {f6:Addr} {od7 an7:Option Addr} {sl7:Array (Option Value)} {oc7 kV7 dc7 pm7 cd7 ct7:Value} {f7:Addr} {od8 an8:Option Addr} {sl8:Array (Option Value)} {oc8 kV8 dc8 pm8 cd8 ct8:Value} {f8:Addr} {od9 an9:Option Addr} {sl9:Array (Option Value)} {oc9 kV9 dc9 pm9 cd9 ct9:Value} {f9:Addr} {od10 an10:Option Addr} {sl10:Array (Option Value)} {oc10 kV10 dc10 pm10 cd10 ct10:Value} {f10:Addr} {od11 an11:Option Addr} {sl11:Array (Option Value)} {oc11 kV11 dc11 pm11 cd11 ct11:Value} {f11:Addr} {od12 an12:Option Addr} {sl12:Array (Option Value)} {oc12 kV12 dc12 pm12 cd12 ct12:Value} {f12:Addr} {od13 an13:Option Addr} {sl13:Array (Option Value)} {oc13 kV13 dc13 pm13 cd13 ct13:Value} {f13:Addr} {od14 an14:Option Addr} {sl14:Array (Option Value)} {oc14 kV14 dc14 pm14 cd14 ct14:Value} {f14:Addr} {od15 an15:Option Addr} {sl15:Array (Option Value)} {oc15 kV15 dc15 pm15 cd15 ct15:Value} {f15:Addr} {od16 an16:Option Addr} {sl16:Array (Option Value)} {oc16 kV16 dc16 pm16 cd16 ct16:Value} {f16:Addr} {od17 an17:Option Addr} {sl17:Array (Option Value)} {oc17 kV17 dc17 pm17 cd17 ct17:Value} {f17:Addr} {od18 an18:Option Addr} {sl18:Array (Option Value)} {oc18 kV18 dc18 pm18 cd18 ct18:Value} {f18:Addr} {od19 an19:Option Addr} {sl19:Array (Option Value)} {oc19 kV19 dc19 pm19 cd19 ct19:Value} {f19:Addr} {od20 an20:Option Addr} {sl20:Array (Option Value)} {oc20 kV20 dc20 pm20 cd20 ct20:Value} {f20:Addr} {od21 an21:Option Addr} {sl21:Array (Option Value)} {oc21 kV21 dc21 pm21 cd21 ct21:Value} {f21:Addr} {od22 an22:Option Addr} {sl22:Array (Option Value)} {oc22 kV22 dc22 pm22 cd22 ct22:Value} {f22:Addr}
    (a0:PySem.W.nsIn K mainGlobals "_law_deck" = some (some (.ref f0))) (l0:K.lookup f0 = some ⟨oc0,od0,.func (PySem.W.fnOf "_law_deck" "_law_deck" (Bc Hd) (A9 Hd) (Aj Hd) .none kV0 dc0 pm0 an0 cd0 ct0),sl0⟩) (c0:PySem.W.codeIn K cd0 "_law_deck" = true) (k0:PySem.W.keepIn K (.ref f0) = true)
    (a1:PySem.W.nsIn K mainGlobals "_law_draw" = some (some (.ref f1))) (l1:K.lookup f1 = some ⟨oc1,od1,.func (PySem.W.fnOf "_law_draw" "_law_draw" (Bc Hh) (A9 Hh) (Aj Hh) .none kV1 dc1 pm1 an1 cd1 ct1),sl1⟩) (c1:PySem.W.codeIn K cd1 "_law_draw" = true) (k1:PySem.W.keepIn K (.ref f1) = true)
    (a2:PySem.W.nsIn K mainGlobals "lies_below" = some (some (.ref f2))) (l2:K.lookup f2 = some ⟨oc2,od2,.func (PySem.W.fnOf "lies_below" "lies_below" (Bc Dc) (A9 Dc) (Aj Dc) .none kV2 dc2 pm2 an2 cd2 ct2),sl2⟩) (c2:PySem.W.codeIn K cd2 "lies_below" = true) (k2:PySem.W.keepIn K (.ref f2) = true)
    (a3:PySem.W.nsIn K mainGlobals "many_below" = some (some (.ref f3))) (l3:K.lookup f3 = some ⟨oc3,od3,.func (PySem.W.fnOf "many_below" "many_below" (Bc Dg) (A9 Dg) (Aj Dg) .none kV3 dc3 pm3 an3 cd3 ct3),sl3⟩) (c3:PySem.W.codeIn K cd3 "many_below" = true) (k3:PySem.W.keepIn K (.ref f3) = true)
    (a4:PySem.W.nsIn K mainGlobals "room_place_of" = some (some (.ref f4))) (l4:K.lookup f4 = some ⟨oc4,od4,.func (PySem.W.fnOf "room_place_of" "room_place_of" (Bc Cg) (A9 Cg) (Aj Cg) .none kV4 dc4 pm4 an4 cd4 ct4),sl4⟩) (c4:PySem.W.codeIn K cd4 "room_place_of" = true) (k4:PySem.W.keepIn K (.ref f4) = true)
    (a5:PySem.W.nsIn K mainGlobals "room_below" = some (some (.ref f5))) (l5:K.lookup f5 = some ⟨oc5,od5,.func (PySem.W.fnOf "room_below" "room_below" (Bc Dh) (A9 Dh) (Aj Dh) .none kV5 dc5 pm5 an5 cd5 ct5),sl5⟩) (c5:PySem.W.codeIn K cd5 "room_below" = true) (k5:PySem.W.keepIn K (.ref f5) = true)
    (a6:PySem.W.nsIn K mainGlobals "many_above" = some (some (.ref f6))) (l6:K.lookup f6 = some ⟨oc6,od6,.func (PySem.W.fnOf "many_above" "many_above" (Bc De) (A9 De) (Aj De) .none kV6 dc6 pm6 an6 cd6 ct6),sl6⟩) (c6:PySem.W.codeIn K cd6 "many_above" = true) (k6:PySem.W.keepIn K (.ref f6) = true)
    (a7:PySem.W.nsIn K mainGlobals "room_best" = some (some (.ref f7))) (l7:K.lookup f7 = some ⟨oc7,od7,.func (PySem.W.fnOf "room_best" "room_best" (Bc Ef) (A9 Ef) (Aj Ef) .none kV7 dc7 pm7 an7 cd7 ct7),sl7⟩) (c7:PySem.W.codeIn K cd7 "room_best" = true) (k7:PySem.W.keepIn K (.ref f7) = true)
    (a8:PySem.W.nsIn K mainGlobals "_law_more_right" = some (some (.ref f8))) (l8:K.lookup f8 = some ⟨oc8,od8,.func (PySem.W.fnOf "_law_more_right" "_law_more_right" (Bc Cp) (A9 Cp) (Aj Cp) .none kV8 dc8 pm8 an8 cd8 ct8),sl8⟩) (c8:PySem.W.codeIn K cd8 "_law_more_right" = true) (k8:PySem.W.keepIn K (.ref f8) = true)
    (a9:PySem.W.nsIn K mainGlobals "_law_flat" = some (some (.ref f9))) (l9:K.lookup f9 = some ⟨oc9,od9,.func (PySem.W.fnOf "_law_flat" "_law_flat" (Bc Hc) (A9 Hc) (Aj Hc) .none kV9 dc9 pm9 an9 cd9 ct9),sl9⟩) (c9:PySem.W.codeIn K cd9 "_law_flat" = true) (k9:PySem.W.keepIn K (.ref f9) = true)
    (a10:PySem.W.nsIn K mainGlobals "place_of" = some (some (.ref f10))) (l10:K.lookup f10 = some ⟨oc10,od10,.func (PySem.W.fnOf "place_of" "place_of" (Bc Ev) (A9 Ev) (Aj Ev) .none kV10 dc10 pm10 an10 cd10 ct10),sl10⟩) (c10:PySem.W.codeIn K cd10 "place_of" = true) (k10:PySem.W.keepIn K (.ref f10) = true)
    (a11:PySem.W.nsIn K mainGlobals "below_each" = some (some (.ref f11))) (l11:K.lookup f11 = some ⟨oc11,od11,.func (PySem.W.fnOf "below_each" "below_each" (Bc Df) (A9 Df) (Aj Df) .none kV11 dc11 pm11 an11 cd11 ct11),sl11⟩) (c11:PySem.W.codeIn K cd11 "below_each" = true) (k11:PySem.W.keepIn K (.ref f11) = true)
    (a12:PySem.W.nsIn K mainGlobals "pairs_in_all" = some (some (.ref f12))) (l12:K.lookup f12 = some ⟨oc12,od12,.func (PySem.W.fnOf "pairs_in_all" "pairs_in_all" (Bc Cq) (A9 Cq) (Aj Cq) .none kV12 dc12 pm12 an12 cd12 ct12),sl12⟩) (c12:PySem.W.codeIn K cd12 "pairs_in_all" = true) (k12:PySem.W.keepIn K (.ref f12) = true)
    (a13:PySem.W.nsIn K mainGlobals "room_pairs" = some (some (.ref f13))) (l13:K.lookup f13 = some ⟨oc13,od13,.func (PySem.W.fnOf "room_pairs" "room_pairs" (Bc Dm) (A9 Dm) (Aj Dm) .none kV13 dc13 pm13 an13 cd13 ct13),sl13⟩) (c13:PySem.W.codeIn K cd13 "room_pairs" = true) (k13:PySem.W.keepIn K (.ref f13) = true)
    (a14:PySem.W.nsIn K mainGlobals "above_each" = some (some (.ref f14))) (l14:K.lookup f14 = some ⟨oc14,od14,.func (PySem.W.fnOf "above_each" "above_each" (Bc Dr) (A9 Dr) (Aj Dr) .none kV14 dc14 pm14 an14 cd14 ct14),sl14⟩) (c14:PySem.W.codeIn K cd14 "above_each" = true) (k14:PySem.W.keepIn K (.ref f14) = true)
    (a15:PySem.W.nsIn K mainGlobals "stairs_of" = some (some (.ref f15))) (l15:K.lookup f15 = some ⟨oc15,od15,.func (PySem.W.fnOf "stairs_of" "stairs_of" (Bc Eh) (A9 Eh) (Aj Eh) .none kV15 dc15 pm15 an15 cd15 ct15),sl15⟩) (c15:PySem.W.codeIn K cd15 "stairs_of" = true) (k15:PySem.W.keepIn K (.ref f15) = true)
    (a16:PySem.W.nsIn K mainGlobals "_law_plane_right" = some (some (.ref f16))) (l16:K.lookup f16 = some ⟨oc16,od16,.func (PySem.W.fnOf "_law_plane_right" "_law_plane_right" (Bc Ce) (A9 Ce) (Aj Ce) .none kV16 dc16 pm16 an16 cd16 ct16),sl16⟩) (c16:PySem.W.codeIn K cd16 "_law_plane_right" = true) (k16:PySem.W.keepIn K (.ref f16) = true)
    (a17:PySem.W.nsIn K mainGlobals "_law_names" = some (some (.ref f17))) (l17:K.lookup f17 = some ⟨oc17,od17,.func (PySem.W.fnOf "_law_names" "_law_names" (Bc Fy) (A9 Fy) (Aj Fy) .none kV17 dc17 pm17 an17 cd17 ct17),sl17⟩) (c17:PySem.W.codeIn K cd17 "_law_names" = true) (k17:PySem.W.keepIn K (.ref f17) = true)
    (a18:PySem.W.nsIn K mainGlobals "_law_number" = some (some (.ref f18))) (l18:K.lookup f18 = some ⟨oc18,od18,.func (PySem.W.fnOf "_law_number" "_law_number" (Bc E2) (A9 E2) (Aj E2) .none kV18 dc18 pm18 an18 cd18 ct18),sl18⟩) (c18:PySem.W.codeIn K cd18 "_law_number" = true) (k18:PySem.W.keepIn K (.ref f18) = true)
    (a19:PySem.W.nsIn K mainGlobals "_law_room" = some (some (.ref f19))) (l19:K.lookup f19 = some ⟨oc19,od19,.func (PySem.W.fnOf "_law_room" "_law_room" (Bc Ha) (A9 Ha) (Aj Ha) .none kV19 dc19 pm19 an19 cd19 ct19),sl19⟩) (c19:PySem.W.codeIn K cd19 "_law_room" = true) (k19:PySem.W.keepIn K (.ref f19) = true)
    (a20:PySem.W.nsIn K mainGlobals "_law_by_names" = some (some (.ref f20))) (l20:K.lookup f20 = some ⟨oc20,od20,.func (PySem.W.fnOf "_law_by_names" "_law_by_names" (Bc Do) (A9 Do) (Aj Do) .none kV20 dc20 pm20 an20 cd20 ct20),sl20⟩) (c20:PySem.W.codeIn K cd20 "_law_by_names" = true) (k20:PySem.W.keepIn K (.ref f20) = true)
    (a21:PySem.W.nsIn K mainGlobals "_law_turned_right" = some (some (.ref f21))) (l21:K.lookup f21 = some ⟨oc21,od21,.func (PySem.W.fnOf "_law_turned_right" "_law_turned_right" (Bc B5) (A9 B5) (Aj B5) .none kV21 dc21 pm21 an21 cd21 ct21),sl21⟩) (c21:PySem.W.codeIn K cd21 "_law_turned_right" = true) (k21:PySem.W.keepIn K (.ref f21) = true)
    (a22:PySem.W.nsIn K mainGlobals "law" = some (some (.ref f22))) (l22:K.lookup f22 = some ⟨oc22,od22,.func (PySem.W.fnOf "law" "law" (Bc Kw) (A9 Kw) (Aj Kw) .none kV22 dc22 pm22 an22 cd22 ct22),sl22⟩) (c22:PySem.W.codeIn K cd22 "law" = true) (k22:PySem.W.keepIn K (.ref f22) = true)
    (z_abs:PySem.W.nsIn K mainGlobals "abs" = some none)
    (z_all:PySem.W.nsIn K mainGlobals "all" = some none)
    (z_dict:PySem.W.nsIn K mainGlobals "dict" = some none)
    (z_len:PySem.W.nsIn K mainGlobals "len" = some none)
    (z_list:PySem.W.nsIn K mainGlobals "list" = some none)
    (z_max:PySem.W.nsIn K mainGlobals "max" = some none)
    (z_range:PySem.W.nsIn K mainGlobals "range" = some none)
    (z_sorted:PySem.W.nsIn K mainGlobals "sorted" = some none)
    (z_sum:PySem.W.nsIn K mainGlobals "sum" = some none)
    (z_tuple:PySem.W.nsIn K mainGlobals "tuple" = some none)
    (z_zip:PySem.W.nsIn K mainGlobals "zip" = some none) :
    ∃ fd:FuncData,(∀ (s:Shared) (v:Value),BindsTo s fd ⟨[v],[]⟩ [("script",v)]) ∧ ∀ base:Heap,K.In base → base.Ns mainGlobals mg → FnOk l.prog w K mg base CX0 6 fa fd ["script"] (spF K 1 U9):=by
  have e:=hfa.symm.trans (PySem.W.mg_of X G a22)
  cases e
  have F0:=B6 (st:=Hd) l0 c0 k0
  have b0:=F0.binds (ps:=["script"]) fun _ _ _ _ _ _=>Ko (fun _=>rfl)
  have F1:=B6 (st:=Hh) l1 c1 k1
  have b1:=F1.binds (ps:=["deck","most"]) fun _ _ _ _ _ _=>O1 (fun _ _=>rfl)
  have F2:=B6 (st:=Dc) l2 c2 k2
  have b2:=F2.binds (ps:=["one","other"]) fun _ _ _ _ _ _=>O1 (fun _ _=>rfl)
  have F3:=B6 (st:=Dg) l3 c3 k3
  have b3:=F3.binds (ps:=["places","place"]) fun _ _ _ _ _ _=>O1 (fun _ _=>rfl)
  have F4:=B6 (st:=Cg) l4 c4 k4
  have b4:=F4.binds (ps:=["point"]) fun _ _ _ _ _ _=>Ko (fun _=>rfl)
  have F5:=B6 (st:=Dh) l5 c5 k5
  have b5:=F5.binds (ps:=["points"]) fun _ _ _ _ _ _=>Ko (fun _=>rfl)
  have F6:=B6 (st:=De) l6 c6 k6
  have b6:=F6.binds (ps:=["places","place"]) fun _ _ _ _ _ _=>O1 (fun _ _=>rfl)
  have F7:=B6 (st:=Ef) l7 c7 k7
  have b7:=F7.binds (ps:=["points"]) fun _ _ _ _ _ _=>Ko (fun _=>rfl)
  have F8:=B6 (st:=Cp) l8 c8 k8
  have b8:=F8.binds (ps:=["points"]) fun _ _ _ _ _ _=>Ko (fun _=>rfl)
  have F9:=B6 (st:=Hc) l9 c9 k9
  have b9:=F9.binds (ps:=["points","at"]) fun _ _ _ _ _ _=>O1 (fun _ _=>rfl)
  have F10:=B6 (st:=Ev) l10 c10 k10
  have b10:=F10.binds (ps:=["point"]) fun _ _ _ _ _ _=>Ko (fun _=>rfl)
  have F11:=B6 (st:=Df) l11 c11 k11
  have b11:=F11.binds (ps:=["points"]) fun _ _ _ _ _ _=>Ko (fun _=>rfl)
  have F12:=B6 (st:=Cq) l12 c12 k12
  have b12:=F12.binds (ps:=["points"]) fun _ _ _ _ _ _=>Ko (fun _=>rfl)
  have F13:=B6 (st:=Dm) l13 c13 k13
  have b13:=F13.binds (ps:=["points"]) fun _ _ _ _ _ _=>Ko (fun _=>rfl)
  have F14:=B6 (st:=Dr) l14 c14 k14
  have b14:=F14.binds (ps:=["points"]) fun _ _ _ _ _ _=>Ko (fun _=>rfl)
  have F15:=B6 (st:=Eh) l15 c15 k15
  have b15:=F15.binds (ps:=["points"]) fun _ _ _ _ _ _=>Ko (fun _=>rfl)
  have F16:=B6 (st:=Ce) l16 c16 k16
  have b16:=F16.binds (ps:=["deck","points"]) fun _ _ _ _ _ _=>O1 (fun _ _=>rfl)
  have F17:=B6 (st:=Fy) l17 c17 k17
  have b17:=F17.binds (ps:=["deck","many"]) fun _ _ _ _ _ _=>O1 (fun _ _=>rfl)
  have F18:=B6 (st:=E2) l18 c18 k18
  have b18:=F18.binds (ps:=["deck","kind"]) fun _ _ _ _ _ _=>O1 (fun _ _=>rfl)
  have F19:=B6 (st:=Ha) l19 c19 k19
  have b19:=F19.binds (ps:=["deck","most"]) fun _ _ _ _ _ _=>O1 (fun _ _=>rfl)
  have F20:=B6 (st:=Do) l20 c20 k20
  have b20:=F20.binds (ps:=["points"]) fun _ _ _ _ _ _=>Ko (fun _=>rfl)
  have F21:=B6 (st:=B5) l21 c21 k21
  have b21:=F21.binds (ps:=["deck","points"]) fun _ _ _ _ _ _=>O1 (fun _ _=>rfl)
  have F22:=B6 (st:=Kw) l22 c22 k22
  have b22:=F22.binds (ps:=["script"]) fun _ _ _ _ _ _=>Ko (fun _=>rfl)
  let C:Defs K mg:={ f_l_deck:=_,d_l_deck:=_,F_l_deck:=F0,b_l_deck:=b0,g_l_deck:=PySem.W.mg_of X G a0,f_l_draw:=_,d_l_draw:=_,F_l_draw:=F1,b_l_draw:=b1,g_l_draw:=PySem.W.mg_of X G a1,f_lies_below:=_,d_lies_below:=_,F_lies_below:=F2,b_lies_below:=b2,g_lies_below:=PySem.W.mg_of X G a2,f_many_below:=_,d_many_below:=_,F_many_below:=F3,b_many_below:=b3,g_many_below:=PySem.W.mg_of X G a3,f_room_place_of:=_,d_room_place_of:=_,F_room_place_of:=F4,b_room_place_of:=b4,g_room_place_of:=PySem.W.mg_of X G a4,f_room_below:=_,d_room_below:=_,F_room_below:=F5,b_room_below:=b5,g_room_below:=PySem.W.mg_of X G a5,f_many_above:=_,d_many_above:=_,F_many_above:=F6,b_many_above:=b6,g_many_above:=PySem.W.mg_of X G a6,f_room_best:=_,d_room_best:=_,F_room_best:=F7,b_room_best:=b7,g_room_best:=PySem.W.mg_of X G a7,f_l_more_right:=_,d_l_more_right:=_,F_l_more_right:=F8,b_l_more_right:=b8,g_l_more_right:=PySem.W.mg_of X G a8,f_l_flat:=_,d_l_flat:=_,F_l_flat:=F9,b_l_flat:=b9,g_l_flat:=PySem.W.mg_of X G a9,f_place_of:=_,d_place_of:=_,F_place_of:=F10,b_place_of:=b10,g_place_of:=PySem.W.mg_of X G a10,f_below_each:=_,d_below_each:=_,F_below_each:=F11,b_below_each:=b11,g_below_each:=PySem.W.mg_of X G a11,f_pairs_in_all:=_,d_pairs_in_all:=_,F_pairs_in_all:=F12,b_pairs_in_all:=b12,g_pairs_in_all:=PySem.W.mg_of X G a12,f_room_pairs:=_,d_room_pairs:=_,F_room_pairs:=F13,b_room_pairs:=b13,g_room_pairs:=PySem.W.mg_of X G a13,f_above_each:=_,d_above_each:=_,F_above_each:=F14,b_above_each:=b14,g_above_each:=PySem.W.mg_of X G a14,f_stairs_of:=_,d_stairs_of:=_,F_stairs_of:=F15,b_stairs_of:=b15,g_stairs_of:=PySem.W.mg_of X G a15,f_l_plane_right:=_,d_l_plane_right:=_,F_l_plane_right:=F16,b_l_plane_right:=b16,g_l_plane_right:=PySem.W.mg_of X G a16,f_l_names:=_,d_l_names:=_,F_l_names:=F17,b_l_names:=b17,g_l_names:=PySem.W.mg_of X G a17,f_l_number:=_,d_l_number:=_,F_l_number:=F18,b_l_number:=b18,g_l_number:=PySem.W.mg_of X G a18,f_l_room:=_,d_l_room:=_,F_l_room:=F19,b_l_room:=b19,g_l_room:=PySem.W.mg_of X G a19,f_l_by_names:=_,d_l_by_names:=_,F_l_by_names:=F20,b_l_by_names:=b20,g_l_by_names:=PySem.W.mg_of X G a20,f_l_turned_right:=_,d_l_turned_right:=_,F_l_turned_right:=F21,b_l_turned_right:=b21,g_l_turned_right:=PySem.W.mg_of X G a21,f_law:=_,d_law:=_,F_law:=F22,b_law:=b22,g_law:=PySem.W.mg_of X G a22,n_abs:=PySem.W.mg_none_of X G z_abs,n_all:=PySem.W.mg_none_of X G z_all,n_dict:=PySem.W.mg_none_of X G z_dict,n_len:=PySem.W.mg_none_of X G z_len,n_list:=PySem.W.mg_none_of X G z_list,n_max:=PySem.W.mg_none_of X G z_max,n_range:=PySem.W.mg_none_of X G z_range,n_sorted:=PySem.W.mg_none_of X G z_sorted,n_sum:=PySem.W.mg_none_of X G z_sum,n_tuple:=PySem.W.mg_none_of X G z_tuple,n_zip:=PySem.W.mg_none_of X G z_zip }
  refine ⟨PySem.W.fnOf "law" "law" (Bc Kw) (A9 Kw) (Aj Kw) .none kV22 dc22 pm22 an22 cd22 ct22,fun s v=>.of_eq rfl,fun base _ _=>?_⟩
  exact Ae9 C
theorem Aj7 {l:PySem.W.OpenLaw} {q:Program} {loose:List Str} {XP:(Str → Option Value) → Heap → Prop} {YP:World → Heap → Prop} {d:DefRec} {K:Params → PySem.W.Frag} (hn:l.most = some 63) (hdf:d.params.defaults = [])
    (hY:∀ (w:World) (h:Heap),YP w h → (K w.params).In h)
    (F:∀ (w:World) (mg:Str → Option Value) (fa:Addr) (h:Heap),(K w.params).In h → h.Ns mainGlobals mg → mg d.name = some (.ref fa) →
      ∃ fd:FuncData,(∀ (s:Shared) (u:Value),BindsTo s fd ⟨[u],[]⟩ [("script",u)]) ∧ ∀ base:Heap,(K w.params).In base → base.Ns mainGlobals mg → FnOk l.prog w (K w.params) mg base CX0 6 fa fd ["script"] (spF (K w.params) 1 U9)) :
    PySem.W.WalkO q loose XP YP l.row.toRowW d [] (fun f vs=>PySem.call f vs):=
  Att.Ae8 (k:=6) (x := "script") hn hdf ⟨rfl,by decide,by decide⟩ hY F (fun ns hl hb=>Aah ns hl hb)
end Lw
open PySem PySem.W PyProof.Rows
set_option maxRecDepth 100000 in
set_option maxHeartbeats 0 in
theorem PySem.Challenge.cw_belowpoints_k32_whole_room_by_planes_holds : PySem.Challenge.rw_belowpoints_k32_whole_room_by_planes.Holds := by
  w_on; o_law; k_head; (case hw => w_witness2)
  k_fill
  refine Lw.Aj7 (l := PySem.Challenge.rw_belowpoints_k32_whole_room_by_planes) rfl rfl (fun w h Y => PySem.W.kIn_of Y) ?F
  case F =>
    intro w mg fa h KX G hmg
    refine' Lw.Ago KX G hmg  ?a0 ?l0 ?c0 ?k0 ?a1 ?l1 ?c1 ?k1 ?a2 ?l2 ?c2 ?k2 ?a3 ?l3 ?c3 ?k3 ?a4 ?l4 ?c4 ?k4 ?a5 ?l5 ?c5 ?k5 ?a6 ?l6 ?c6 ?k6 ?a7 ?l7 ?c7 ?k7 ?a8 ?l8 ?c8 ?k8 ?a9 ?l9 ?c9 ?k9 ?a10 ?l10 ?c10 ?k10 ?a11 ?l11 ?c11 ?k11 ?a12 ?l12 ?c12 ?k12 ?a13 ?l13 ?c13 ?k13 ?a14 ?l14 ?c14 ?k14 ?a15 ?l15 ?c15 ?k15 ?a16 ?l16 ?c16 ?k16 ?a17 ?l17 ?c17 ?k17 ?a18 ?l18 ?c18 ?k18 ?a19 ?l19 ?c19 ?k19 ?a20 ?l20 ?c20 ?k20 ?a21 ?l21 ?c21 ?k21 ?a22 ?l22 ?c22 ?k22 ?z_abs ?z_all ?z_dict ?z_len ?z_list ?z_max ?z_range ?z_sorted ?z_sum ?z_tuple ?z_zip
    (case a0 => k_is); (case l0 => k_is); (case c0 => k_is); (case k0 => k_is)
    (case a1 => k_is); (case l1 => k_is); (case c1 => k_is); (case k1 => k_is)
    (case a2 => k_is); (case l2 => k_is); (case c2 => k_is); (case k2 => k_is)
    (case a3 => k_is); (case l3 => k_is); (case c3 => k_is); (case k3 => k_is)
    (case a4 => k_is); (case l4 => k_is); (case c4 => k_is); (case k4 => k_is)
    (case a5 => k_is); (case l5 => k_is); (case c5 => k_is); (case k5 => k_is)
    (case a6 => k_is); (case l6 => k_is); (case c6 => k_is); (case k6 => k_is)
    (case a7 => k_is); (case l7 => k_is); (case c7 => k_is); (case k7 => k_is)
    (case a8 => k_is); (case l8 => k_is); (case c8 => k_is); (case k8 => k_is)
    (case a9 => k_is); (case l9 => k_is); (case c9 => k_is); (case k9 => k_is)
    (case a10 => k_is); (case l10 => k_is); (case c10 => k_is); (case k10 => k_is)
    (case a11 => k_is); (case l11 => k_is); (case c11 => k_is); (case k11 => k_is)
    (case a12 => k_is); (case l12 => k_is); (case c12 => k_is); (case k12 => k_is)
    (case a13 => k_is); (case l13 => k_is); (case c13 => k_is); (case k13 => k_is)
    (case a14 => k_is); (case l14 => k_is); (case c14 => k_is); (case k14 => k_is)
    (case a15 => k_is); (case l15 => k_is); (case c15 => k_is); (case k15 => k_is)
    (case a16 => k_is); (case l16 => k_is); (case c16 => k_is); (case k16 => k_is)
    (case a17 => k_is); (case l17 => k_is); (case c17 => k_is); (case k17 => k_is)
    (case a18 => k_is); (case l18 => k_is); (case c18 => k_is); (case k18 => k_is)
    (case a19 => k_is); (case l19 => k_is); (case c19 => k_is); (case k19 => k_is)
    (case a20 => k_is); (case l20 => k_is); (case c20 => k_is); (case k20 => k_is)
    (case a21 => k_is); (case l21 => k_is); (case c21 => k_is); (case k21 => k_is)
    (case a22 => k_is); (case l22 => k_is); (case c22 => k_is); (case k22 => k_is)
    (case z_abs => k_is)
    (case z_all => k_is)
    (case z_dict => k_is)
    (case z_len => k_is)
    (case z_list => k_is)
    (case z_max => k_is)
    (case z_range => k_is)
    (case z_sorted => k_is)
    (case z_sum => k_is)
    (case z_tuple => k_is)
    (case z_zip => k_is)
